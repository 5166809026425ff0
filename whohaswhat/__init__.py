"""Who has what: rights in parts, the deeds about them, and whose leave is needed."""
