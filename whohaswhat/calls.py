"""The calls: which whole numbers and lists each has, and how a list of calls is taken apart."""

# By the call's number: what each of its whole numbers stands for.
WHOLES = (
    (),
    ("new right", "day", "day", "lands"),
    ("new deed", "day", "day", "right", "person", "person", "parts", "lands"),
    ("new deed", "day", "day", "right", "person", "person", "sole", "day", "day", "lands"),
    ("new deed", "day", "day", "right", "person", "person", "parts", "lands"),
    ("new deed", "day", "day", "pledge"),
    ("new deed", "day", "day", "pledge"),
    ("new deed", "day", "day", "no annulment"),
    ("right", "land", "day", "day"),
    ("person", "land", "day", "day"),
    ("person", "land", "day", "day"),
    ("right", "person", "land", "day", "day"),
    ("grant", "day"),
    ("land", "day"),
    ("right", "land", "day", "day"),
    ("right", "land", "day", "day"),
    (),
    ("deed",),
    ("right", "day", "day", "day", "day"),
    ("land", "day", "day"),
)

# By the call's number: what each of its lists tells.
LISTS = (
    ("leaves",),
    ("boxes", "owners"),
    ("box",),
    ("box",),
    ("box",),
    (),
    (),
    (),
    ("variant",),
    ("variant",),
    (),
    (),
    (),
    ("variant",),
    ("variant",),
    ("variant",),
    (),
    (),
    (),
    ("variant",),
)


class Call:
    """One call: its number, its whole numbers, its lists, and where the next call begins."""

    def __init__(self, number, wholes, rows, end):
        self.number = number
        self.wholes = wholes
        self.rows = rows
        self.end = end


def take_call(numbers, start):
    number = numbers[start]
    end = start + 1 + len(WHOLES[number])
    wholes = numbers[start + 1:end]
    rows = []
    while len(rows) < len(LISTS[number]):
        begin = end + 1
        end = begin + numbers[end]
        rows.append(numbers[begin:end])
    return Call(number, wholes, rows, end)


def split_calls(numbers):
    found = []
    start = 0
    while start < len(numbers):
        call = take_call(numbers, start)
        found.append(call)
        start = call.end
    return found
