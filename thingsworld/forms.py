"""The forms of the calls and the ranges of their arguments."""

RANGES = {
    "kind": (1, 30),
    "thing": (1, 200),
    "thing or world": (0, 200),
    "holder": (0, 200),
    "attribute": (0, 15),
    "value": (-1000000000, 1000000000),
    "index": (0, 5),
    "deep": (0, 1),
    "rule": (0, 1),
    "most kept": (0, 20),
    "kind or any": (0, 30),
    "place": (-1, 200),
    "most told": (0, 200),
    "conditions": (0, 6),
    "relation": (0, 7),
    "sortings": (0, 4),
    "downwards": (0, 1),
}

# What each call's arguments are, by the call's place. A list is always a call's one argument.
FORMS = (
    ("list of parents",),
    ("kind",),
    ("list of parents",),
    ("kind", "attribute", "value"),
    ("kind", "attribute"),
    ("kind", "holder"),
    ("thing", "deep"),
    ("thing", "attribute", "value"),
    ("thing", "attribute"),
    ("thing", "attribute"),
    ("thing", "holder"),
    ("thing or world",),
    ("thing or world",),
    ("thing",),
    ("list of attributes",),
    ("index",),
    ("index",),
    ("list of a question",),
    ("list of a question",),
    ("rule", "most kept"),
    (),
    (),
    ("thing",),
    ("thing", "kind"),
)

QUESTION_HEAD = ("kind or any", "place", "deep", "most told", "conditions")


def has_list(form):
    """Whether a call of the form has a list for its argument."""
    return len(form) == 1 and form[0].startswith("list of")


def is_formed(row):
    """Whether a row is of one of the forms."""
    if len(row) == 0 or not 0 <= row[0] < len(FORMS):
        return False
    if has_list(FORMS[row[0]]):
        return len(row) > 1 and row[1] == len(row) - 2
    return len(row) == len(FORMS[row[0]]) + 1


def arguments_of(row):
    """The arguments of a formed row: its whole numbers, or the numbers of its list."""
    if has_list(FORMS[row[0]]):
        return row[2:]
    return row[1:]


def fit(names, numbers):
    """Whether each number is in the range of its name."""
    return all([RANGES[name][0] <= number <= RANGES[name][1] for name, number in zip(names, numbers)])


def is_question(numbers):
    """Whether the numbers are a question with all its parts in their ranges."""
    if len(numbers) < len(QUESTION_HEAD) or not fit(QUESTION_HEAD, numbers):
        return False
    sortings_at = 5 + 3 * numbers[4]
    if len(numbers) <= sortings_at or not fit(("sortings",), [numbers[sortings_at]]):
        return False
    sortings = numbers[sortings_at + 1:]
    if len(sortings) != 2 * numbers[sortings_at]:
        return False
    conditions = numbers[5:sortings_at]
    return (fit(("attribute", "relation", "value") * numbers[4], conditions)
            and fit(("attribute", "downwards") * numbers[sortings_at], sortings))


def is_in_range(form, arguments):
    """Whether the arguments of a call of the form are in their ranges."""
    if form == ("list of parents",):
        return len(arguments) <= 6 and fit(("kind",) * len(arguments), arguments)
    if form == ("list of attributes",):
        return 1 <= len(arguments) <= 3 and fit(("attribute",) * len(arguments), arguments)
    if form == ("list of a question",):
        return is_question(arguments)
    return fit(form, arguments)
