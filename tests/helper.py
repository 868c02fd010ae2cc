"""What the tests share: rows of calls, and the answers to them taken apart."""

from thingsworld.world import answers

REFUSED_FORM = [-100]
OUT_OF_RANGE = [-1]


def flat(rows):
    """The one list that is handed in for these rows."""
    calls = []
    for row in rows:
        calls.extend([0, len(row)])
        calls.extend(row)
    return calls


def told(*rows):
    """The answer to each row, all on one new object."""
    answered = answers(flat(rows))
    parts = []
    start = 0
    while start < len(answered):
        end = start + 1 + answered[start]
        parts.append(answered[start + 1:end])
        start = end
    if len(parts) != len(rows) or start != len(answered):
        raise ValueError("the answers are not one for each call")
    return parts


def last(*rows):
    """The answer to the last row."""
    return told(*rows)[-1]


def listing(place, numbers):
    return [place, len(numbers)] + list(numbers)


def kind(*parents):
    return listing(0, parents)


def order(k):
    return [1, k]


def why(*parents):
    return listing(2, parents)


def default(k, a, x):
    return [3, k, a, x]


def undefault(k, a):
    return [4, k, a]


def make(k, h=0):
    return [5, k, h]


def drop(t, deep=0):
    return [6, t, deep]


def give(t, a, x):
    return [7, t, a, x]


def unset(t, a):
    return [8, t, a]


def get(t, a):
    return [9, t, a]


def move(t, h):
    return [10, t, h]


def held(t):
    return [11, t]


def inside(t):
    return [12, t]


def holders(t):
    return [13, t]


def index(*attributes):
    return listing(14, attributes)


def unindex(i):
    return [15, i]


def rows(i):
    return [16, i]


def question(kind=0, place=-1, deep=0, most=200, where=(), by=()):
    """The numbers of a question; where: (attribute, sort, value) each; by: (attribute, downwards) each."""
    numbers = [kind, place, deep, most, len(where)]
    for condition in where:
        numbers.extend(condition)
    numbers.append(len(by))
    for sorting in by:
        numbers.extend(sorting)
    return numbers


def ask(**parts):
    return listing(17, question(**parts))


def plan(**parts):
    return listing(18, question(**parts))


def cache(rule, most):
    return [19, rule, most]


STATS = [20]
ENTRIES = [21]


def thing(t):
    return [22, t]


def isa(t, k):
    return [23, t, k]
