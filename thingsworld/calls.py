"""The calls, named as in the document: each answers a list of numbers, a refusal as its number alone."""

from thingsworld.cache import Cache
from thingsworld.forms import FORMS, arguments_of, is_formed, is_in_range
from thingsworld.kinds import Kind, merge_parents
from thingsworld.questions import Question
from thingsworld.search import plan_for, search
from thingsworld.things import held_by, holders_of, inside

MOST_KINDS = 30
MOST_THINGS = 200
MOST_INDEXES = 6


def listed(numbers):
    """The numbers as a list stands in an answer."""
    return [len(numbers)] + numbers


def has_twice(numbers):
    """Whether a number is told twice."""
    return len(set(numbers)) < len(numbers)


def refusal_of_parents(world, parents):
    """The refusal that the parents call for, or 0."""
    if any([parent not in world.kinds for parent in parents]):
        return -2
    if has_twice(parents):
        return -3
    return 0


def call_kind(world, parents):
    refusal = refusal_of_parents(world, parents)
    if refusal != 0:
        return [refusal]
    if len(world.kinds) == MOST_KINDS:
        return [-4]
    merging = merge_parents(world.kinds, parents)
    if len(merging.left) > 0:
        return [-5]
    number = len(world.kinds) + 1
    world.kinds[number] = Kind([number] + merging.merged)
    return listed(world.kinds[number].order)


def call_order(world, arguments):
    return listed(world.kinds[arguments[0]].order)


def call_why(world, parents):
    refusal = refusal_of_parents(world, parents)
    if refusal != 0:
        return [refusal]
    return listed([row[0] for row in merge_parents(world.kinds, parents).left])


def call_default(world, arguments):
    kind = arguments[0]
    attribute = arguments[1]
    world.kinds[kind].defaults[attribute] = arguments[2]
    world.default_written(kind, attribute)
    return [0]


def call_undefault(world, arguments):
    kind = arguments[0]
    attribute = arguments[1]
    defaults = world.kinds[kind].defaults
    if attribute not in defaults:
        return [-3]
    defaults.pop(attribute)
    world.default_written(kind, attribute)
    return [0]


def call_make(world, arguments):
    kind = arguments[0]
    holder = arguments[1]
    if not world.is_holder(holder):
        return [-3]
    if world.made == MOST_THINGS:
        return [-4]
    return [world.make(kind, holder)]


def call_drop(world, arguments):
    number = arguments[0]
    deep = arguments[1]
    within = inside(world.things, number)
    if deep == 0 and len(within) > 0:
        return [-3]
    world.drop([number] + within)
    return [1 + len(within)]


def call_set(world, arguments):
    number = arguments[0]
    attribute = arguments[1]
    world.things[number].own[attribute] = arguments[2]
    world.own_written(number, attribute)
    return [0]


def call_unset(world, arguments):
    number = arguments[0]
    attribute = arguments[1]
    own = world.things[number].own
    if attribute not in own:
        return [-3]
    own.pop(attribute)
    world.own_written(number, attribute)
    return [0]


def call_get(world, arguments):
    number = arguments[0]
    attribute = arguments[1]
    source = world.source_of(number, attribute)
    if source is None:
        return [0, 0, 0]
    return [1, world.value_of(number, attribute), source]


def call_move(world, arguments):
    number = arguments[0]
    holder = arguments[1]
    if not world.is_holder(holder):
        return [-3]
    if holder == number or holder in inside(world.things, number):
        return [-4]
    world.move(number, holder)
    return [0]


def call_held(world, arguments):
    return listed(held_by(world.things, arguments[0]))


def call_inside(world, arguments):
    return listed(inside(world.things, arguments[0]))


def call_holders(world, arguments):
    return listed(holders_of(world.things, arguments[0]))


def call_index(world, attributes):
    if has_twice(attributes):
        return [-3]
    if len(world.indexes) == MOST_INDEXES:
        return [-4]
    world.make_index(attributes)
    return [len(world.indexes) - 1]


def call_unindex(world, arguments):
    if arguments[0] >= len(world.indexes):
        return [-2]
    world.indexes.pop(arguments[0])
    return [0]


def call_rows(world, arguments):
    if arguments[0] >= len(world.indexes):
        return [-2]
    index = world.indexes[arguments[0]]
    answer = [len(index.rows), len(index.attributes)]
    for row in index.rows:
        answer.extend(row)
    return answer


def call_ask(world, numbers):
    question = Question(numbers)
    kept = world.cache.kept_answer(question)
    if kept is not None:
        return [1, 0] + listed(kept)
    looked_at = plan_for(world, question).looked_at
    found = search(world, question, looked_at)
    world.cache.keep(question, found)
    return [0, len(looked_at)] + listed(found)


def call_plan(world, numbers):
    plan = plan_for(world, Question(numbers))
    return [plan.taken, plan.told, len(plan.looked_at)]


def call_cache(world, arguments):
    world.cache = Cache(arguments[0], arguments[1])
    return [0]


def call_stats(world, arguments):
    cache = world.cache
    return [cache.hits, cache.misses, cache.fallen, cache.forgotten, len(cache.entries)]


def call_entries(world, arguments):
    answer = [len(world.cache.entries)]
    for entry in world.cache.entries:
        answer.extend(listed(entry.question.numbers))
        answer.extend([entry.put_at, entry.told_at])
    return answer


def call_thing(world, arguments):
    thing = world.things[arguments[0]]
    pairs = []
    for attribute in sorted(thing.own):
        pairs.extend([attribute, thing.own[attribute]])
    return [thing.kind, thing.holder] + listed(pairs)


def call_isa(world, arguments):
    return [1 if world.is_a(arguments[0], arguments[1]) else 0]


# A call's place in a row is its place here, so these stand in the document's order.
CALLS = (
    call_kind, call_order, call_why, call_default, call_undefault, call_make, call_drop, call_set,
    call_unset, call_get, call_move, call_held, call_inside, call_holders, call_index, call_unindex,
    call_rows, call_ask, call_plan, call_cache, call_stats, call_entries, call_thing, call_isa,
)


def names_missing(world, form, arguments):
    """Whether a thing or a kind that a call of the form names is not there."""
    for name, number in zip(form, arguments):
        if name == "thing" and number not in world.things:
            return True
        if name == "thing or world" and not world.is_holder(number):
            return True
        if name == "kind" and number not in world.kinds:
            return True
    return False


def answer_call(world, row):
    """The answer to one call on the world."""
    if not is_formed(row):
        return [-100]
    form = FORMS[row[0]]
    arguments = arguments_of(row)
    if not is_in_range(form, arguments):
        return [-1]
    if names_missing(world, form, arguments):
        return [-2]
    return CALLS[row[0]](world, arguments)
