"""Many long rows of calls against a model that keeps nothing up: it works out everything anew from plain facts."""

import random
import unittest

from helper import flat, listing, question, told

# The arguments of the plain calls: k a kind, t a thing, h a holder, a an attribute, x a value, i an index, b a bit,
# m how many answers are kept at most.
PLAIN = {1: "k", 3: "kax", 4: "ka", 5: "kh", 6: "tb", 7: "tax", 8: "ta", 9: "ta", 10: "th", 11: "h", 12: "h", 13: "t",
         15: "i", 16: "i", 19: "bm", 20: "", 21: "", 22: "t", 23: "tk"}


def merged(sequences):
    """The merged row and the rows left, member by member."""
    sequences = [list(sequence) for sequence in sequences if sequence]
    if not sequences:
        return [], []
    tails = [set(sequence[1:]) for sequence in sequences]
    for head in (sequence[0] for sequence in sequences):
        if not any(head in tail for tail in tails):
            rest, left = merged([s[1:] if s[0] == head else s for s in sequences])
            return [head] + rest, left
    return [], sequences


class Model:

    def __init__(self):
        self.parents = {}
        self.defaults = {}
        self.things = {}
        self.own = {}
        self.made = 0
        self.indexes = []
        self.begin_cache(0, 4)

    def begin_cache(self, rule, most):
        self.rule, self.most = rule, most
        self.kept = {}
        self.clock = self.hits = self.misses = self.fallen = self.forgotten = 0

    def order(self, k):
        return [k] + merged([self.order(p) for p in self.parents[k]] + [self.parents[k]])[0]

    def has(self, t, a):
        if (t, a) in self.own:
            return self.own[t, a], 0
        for k in self.order(self.things[t][0]):
            if (k, a) in self.defaults:
                return self.defaults[k, a], k
        return None

    def held(self, h):
        return sorted(t for t in self.things if self.things[t][1] == h)

    def inside(self, h):
        return [n for t in self.held(h) for n in [t] + self.inside(t)]

    def rows(self, attributes):
        found = []
        for t in self.things:
            had = [self.has(t, a) for a in attributes]
            if all(had):
                found.append(tuple(h[0] for h in had) + (t,))
        return sorted(found)

    def fall(self, hangs):
        for key in [key for key in self.kept if hangs(key)]:
            del self.kept[key]
            self.fallen += 1

    def fall_by_attribute(self, a):
        self.fall(lambda key: a in [part[0] for part in self.parts(key)[0] + self.parts(key)[1]])

    @staticmethod
    def parts(q):
        cut = 5 + 3 * q[4]
        return ([q[at:at + 3] for at in range(5, cut, 3)], [q[at:at + 2] for at in range(cut + 1, len(q), 2)])

    @staticmethod
    def holds(had, sort, x):
        if sort == 7:
            return had is None
        if had is None:
            return False
        return [had[0] == x, had[0] < x, had[0] <= x, had[0] > x, had[0] >= x, had[0] != x, True][sort]

    def plan(self, q):
        conditions = self.parts(q)[0]
        best = (0, 0, len(self.things))
        for at, attributes in enumerate(self.indexes):
            if not all(any(c[0] == a and c[1] < 7 for c in conditions) for a in attributes):
                continue
            values = {}
            for a, sort, x in conditions:
                if sort == 0:
                    values.setdefault(a, x)
            asked = 0
            while asked < len(attributes) and attributes[asked] in values:
                asked += 1
            bounds = []
            if asked < len(attributes):
                bounds = [c for c in conditions if c[0] == attributes[asked] and c[1] in (1, 2, 3, 4)]
            tells = 2 * asked + bool(bounds)
            if tells > best[1]:
                looked = [row for row in self.rows(attributes)
                          if all(row[n] == values[attributes[n]] for n in range(asked))
                          and all(self.holds((row[asked],), sort, x) for a, sort, x in bounds)]
                best = (at + 1, tells, len(looked))
        return list(best)

    def search(self, q):
        conditions, sortings = self.parts(q)
        found = []
        for t in sorted(self.things):
            if q[0] and q[0] not in self.order(self.things[t][0]):
                continue
            if q[1] >= 0 and t not in (self.inside(q[1]) if q[2] else self.held(q[1])):
                continue
            if all(self.holds(self.has(t, a), sort, x) for a, sort, x in conditions):
                found.append(t)
        # Sorts that keep the order of like ones, from the last attribute to the first.
        for a, down in reversed(sortings):
            having = [t for t in found if self.has(t, a)]
            lacking = [t for t in found if not self.has(t, a)]
            having.sort(key=lambda t: self.has(t, a)[0] * (-1 if down else 1))
            found = having + lacking
        return found[:q[3]]

    def ask(self, q):
        self.clock += 1
        key = tuple(q)
        if key in self.kept:
            self.hits += 1
            self.kept[key][2] = self.clock
            return [1, 0, len(self.kept[key][0])] + self.kept[key][0]
        self.misses += 1
        looked, found = self.plan(q)[2], self.search(q)
        if self.most:
            if len(self.kept) == self.most:
                del self.kept[min(self.kept, key=lambda other: self.kept[other][1 + self.rule])]
                self.forgotten += 1
            self.kept[key] = [found, self.clock, self.clock]
        return [0, looked, len(found)] + found

    @staticmethod
    def fits(place, args):
        ranges = {"k": (1, 30), "t": (1, 200), "h": (0, 200), "a": (0, 15), "x": (-10 ** 9, 10 ** 9), "i": (0, 5),
                  "b": (0, 1), "m": (0, 20)}
        return all(ranges[name][0] <= arg <= ranges[name][1] for name, arg in zip(PLAIN[place], args))

    def question_fits(self, q):
        if len(q) < 6 or not (0 <= q[0] <= 30 and -1 <= q[1] <= 200 and q[2] in (0, 1) and 0 <= q[3] <= 200
                              and 0 <= q[4] <= 6):
            return False
        cut = 5 + 3 * q[4]
        if len(q) <= cut or not 0 <= q[cut] <= 4 or len(q) != cut + 1 + 2 * q[cut]:
            return False
        conditions, sortings = self.parts(q)
        return (all(0 <= a <= 15 and 0 <= sort <= 7 and abs(x) <= 10 ** 9 for a, sort, x in conditions)
                and all(0 <= a <= 15 and down in (0, 1) for a, down in sortings))

    def answer(self, row):
        place, args = row[0], row[1:]
        if place in PLAIN and len(args) == len(PLAIN[place]):
            if not self.fits(place, args):
                return [-1]
            if place in (1, 3, 4, 5) and args[0] not in self.parents:
                return [-2]
            if place in (6, 7, 8, 9, 10, 13, 22, 23) and args[0] not in self.things:
                return [-2]
            if place in (11, 12) and args[0] and args[0] not in self.things:
                return [-2]
            if place == 23 and args[1] not in self.parents:
                return [-2]
            return getattr(self, f"plain_{place}")(*args)
        if place in (0, 2, 14, 17, 18) and args and args[0] == len(args) - 1:
            return getattr(self, f"list_{place}")(args[1:])
        return [-100]

    def list_0(self, parents, only_why=False):
        if len(parents) > 6 or any(not 1 <= p <= 30 for p in parents):
            return [-1]
        if any(p not in self.parents for p in parents):
            return [-2]
        if any(parents.count(p) > 1 for p in parents):
            return [-3]
        left = merged([self.order(p) for p in parents] + [parents])[1]
        if only_why:
            return [len(left)] + [sequence[0] for sequence in left]
        if len(self.parents) >= 30:
            return [-4]
        if left:
            return [-5]
        number = len(self.parents) + 1
        self.parents[number] = parents
        return self.plain_1(number)

    def list_2(self, parents):
        return self.list_0(parents, only_why=True)

    def list_14(self, attributes):
        if len(attributes) not in (1, 2, 3) or any(a not in range(16) for a in attributes):
            return [-1]
        if any(attributes.count(a) > 1 for a in attributes):
            return [-3]
        if len(self.indexes) >= 6:
            return [-4]
        self.indexes.append(attributes)
        return [len(self.indexes) - 1]

    def list_17(self, q):
        return self.ask(q) if self.question_fits(q) else [-1]

    def list_18(self, q):
        return self.plan(q) if self.question_fits(q) else [-1]

    def plain_1(self, k):
        return [len(self.order(k))] + self.order(k)

    def plain_3(self, k, a, x):
        self.defaults[k, a] = x
        self.fall_by_attribute(a)
        return [0]

    def plain_4(self, k, a):
        if self.defaults.pop((k, a), None) is None:
            return [-3]
        self.fall_by_attribute(a)
        return [0]

    def plain_5(self, k, h):
        if h and h not in self.things:
            return [-3]
        if self.made >= 200:
            return [-4]
        self.made += 1
        self.things[self.made] = [k, h]
        self.fall(lambda key: True)
        return [self.made]

    def plain_6(self, t, deep):
        gone = [t] + self.inside(t)
        if len(gone) > 1 and not deep:
            return [-3]
        for number in gone:
            del self.things[number]
        self.own = {key: x for key, x in self.own.items() if key[0] in self.things}
        self.fall(lambda key: True)
        return [len(gone)]

    def plain_7(self, t, a, x):
        self.own[t, a] = x
        self.fall_by_attribute(a)
        return [0]

    def plain_8(self, t, a):
        if self.own.pop((t, a), None) is None:
            return [-3]
        self.fall_by_attribute(a)
        return [0]

    def plain_9(self, t, a):
        had = self.has(t, a)
        return [1, had[0], had[1]] if had else [0, 0, 0]

    def plain_10(self, t, h):
        if h and h not in self.things:
            return [-3]
        if h in [t] + self.inside(t):
            return [-4]
        self.things[t][1] = h
        self.fall(lambda key: key[1] != -1)
        return [0]

    def plain_11(self, h):
        return [len(self.held(h))] + self.held(h)

    def plain_12(self, h):
        return [len(self.inside(h))] + self.inside(h)

    def plain_13(self, t):
        chain = []
        while self.things[t][1]:
            t = self.things[t][1]
            chain.append(t)
        return [len(chain)] + chain

    def plain_15(self, i):
        if i >= len(self.indexes):
            return [-2]
        del self.indexes[i]
        return [0]

    def plain_16(self, i):
        if i >= len(self.indexes):
            return [-2]
        found = self.rows(self.indexes[i])
        return [len(found), len(self.indexes[i])] + [number for row in found for number in row]

    def plain_19(self, rule, most):
        self.begin_cache(rule, most)
        return [0]

    def plain_20(self):
        return [self.hits, self.misses, self.fallen, self.forgotten, len(self.kept)]

    def plain_21(self):
        numbers = [len(self.kept)]
        for key, entry in self.kept.items():
            numbers += [len(key)] + list(key) + entry[1:]
        return numbers

    def plain_22(self, t):
        pairs = [number for key in sorted(self.own) if key[0] == t for number in (key[1], self.own[key])]
        return self.things[t] + [len(pairs)] + pairs

    def plain_23(self, t, k):
        return [int(k in self.order(self.things[t][0]))]


class Caller:
    """Makes rows of calls by chance from a seed, mostly ones that are taken."""

    WRITES = (3, 3, 4, 4, 5, 6) + (7,) * 8 + (8,) * 5 + (10,) * 4
    READS = (1, 9, 11, 12, 13, 16, 16, 20, 21, 22, 23)

    def __init__(self, seed):
        self.chance = random.Random(seed)
        self.asked = []

    def argument(self, name):
        pick = self.chance.randint
        if self.chance.random() < 0.01:
            return self.chance.choice((-1000000001, -2, -1, 0, 6, 16, 21, 31, 201, 1000000001, 2 ** 63 - 1, -2 ** 63))
        return {"k": pick(1, 7), "t": pick(1, 20), "h": max(0, pick(-6, 20)), "a": pick(0, 3), "x": pick(-2, 2),
                "i": pick(0, 3), "b": pick(0, 1), "m": pick(0, 5)}[name]

    def some(self, name, most):
        return [self.argument(name) for _ in range(self.chance.randint(0, most))]

    def question(self):
        if self.asked and self.chance.random() < 0.5:
            return self.chance.choice(self.asked[-6:])
        sorts = (0, 0, 0, 1, 2, 3, 4, 5, 6, 6, 7)
        pick = self.chance.choice
        where = [(self.argument("a"), pick(sorts), self.argument("x")) for _ in range(pick((0, 1, 1, 2, 2, 3, 4, 6)))]
        by = [(self.argument("a"), pick((0, 1))) for _ in range(pick((0, 0, 1, 2, 4)))]
        numbers = question(kind=pick((0, 0, 0, 1, 2, 3, 4)), place=pick((-1, -1, -1, 0, 1, 2, 3)), deep=pick((0, 1)),
                           most=pick((0, 1, 2, 200, 200, 200)), where=where, by=by)
        if self.chance.random() < 0.02:
            numbers[self.chance.randrange(len(numbers))] += pick((-1, 1, 7))
        self.asked.append(numbers)
        return numbers

    def beginning(self):
        """Some kinds, and things in one another."""
        made = [[5, self.chance.randint(1, 4), self.chance.randint(0, number)] for number in range(18)]
        return [[0, 0], [0, 0], [0, 1, 1], [0, 2, 1, 2]] + made

    def row(self):
        sort = self.chance.random()
        if sort < 0.02:
            return [self.chance.randint(-1, 25) for _ in range(self.chance.randint(1, 6))]
        if sort < 0.06:
            return listing(0, self.some("k", 3))
        if sort < 0.09:
            return listing(2, self.some("k", 4))
        if sort < 0.13:
            return listing(14, self.some("a", 3))
        if sort < 0.45:
            return listing(self.chance.choice((17, 17, 17, 18)), self.question())
        if sort < 0.48:
            place = self.chance.choice((15, 15, 19))
        else:
            place = self.chance.choice(self.WRITES if sort < 0.8 else self.READS)
        return [place] + [self.argument(name) for name in PLAIN[place]]


class AgainstTheModel(unittest.TestCase):

    def test_rows_of_calls_by_chance(self):
        for seed in range(150):
            caller = Caller(seed)
            calls = caller.beginning() + [caller.row() for _ in range(250)]
            self.assertLessEqual(len(flat(calls)), 16000)
            model = Model()
            for at, (row, answered) in enumerate(zip(calls, told(*calls))):
                self.assertEqual(answered, model.answer(row), f"seed {seed}, call {at}: {row}")


if __name__ == "__main__":
    unittest.main()
