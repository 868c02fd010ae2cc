"""Kept answers: hits, misses, forgetting, falling, the counts and the clock."""

import unittest

from helper import (ENTRIES, STATS, ask, cache, default, drop, get, give, index, kind, make, move, plan, question, rows,
                    thing, told, undefault, unindex, unset)

SOME = [kind(), kind(), make(1), make(1, 1), default(1, 0, 4), default(1, 5, 2), give(2, 1, 3), give(2, 5, 1)]


def after(*calls):
    return told(*SOME, *calls)[len(SOME):]


def kept(*entries):
    """The answer of entries for these: (question, put in, last told) each."""
    numbers = [len(entries)]
    for asked, put, last_told in entries:
        numbers += [len(asked)] + asked + [put, last_told]
    return numbers


def most(number):
    """One of many questions that differ in how many at most."""
    return {"most": number}


class HitsAndMisses(unittest.TestCase):

    def test_a_miss_then_a_hit(self):
        self.assertEqual(after(STATS, ask(), STATS, ask(), STATS, ENTRIES),
                         [[0, 0, 0, 0, 0], [0, 2, 2, 1, 2], [0, 1, 0, 0, 1], [1, 0, 2, 1, 2], [1, 1, 0, 0, 1],
                          kept((question(), 1, 2))])

    def test_a_new_object(self):
        self.assertEqual(told(STATS, ENTRIES), [[0, 0, 0, 0, 0], [0]])

    def test_questions_are_compared_as_they_were_told(self):
        first = {"where": ((0, 6, 1), (1, 6, 1))}
        other_value = {"where": ((0, 6, 1), (1, 6, 2))}
        other_order = {"where": ((1, 6, 1), (0, 6, 1))}
        self.assertEqual(after(ask(**first), ask(**other_value), ask(**other_order), STATS)[3], [0, 3, 0, 0, 3])

    def test_an_empty_answer_is_kept_too(self):
        self.assertEqual(after(ask(kind=9), ask(kind=9), STATS), [[0, 2, 0], [1, 0, 0], [1, 1, 0, 0, 1]])

    def test_a_refused_question_counts_nothing(self):
        self.assertEqual(after(ask(kind=31), [17, 1], STATS, ask(), ENTRIES),
                         [[-1], [-100], [0, 0, 0, 0, 0], [0, 2, 2, 1, 2], kept((question(), 1, 1))])

    def test_a_hit_with_an_index(self):
        self.assertEqual(after(index(0), ask(where=((0, 0, 4),)), ask(where=((0, 0, 4),)), plan(where=((0, 0, 4),))),
                         [[0], [0, 2, 2, 1, 2], [1, 0, 2, 1, 2], [1, 2, 2]])

    def test_the_clock_counts_hits_and_misses_but_not_plans(self):
        self.assertEqual(after(ask(), plan(), ask(), ask(kind=1), plan(), ask(kind=1), ask(), ENTRIES)[-1],
                         kept((question(), 1, 5), (question(kind=1), 3, 4)))


class Forgetting(unittest.TestCase):

    def test_four_at_most_by_rule_0_from_the_beginning(self):
        answered = after(*[ask(**most(number)) for number in range(4)], ask(**most(0)), STATS, ask(**most(4)), STATS, ENTRIES)
        self.assertEqual(answered[5], [1, 4, 0, 0, 4])
        self.assertEqual(answered[7], [1, 5, 0, 1, 4])
        self.assertEqual(answered[8], kept(*[(question(**most(number)), clock, clock)
                                             for number, clock in ((1, 2), (2, 3), (3, 4), (4, 6))]))

    def test_rule_0_forgets_the_one_put_in_first(self):
        answered = after(cache(0, 2), ask(**most(1)), ask(**most(2)), ask(**most(1)), ask(**most(3)), ENTRIES, ask(**most(1)),
                         ENTRIES, STATS)
        self.assertEqual(answered[5], kept((question(**most(2)), 2, 2), (question(**most(3)), 4, 4)))
        self.assertEqual(answered[6][0], 0)
        self.assertEqual(answered[7], kept((question(**most(3)), 4, 4), (question(**most(1)), 5, 5)))
        self.assertEqual(answered[8], [1, 4, 0, 2, 2])

    def test_rule_1_forgets_the_one_told_longest_ago(self):
        answered = after(cache(1, 2), ask(**most(1)), ask(**most(2)), ask(**most(1)), ask(**most(3)), ENTRIES, ask(**most(1)),
                         ask(**most(2)), ENTRIES, STATS)
        self.assertEqual(answered[5], kept((question(**most(1)), 1, 3), (question(**most(3)), 4, 4)))
        self.assertEqual(answered[6][0], 1)
        self.assertEqual(answered[8], kept((question(**most(1)), 1, 5), (question(**most(2)), 6, 6)))
        self.assertEqual(answered[9], [2, 4, 0, 2, 2])

    def test_rule_1_with_one_put_in_longest_ago(self):
        answered = after(cache(1, 3), ask(**most(1)), ask(**most(2)), ask(**most(3)), ask(**most(4)), ENTRIES)
        self.assertEqual(answered[5], kept(*[(question(**most(number)), number, number) for number in (2, 3, 4)]))

    def test_one_at_most(self):
        for rule in (0, 1):
            self.assertEqual(after(cache(rule, 1), ask(**most(1)), ask(**most(2)), ask(**most(2)), STATS, ENTRIES)[4:],
                             [[1, 2, 0, 1, 1], kept((question(**most(2)), 2, 3))])

    def test_none_at_most(self):
        for rule in (0, 1):
            self.assertEqual(after(cache(rule, 0), ask(), ask(), STATS, ENTRIES, make(1), STATS),
                             [[0], [0, 2, 2, 1, 2], [0, 2, 2, 1, 2], [0, 2, 0, 0, 0], [0], [3], [0, 2, 0, 0, 0]])

    def test_twenty_at_most(self):
        for rule in (0, 1):
            asked = [ask(**most(number)) for number in range(21)]
            self.assertEqual(after(cache(rule, 20), *asked[:20], STATS, asked[20], STATS)[-3::2],
                             [[0, 20, 0, 0, 20], [0, 21, 0, 1, 20]])

    def test_a_fallen_answer_leaves_room(self):
        answered = after(cache(0, 2), ask(), ask(by=((3, 0),)), give(1, 3, 1), ask(kind=1), STATS, ENTRIES)
        self.assertEqual(answered[5:], [[0, 3, 1, 0, 2], kept((question(), 1, 1), (question(kind=1), 3, 3))])

    def test_cache_begins_anew(self):
        answered = after(ask(), ask(), *[ask(**most(number)) for number in range(5)], make(1), cache(1, 1), STATS, ENTRIES,
                         ask(), ENTRIES, cache(1, 1), STATS, ENTRIES)
        self.assertEqual(answered[8:], [[0], [0, 0, 0, 0, 0], [0], [0, 3, 3, 1, 2, 3], kept((question(), 1, 1)), [0],
                                        [0, 0, 0, 0, 0], [0]])

    def test_a_refused_cache_changes_nothing(self):
        self.assertEqual(after(ask(), cache(2, 4), cache(0, 21), cache(-1, 0), cache(0, -1), STATS)[1:],
                         [[-1], [-1], [-1], [-1], [0, 1, 0, 0, 1]])


class Falling(unittest.TestCase):

    def assertFalls(self, parts, *writes):
        """Each of the writes, alone, makes the kept answer fall."""
        for write in writes:
            with self.subTest(parts=parts, write=write):
                answered = after(ask(**parts), write, STATS, ENTRIES, ask(**parts))
                self.assertGreaterEqual(answered[1][0], 0)
                self.assertEqual(answered[2:4], [[0, 1, 1, 0, 0], [0]])
                self.assertEqual(answered[4][0], 0)

    def assertStays(self, parts, *writes):
        """The kept answer stays whichever of the writes comes."""
        for write in writes:
            with self.subTest(parts=parts, write=write):
                answered = after(ask(**parts), write, STATS, ENTRIES, ask(**parts))
                self.assertEqual(answered[2:4], [[0, 1, 0, 0, 1], kept((question(**parts), 1, 1))])
                self.assertEqual(answered[4], [1, 0] + answered[0][2:])

    # Each writes attribute 5; thing 1, made of kind 1, has the default, thing 2 its own.
    WRITES = (give(1, 5, 9), give(2, 5, 9), give(2, 5, 1), unset(2, 5), default(1, 5, 9), default(1, 5, 2), default(2, 5, 7),
              undefault(1, 5))

    def test_an_attribute_in_its_conditions(self):
        for sort in range(8):
            self.assertFalls({"where": ((5, sort, 2),)}, *self.WRITES)
        self.assertFalls({"where": ((0, 6, 0), (5, 6, 0))}, *self.WRITES)

    def test_an_attribute_among_those_to_sort_by(self):
        self.assertFalls({"by": ((5, 0),)}, *self.WRITES)
        self.assertFalls({"by": ((0, 0), (1, 1), (2, 0), (5, 1))}, *self.WRITES)

    def test_things_that_it_does_not_ask_for(self):
        self.assertFalls({"kind": 2, "where": ((5, 0, 2),)}, *self.WRITES)
        self.assertFalls({"most": 0, "where": ((5, 0, 2),)}, *self.WRITES)

    def test_other_attributes(self):
        self.assertStays({"where": ((0, 6, 5), (1, 7, 5)), "by": ((2, 0),)}, *self.WRITES)
        self.assertStays({}, *self.WRITES)
        self.assertStays({"kind": 5, "place": 5, "deep": 1, "most": 5}, *self.WRITES)

    def test_things_moved(self):
        moves = (move(2, 0), move(2, 1), move(1, 0))
        for place in (0, 1, 2, 200):
            self.assertFalls({"place": place}, *moves)
            self.assertFalls({"place": place, "deep": 1}, *moves)
        self.assertStays({}, *moves)
        self.assertStays({"deep": 1, "where": ((0, 6, 0),)}, *moves)

    def test_things_made_and_dropped(self):
        for parts in ({}, {"kind": 2}, {"place": 2}, {"where": ((0, 0, 99),)}, {"most": 0}):
            self.assertFalls(parts, make(1), make(2, 1), drop(2), drop(1, 1))

    def test_what_writes_nothing(self):
        parts = {"place": 1, "deep": 1, "where": ((5, 6, 0), (0, 6, 0)), "by": ((1, 0),)}
        self.assertStays(parts, kind(), kind(1), index(5), index(5, 0), unindex(0), get(1, 5), thing(1), rows(0), STATS,
                         plan(), [2, 0], [11, 0], [12, 0], [13, 1], [23, 1, 1], [1, 1])

    def test_refused_writes(self):
        parts = {"place": 1, "deep": 1, "where": ((5, 6, 0), (9, 6, 0)), "by": ((5, 0),)}
        self.assertStays(parts, unset(1, 5), undefault(2, 5), undefault(1, 9), give(3, 5, 0), give(1, 5, 1000000001),
                         default(3, 5, 0), default(1, 5, -1000000001), make(3), make(1, 3), make(31), drop(1), drop(3),
                         drop(1, 2), move(1, 2), move(1, 1), move(2, 3), move(3, 0), [7, 1, 5], [99])

    def test_an_index_made_or_taken_away_leaves_kept_answers(self):
        self.assertEqual(after(index(5), ask(where=((5, 0, 1),)), unindex(0), ask(where=((5, 0, 1),)))[3], [1, 0, 1, 2])

    def test_only_those_fall_that_hang_on_it(self):
        asked = [{}, {"where": ((5, 6, 0),)}, {"by": ((5, 0),)}, {"place": 1}]
        answered = after(*[ask(**parts) for parts in asked], give(1, 5, 1), STATS, ENTRIES, move(2, 0), STATS, ENTRIES,
                         drop(2), STATS, ENTRIES)
        self.assertEqual(answered[5], [0, 4, 2, 0, 2])
        self.assertEqual(answered[6], kept((question(), 1, 1), (question(place=1), 4, 4)))
        self.assertEqual(answered[8], [0, 4, 3, 0, 1])
        self.assertEqual(answered[9], kept((question(), 1, 1)))
        self.assertEqual(answered[11:], [[0, 4, 4, 0, 0], [0]])

    def test_a_deep_drop_counts_each_answer_once(self):
        self.assertEqual(after(ask(), ask(kind=1), drop(1, 1), STATS)[2:], [[2], [0, 2, 2, 0, 0]])

    def test_the_new_answer_after_a_fall(self):
        self.assertEqual(after(ask(where=((5, 0, 2),)), give(2, 5, 2), ask(where=((5, 0, 2),)), ENTRIES),
                         [[0, 2, 1, 1], [0], [0, 2, 2, 1, 2], kept((question(where=((5, 0, 2),)), 2, 2))])


if __name__ == "__main__":
    unittest.main()
