"""Questions: what is answered, which index is taken, and how many things are looked at."""

import unittest

from helper import ask, default, drop, give, index, kind, last, make, move, plan, told, unindex

# Thing 1 has -2 of attribute 0, thing 2 has 0, 3 has 3, 4 has 3, 5 has 7; thing 6 has nothing of it.
WEIGHTS = [kind()] + [make(1)] * 6 + [give(1, 0, -2), give(2, 0, 0), give(3, 0, 3), give(4, 0, 3), give(5, 0, 7)]


def found(setup, **parts):
    """The things that are answered; the same with and without indexes."""
    plain = last(*setup, ask(**parts))[2:]
    for indexes in ([index(0)], [index(0, 1), index(1)], [index(1, 0), index(2)], [index(2, 1, 0), index(0, 2, 1)]):
        if last(*indexes, *setup, ask(**parts))[2:] != plain or last(*setup, *indexes, ask(**parts))[2:] != plain:
            raise AssertionError("an index changed the answer")
    return plain[1:]


class Conditions(unittest.TestCase):

    def assertFound(self, sort, value, expected):
        self.assertEqual(found(WEIGHTS, where=((0, sort, value),)), expected)

    def test_none(self):
        self.assertEqual(last(*WEIGHTS, ask()), [0, 6, 6, 1, 2, 3, 4, 5, 6])
        self.assertEqual(told(ask(), plan()), [[0, 0, 0], [0, 0, 0]])

    def test_0_it_is_the_value(self):
        self.assertFound(0, 3, [3, 4])
        self.assertFound(0, 0, [2])
        self.assertFound(0, 4, [])

    def test_1_below(self):
        self.assertFound(1, 3, [1, 2])
        self.assertFound(1, -2, [])

    def test_2_at_most(self):
        self.assertFound(2, 3, [1, 2, 3, 4])
        self.assertFound(2, -3, [])

    def test_3_above(self):
        self.assertFound(3, 3, [5])
        self.assertFound(3, -1000000000, [1, 2, 3, 4, 5])

    def test_4_at_least(self):
        self.assertFound(4, 3, [3, 4, 5])
        self.assertFound(4, 8, [])

    def test_5_another(self):
        self.assertFound(5, 3, [1, 2, 5])
        self.assertFound(5, 99, [1, 2, 3, 4, 5])

    def test_6_any(self):
        self.assertFound(6, 3, [1, 2, 3, 4, 5])
        self.assertFound(6, -1000000000, [1, 2, 3, 4, 5])

    def test_7_nothing(self):
        self.assertFound(7, 3, [6])
        self.assertFound(7, 0, [6])

    def test_defaults_count(self):
        self.assertEqual(found(WEIGHTS + [default(1, 0, 3)], where=((0, 0, 3),)), [3, 4, 6])
        self.assertEqual(found(WEIGHTS + [default(1, 0, 3)], where=((0, 7, 0),)), [])

    def test_several_for_one_attribute(self):
        self.assertEqual(found(WEIGHTS, where=((0, 3, -2), (0, 1, 7))), [2, 3, 4])
        self.assertEqual(found(WEIGHTS, where=((0, 3, -2), (0, 1, 7), (0, 5, 3))), [2])
        self.assertEqual(found(WEIGHTS, where=((0, 0, 3), (0, 0, 7))), [])
        self.assertEqual(found(WEIGHTS, where=((0, 0, 3), (0, 4, 4))), [])
        self.assertEqual(found(WEIGHTS, where=((0, 7, 0), (0, 6, 0))), [])
        self.assertEqual(found(WEIGHTS, where=((0, 4, 0),) * 6), [2, 3, 4, 5])

    def test_several_attributes(self):
        setup = WEIGHTS + [give(3, 1, 1), give(5, 1, 2), give(6, 1, 1)]
        self.assertEqual(found(setup, where=((0, 4, 0), (1, 6, 0))), [3, 5])
        self.assertEqual(found(setup, where=((0, 4, 0), (1, 7, 0))), [2, 4])
        self.assertEqual(found(setup, where=((1, 0, 1), (0, 7, 0))), [6])
        self.assertEqual(found(setup, where=((0, 0, 3), (1, 0, 1))), [3])

    def test_dropped_things_are_not_found(self):
        self.assertEqual(found(WEIGHTS + [drop(3)], where=((0, 0, 3),)), [4])


class KindsAndPlaces(unittest.TestCase):

    # 3 comes of 1 and 2. Thing 1 (kind 1) holds 2 (kind 2) and 3 (kind 3); 3 holds 4 (kind 1); 5 (kind 3) lies beside 1.
    SOME = [kind(), kind(), kind(1, 2), make(1), make(2, 1), make(3, 1), make(1, 3), make(3)]

    def test_kinds(self):
        self.assertEqual(found(self.SOME, kind=0), [1, 2, 3, 4, 5])
        self.assertEqual(found(self.SOME, kind=1), [1, 3, 4, 5])
        self.assertEqual(found(self.SOME, kind=2), [2, 3, 5])
        self.assertEqual(found(self.SOME, kind=3), [3, 5])

    def test_a_kind_that_is_not_there(self):
        self.assertEqual(last(*self.SOME, ask(kind=4)), [0, 5, 0])
        self.assertEqual(last(*self.SOME, plan(kind=30)), [0, 0, 5])

    def test_anywhere(self):
        self.assertEqual(found(self.SOME, place=-1, deep=0), [1, 2, 3, 4, 5])
        self.assertEqual(found(self.SOME, place=-1, deep=1), [1, 2, 3, 4, 5])

    def test_the_world(self):
        self.assertEqual(found(self.SOME, place=0, deep=0), [1, 5])
        self.assertEqual(found(self.SOME, place=0, deep=1), [1, 2, 3, 4, 5])

    def test_a_thing(self):
        self.assertEqual(found(self.SOME, place=1, deep=0), [2, 3])
        self.assertEqual(found(self.SOME, place=1, deep=1), [2, 3, 4])
        self.assertEqual(found(self.SOME, place=5, deep=0), [])
        self.assertEqual(found(self.SOME, place=5, deep=1), [])

    def test_answers_rise_where_inside_does_not(self):
        self.assertEqual(found(self.SOME + [move(1, 5)], place=5, deep=1), [1, 2, 3, 4])

    def test_a_thing_that_is_not_here(self):
        self.assertEqual(last(*self.SOME, ask(place=6)), [0, 5, 0])
        self.assertEqual(last(*self.SOME, ask(place=200, deep=1)), [0, 5, 0])
        self.assertEqual(last(*self.SOME, drop(3, 1), ask(place=3, deep=1)), [0, 3, 0])

    def test_kind_place_and_condition(self):
        setup = self.SOME + [give(2, 0, 5), give(3, 0, 6), give(4, 0, 7)]
        self.assertEqual(found(setup, kind=1, place=1, deep=1, where=((0, 4, 5),)), [3, 4])
        self.assertEqual(found(setup, kind=2, place=1, deep=0, where=((0, 1, 6),)), [2])


class Sorting(unittest.TestCase):

    # Attribute 0: 5 3 3 - 5 -; attribute 1: 1 2 - 4 3 0.
    SOME = [kind()] + [make(1)] * 6 + [
        give(1, 0, 5), give(2, 0, 3), give(3, 0, 3), give(5, 0, 5),
        give(1, 1, 1), give(2, 1, 2), give(4, 1, 4), give(5, 1, 3), give(6, 1, 0)]

    def test_upwards(self):
        self.assertEqual(found(self.SOME, by=((0, 0),)), [2, 3, 1, 5, 4, 6])

    def test_downwards(self):
        self.assertEqual(found(self.SOME, by=((0, 1),)), [1, 5, 2, 3, 4, 6])

    def test_like_ones_by_the_next(self):
        self.assertEqual(found(self.SOME, by=((0, 0), (1, 0))), [2, 3, 1, 5, 6, 4])
        self.assertEqual(found(self.SOME, by=((0, 0), (1, 1))), [2, 3, 5, 1, 4, 6])
        self.assertEqual(found(self.SOME, by=((0, 1), (1, 1))), [5, 1, 2, 3, 4, 6])
        self.assertEqual(found(self.SOME, by=((1, 1), (0, 0))), [4, 5, 2, 1, 6, 3])

    def test_an_attribute_that_none_has(self):
        self.assertEqual(found(self.SOME, by=((9, 1), (1, 0))), [6, 1, 2, 5, 4, 3])

    def test_one_attribute_twice(self):
        self.assertEqual(found(self.SOME, by=((0, 0), (0, 1))), [2, 3, 1, 5, 4, 6])

    def test_values_below_zero_and_zero(self):
        setup = [kind()] + [make(1)] * 4 + [give(1, 0, 0), give(2, 0, -3), give(3, 0, 2)]
        self.assertEqual(found(setup, by=((0, 0),)), [2, 1, 3, 4])
        self.assertEqual(found(setup, by=((0, 1),)), [3, 1, 2, 4])

    def test_greatest_and_least_values(self):
        setup = [kind()] + [make(1)] * 3 + [give(1, 0, 1000000000), give(2, 0, -1000000000)]
        self.assertEqual(found(setup, by=((0, 0),)), [2, 1, 3])
        self.assertEqual(found(setup, by=((0, 1),)), [1, 2, 3])

    def test_defaults_are_sorted_by(self):
        self.assertEqual(found(self.SOME + [default(1, 0, 4)], by=((0, 0),)), [2, 3, 4, 6, 1, 5])

    def test_four_attributes(self):
        setup = [kind()] + [make(1)] * 4
        for number in range(1, 5):
            setup += [give(number, 0, 1), give(number, 1, 1), give(number, 2, 1), give(number, 3, (number * 3) % 5)]
        self.assertEqual(found(setup, by=((0, 0), (1, 1), (2, 0), (3, 1))), [3, 1, 4, 2])

    def test_how_many_at_most(self):
        self.assertEqual(found(self.SOME, by=((0, 0),), most=3), [2, 3, 1])
        self.assertEqual(found(self.SOME, by=((0, 0),), most=6), [2, 3, 1, 5, 4, 6])
        self.assertEqual(found(self.SOME, most=1), [1])
        self.assertEqual(last(*self.SOME, ask(most=0)), [0, 6, 0])
        self.assertEqual(last(*self.SOME, ask(most=1)), [0, 6, 1, 1])


class Looking(unittest.TestCase):

    # Things 1 to 12: attribute 0 is 0 for 1 to 6 and 1 for 7 to 12; attribute 1 is the number; attribute 2 is 5.
    # Thing 13 has attribute 0 alone, thing 14 nothing.
    SOME = [kind(), kind()] + [make(1)] * 12 + [make(2), make(2), default(1, 2, 5), give(13, 0, 0)]
    for each in range(1, 13):
        SOME += [give(each, 0, (each - 1) // 6), give(each, 1, each)]

    def assertPlan(self, indexes, where, expected, **parts):
        calls = self.SOME + [index(*attributes) for attributes in indexes]
        self.assertEqual(last(*calls, plan(where=where, **parts)), expected)
        asked = last(*calls, ask(where=where, **parts))
        self.assertEqual(asked[:2], [0, expected[2]])
        self.assertEqual(asked[2:], last(*self.SOME, ask(where=where, **parts))[2:])

    def test_without_an_index(self):
        self.assertPlan([], (), [0, 0, 14])
        self.assertPlan([], ((0, 0, 1),), [0, 0, 14])

    def test_an_index_without_conditions(self):
        self.assertPlan([(0,)], (), [0, 0, 14])
        self.assertPlan([(0,)], ((1, 0, 1),), [0, 0, 14])
        self.assertPlan([(0,)], (), [0, 0, 14], by=((0, 0),))

    def test_two_for_an_asked_value(self):
        self.assertPlan([(0,)], ((0, 0, 0),), [1, 2, 7])
        self.assertPlan([(0,)], ((0, 0, 1),), [1, 2, 6])
        self.assertPlan([(0,)], ((0, 0, 2),), [1, 2, 0])

    def test_one_for_each_sort_of_bound(self):
        self.assertPlan([(1,)], ((1, 1, 4),), [1, 1, 3])
        self.assertPlan([(1,)], ((1, 2, 4),), [1, 1, 4])
        self.assertPlan([(1,)], ((1, 3, 4),), [1, 1, 8])
        self.assertPlan([(1,)], ((1, 4, 4),), [1, 1, 9])

    def test_nothing_for_other_sorts(self):
        self.assertPlan([(1,)], ((1, 5, 4),), [0, 0, 14])
        self.assertPlan([(1,)], ((1, 6, 4),), [0, 0, 14])
        self.assertPlan([(1,)], ((1, 7, 4),), [0, 0, 14])

    def test_all_bounds_of_the_further_attribute_are_met(self):
        self.assertPlan([(1,)], ((1, 3, 4), (1, 2, 9)), [1, 1, 5])
        self.assertPlan([(1,)], ((1, 3, 4), (1, 2, 9), (1, 4, 8), (1, 1, 100)), [1, 1, 2])
        self.assertPlan([(1,)], ((1, 3, 9), (1, 1, 4)), [1, 1, 0])

    def test_other_sorts_do_not_narrow_what_is_looked_at(self):
        self.assertPlan([(1,)], ((1, 3, 4), (1, 5, 6)), [1, 1, 8])
        self.assertPlan([(1,)], ((1, 3, 4), (1, 7, 0)), [1, 1, 8])
        self.assertPlan([(1,)], ((1, 3, 4), (1, 6, 0)), [1, 1, 8])

    def test_bounds_of_an_asked_attribute_do_not_narrow(self):
        self.assertPlan([(0,)], ((0, 0, 0), (0, 3, 5)), [1, 2, 7])
        self.assertPlan([(0,)], ((0, 3, 5), (0, 0, 0)), [1, 2, 7])

    def test_the_first_asked_value_counts(self):
        self.assertPlan([(0,)], ((0, 0, 1), (0, 0, 0)), [1, 2, 6])
        self.assertPlan([(0,)], ((0, 0, 0), (0, 0, 1)), [1, 2, 7])
        self.assertPlan([(0,)], ((0, 6, 1), (0, 0, 1), (0, 0, 9)), [1, 2, 6])

    def test_asked_and_bounded(self):
        self.assertPlan([(0, 1)], ((0, 0, 1), (1, 3, 9)), [1, 3, 3])
        self.assertPlan([(0, 1)], ((1, 3, 9), (0, 0, 1)), [1, 3, 3])
        self.assertPlan([(0, 1)], ((0, 0, 0), (1, 3, 9)), [1, 3, 0])

    def test_several_asked(self):
        self.assertPlan([(0, 1)], ((0, 0, 1), (1, 0, 9)), [1, 4, 1])
        self.assertPlan([(0, 1, 2)], ((0, 0, 1), (1, 0, 9), (2, 0, 5)), [1, 6, 1])
        self.assertPlan([(0, 2, 1)], ((0, 0, 1), (2, 0, 5), (1, 1, 9)), [1, 5, 2])
        self.assertPlan([(2, 0, 1)], ((0, 0, 1), (2, 0, 5), (1, 5, 9)), [1, 4, 6])

    def test_it_stops_at_the_first_attribute_that_is_not_asked(self):
        self.assertPlan([(1, 0)], ((0, 0, 1), (1, 3, 9)), [1, 1, 3])
        self.assertPlan([(1, 0)], ((0, 0, 1), (1, 6, 9)), [0, 0, 14])
        self.assertPlan([(0, 1, 2)], ((0, 0, 1), (1, 6, 0), (2, 0, 5)), [1, 2, 6])
        self.assertPlan([(0, 1, 2)], ((0, 0, 1), (1, 6, 0), (2, 3, 5)), [1, 2, 6])
        self.assertPlan([(0, 1, 2)], ((0, 0, 1), (1, 1, 9), (2, 3, 5)), [1, 3, 2])

    def test_nothing_if_an_attribute_has_no_condition(self):
        self.assertPlan([(0, 1)], ((0, 0, 0),), [0, 0, 14])
        self.assertPlan([(0, 1)], ((0, 0, 0), (1, 7, 0)), [0, 0, 14])
        self.assertPlan([(0, 1, 2)], ((0, 0, 1), (1, 0, 9)), [0, 0, 14])
        self.assertPlan([(0, 1)], ((0, 0, 0), (1, 6, 0)), [1, 2, 6])
        self.assertPlan([(0, 1)], ((0, 0, 0), (1, 5, 3)), [1, 2, 6])

    def test_sort_7_beside_others_does_not_hinder(self):
        self.assertPlan([(0, 1)], ((0, 0, 0), (1, 7, 0), (1, 6, 0)), [1, 2, 6])

    def test_the_index_that_tells_most(self):
        self.assertPlan([(1,), (0,)], ((0, 0, 1), (1, 3, 9)), [2, 2, 6])
        self.assertPlan([(1,), (0,), (0, 1)], ((0, 0, 1), (1, 3, 9)), [3, 3, 3])
        self.assertPlan([(0, 1, 2), (0, 1)], ((0, 0, 1), (1, 3, 9)), [2, 3, 3])

    def test_of_several_the_first(self):
        self.assertPlan([(2,), (0,), (1,)], ((0, 0, 1), (1, 0, 9)), [2, 2, 6])
        self.assertPlan([(2,), (1,), (0,)], ((0, 0, 1), (1, 0, 9)), [2, 2, 1])
        self.assertPlan([(0, 1), (1, 0)], ((0, 0, 1), (1, 0, 9)), [1, 4, 1])

    def test_after_an_index_is_taken_away(self):
        calls = self.SOME + [index(0), index(1), index(0, 1)]
        wanted = {"where": ((0, 0, 1), (1, 0, 9))}
        self.assertEqual(told(*calls, plan(**wanted), unindex(0), plan(**wanted), unindex(1), plan(**wanted), unindex(0),
                              plan(**wanted))[len(calls):],
                         [[3, 4, 1], [0], [2, 4, 1], [0], [1, 2, 1], [0], [0, 0, 14]])

    def test_kind_place_and_most_do_not_narrow_what_is_looked_at(self):
        self.assertPlan([(0,)], ((0, 0, 0),), [1, 2, 7], kind=2)
        self.assertPlan([(0,)], ((0, 0, 0),), [1, 2, 7], place=14, deep=1)
        self.assertPlan([(0,)], ((0, 0, 0),), [1, 2, 7], most=2)
        self.assertPlan([], (), [0, 0, 14], kind=2, place=14, most=0)

    def test_rows_that_writes_brought(self):
        calls = self.SOME + [index(0), give(14, 0, 1), drop(7), default(1, 0, 1), [8, 8, 0], [8, 1, 0]]
        self.assertEqual(last(*calls, plan(where=((0, 0, 1),))), [1, 2, 7])
        self.assertEqual(last(*calls, ask(where=((0, 0, 1),))), [0, 7, 7, 1, 8, 9, 10, 11, 12, 14])

    def test_plan_keeps_nothing(self):
        self.assertEqual(told(*self.SOME, plan(), ask(), plan(), [20], [21])[len(self.SOME):],
                         [[0, 0, 14], [0, 14, 14] + list(range(1, 15)), [0, 0, 14], [0, 1, 0, 0, 1],
                          [1, 6, 0, -1, 0, 200, 0, 0, 1, 1]])


if __name__ == "__main__":
    unittest.main()
