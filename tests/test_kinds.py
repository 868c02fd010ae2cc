"""Kinds: orders, merging, why, defaults."""

import unittest

from helper import default, get, give, isa, kind, last, listing, make, order, told, undefault, unset, why


class Orders(unittest.TestCase):

    def test_a_kind_without_parents(self):
        self.assertEqual(told(kind(), kind(), order(1), order(2)), [[1, 1], [1, 2], [1, 1], [1, 2]])

    def test_a_chain(self):
        self.assertEqual(last(kind(), kind(1), kind(2), order(3)), [3, 3, 2, 1])

    def test_parents_stand_in_their_told_order(self):
        self.assertEqual(told(kind(), kind(), kind(1, 2), kind(2, 1))[2:], [[3, 3, 1, 2], [3, 4, 2, 1]])

    def test_a_diamond(self):
        self.assertEqual(last(kind(), kind(1), kind(1), kind(2, 3)), [4, 4, 2, 3, 1])

    def test_a_parent_told_behind_what_comes_of_it(self):
        self.assertEqual(last(kind(), kind(1), kind(2, 1)), [3, 3, 2, 1])

    def test_many_parents(self):
        # The known example: K1 (A, B, C), K2 (D, B, E), K3 (D, A), Z (K1, K2, K3), all under O.
        made = [kind()] + [kind(1)] * 5 + [kind(2, 3, 4), kind(5, 3, 6), kind(5, 2)]
        self.assertEqual(told(*made, kind(7, 8, 9))[6:],
                         [[5, 7, 2, 3, 4, 1], [5, 8, 5, 3, 6, 1], [4, 9, 5, 2, 1],
                          [10, 10, 7, 8, 9, 5, 2, 3, 4, 6, 1]])

    def test_the_first_row_comes_first_again_after_each_taken_member(self):
        # Going on from where it was would take 4 ahead of 2.
        self.assertEqual(last(kind(), kind(), kind(1, 2), kind(), kind(3, 4)), [5, 5, 3, 1, 2, 4])

    def test_the_parents_are_the_last_row(self):
        # The orders alone, 1 and 3 1, would merge to 3 1; the parents 1 3 stand against that.
        self.assertEqual(told(kind(), kind(), kind(1), kind(2), kind(3, 4), kind(1, 3)),
                         [[1, 1], [1, 2], [2, 3, 1], [2, 4, 2], [5, 5, 3, 1, 4, 2], [-5]])

    def test_parents_in_a_crossed_order_can_not_be_merged(self):
        self.assertEqual(told(kind(), kind(), kind(1, 2), kind(2, 1), kind(3, 4), order(5), kind())[4:],
                         [[-5], [-2], [1, 5]])

    def test_refusals(self):
        self.assertEqual(last(kind(2)), [-2])
        self.assertEqual(last(kind(1)), [-2])
        self.assertEqual(last(kind(), kind(1, 1)), [-3])

    def test_refusals_in_their_order(self):
        self.assertEqual(last(kind(), kind(2, 2)), [-2])
        self.assertEqual(last(kind(), kind(1, 1, 2)), [-2])
        crossed = [kind(), kind(), kind(1, 2), kind(2, 1)]
        self.assertEqual(last(*crossed, kind(3, 4, 3)), [-3])
        full = crossed + [kind()] * 26
        self.assertEqual(told(*full)[-1], [1, 30])
        self.assertEqual(last(*full, kind()), [-4])
        self.assertEqual(last(*full, kind(3, 4)), [-4])
        self.assertEqual(last(*full, kind(3, 3)), [-3])
        self.assertEqual(last(*crossed, *[kind()] * 25, kind(30)), [-2])

    def test_the_thirtieth_and_the_thirty_first(self):
        answered = told(*[kind()] * 30, kind(), kind(), order(30))
        self.assertEqual(answered[29:], [[1, 30], [-4], [-4], [1, 30]])

    def test_a_chain_of_thirty(self):
        chain = [kind()] + [kind(number) for number in range(1, 30)]
        self.assertEqual(last(*chain), [30] + list(range(30, 0, -1)))


class Why(unittest.TestCase):

    def test_nothing_where_it_can_be_merged(self):
        self.assertEqual(told(kind(), kind(1), kind(1), why(2, 3), why())[3:], [[0], [0]])

    def test_the_first_members_of_the_rows_left(self):
        self.assertEqual(last(kind(), kind(), kind(1, 2), kind(2, 1), why(3, 4)), [2, 1, 2])

    def test_a_row_of_parents_that_is_left(self):
        self.assertEqual(last(kind(), kind(1), why(1, 2)), [3, 1, 2, 1])

    def test_a_member_may_come_more_than_once_and_empty_rows_are_left_out(self):
        # Kinds 3 (1 2), 4 (2 1), 5 (1 2), 6 with none: 3, 6, 4 and 5 are taken, the parents' row is empty then.
        made = [kind(), kind(), kind(1, 2), kind(2, 1), kind(1, 2), kind()]
        self.assertEqual(last(*made, why(3, 6, 4, 5)), [3, 1, 2, 1])

    def test_what_is_left_where_merging_stops_halfway(self):
        # Kinds 3 (1 2), 4 (2 1), 5, 6 (3 5), 7 (4): 6, 3, 7 and 4 are taken, and then 1 and 2 are crossed.
        made = [kind(), kind(), kind(1, 2), kind(2, 1), kind(), kind(3, 5), kind(4)]
        self.assertEqual(told(*made, kind(6, 7), why(6, 7))[7:], [[-5], [2, 1, 2]])

    def test_refusals(self):
        self.assertEqual(last(kind(), why(2)), [-2])
        self.assertEqual(last(kind(), why(1, 1)), [-3])
        self.assertEqual(last(kind(), why(1, 1, 2)), [-2])

    def test_it_makes_no_kind(self):
        self.assertEqual(told(kind(), why(1), order(2), kind(1))[1:], [[0], [-2], [2, 2, 1]])

    def test_it_is_told_with_thirty_kinds_too(self):
        self.assertEqual(last(*[kind()] * 30, why(29, 30)), [0])


class Defaults(unittest.TestCase):

    # 4 comes of 2 and 3, which come of 1; thing 1 is a 4.
    DIAMOND = [kind(), kind(1), kind(1), kind(2, 3), make(4)]

    def test_nothing(self):
        self.assertEqual(last(*self.DIAMOND, get(1, 0)), [0, 0, 0])

    def test_the_first_kind_in_the_order_that_has_one(self):
        answered = told(*self.DIAMOND, default(1, 0, 10), get(1, 0), default(3, 0, 30), get(1, 0), default(2, 0, 20),
                        get(1, 0), default(4, 0, 40), get(1, 0))
        self.assertEqual(answered[5:], [[0], [1, 10, 1], [0], [1, 30, 3], [0], [1, 20, 2], [0], [1, 40, 4]])

    def test_back_through_the_kinds(self):
        given = [default(number, 0, 10 * number) for number in (1, 2, 3, 4)]
        answered = told(*self.DIAMOND, *given, undefault(4, 0), get(1, 0), undefault(3, 0), get(1, 0), undefault(2, 0),
                        get(1, 0), undefault(1, 0), get(1, 0))
        self.assertEqual(answered[9:], [[0], [1, 20, 2], [0], [1, 20, 2], [0], [1, 10, 1], [0], [0, 0, 0]])

    def test_an_own_value_goes_first(self):
        answered = told(*self.DIAMOND, default(4, 0, 40), give(1, 0, -7), get(1, 0), unset(1, 0), get(1, 0))
        self.assertEqual(answered[5:], [[0], [0], [1, -7, 0], [0], [1, 40, 4]])

    def test_zero_is_a_value(self):
        self.assertEqual(told(*self.DIAMOND, default(1, 0, 5), default(2, 0, 0), get(1, 0), give(1, 0, 0), get(1, 0))[7:],
                         [[1, 0, 2], [0], [1, 0, 0]])

    def test_a_default_is_written_over(self):
        self.assertEqual(told(*self.DIAMOND, default(1, 0, 5), default(1, 0, 6), get(1, 0), undefault(1, 0),
                              undefault(1, 0))[7:], [[1, 6, 1], [0], [-3]])

    def test_attributes_and_kinds_apart(self):
        answered = told(*self.DIAMOND, kind(), make(5), default(4, 15, 1), get(1, 14), get(1, 15), get(2, 15),
                        default(5, 15, 2), get(2, 15), get(1, 15))
        self.assertEqual(answered[8:], [[0, 0, 0], [1, 1, 4], [0, 0, 0], [0], [1, 2, 5], [1, 1, 4]])

    def test_undefault_refuses_what_it_has_not(self):
        self.assertEqual(told(*self.DIAMOND, default(1, 0, 5), undefault(2, 0), undefault(1, 1), get(1, 0))[6:],
                         [[-3], [-3], [1, 5, 1]])

    def test_greatest_and_least_values(self):
        self.assertEqual(told(*self.DIAMOND, default(1, 0, 1000000000), get(1, 0), give(1, 0, -1000000000), get(1, 0))[6:],
                         [[1, 1000000000, 1], [0], [1, -1000000000, 0]])

    def test_isa(self):
        answered = told(*self.DIAMOND, kind(4), make(3), *[isa(1, number) for number in range(1, 6)],
                        *[isa(2, number) for number in range(1, 6)])
        self.assertEqual(answered[7:], [[1], [1], [1], [1], [0], [1], [0], [1], [0], [0]])

    def test_defaults_do_not_go_to_parents(self):
        self.assertEqual(last(kind(), kind(1), make(1), default(2, 0, 1), get(1, 0)), [0, 0, 0])

    def test_refused_rows_of_lists_make_no_kind(self):
        self.assertEqual(told(listing(0, [1]), [0, 1], kind())[2], [1, 1])


if __name__ == "__main__":
    unittest.main()
