"""Things: making, dropping, moving, own values, and how they lie in one another."""

import unittest

from helper import drop, get, give, held, holders, inside, isa, kind, last, make, move, thing, told, unset


class Making(unittest.TestCase):

    def test_numbers_rise_from_one(self):
        self.assertEqual(told(kind(), make(1), make(1, 1), make(1, 2))[1:], [[1], [2], [3]])

    def test_a_number_is_never_used_again(self):
        self.assertEqual(told(kind(), make(1), make(1), drop(2), make(1), drop(3), drop(1), make(1), held(0), thing(2))[3:],
                         [[1], [3], [1], [1], [4], [1, 4], [-2]])

    def test_it_has_no_values_of_its_own(self):
        self.assertEqual(told(kind(), make(1), give(1, 3, 4), drop(1), make(1), thing(2), get(2, 3))[5:],
                         [[1, 0, 0], [0, 0, 0]])

    def test_holders_that_are_not_here(self):
        self.assertEqual(told(kind(), make(1, 1), make(1), make(1, 2), make(1, 200), drop(1), make(1, 1), make(1))[1:],
                         [[-3], [1], [-3], [-3], [1], [-3], [2]])

    def test_the_two_hundredth_and_the_two_hundred_and_first(self):
        answered = told(kind(), *[make(1)] * 200, make(1), drop(200), make(1), make(1, 200), make(1, 1), make(2), held(0))
        self.assertEqual(answered[200:], [[200], [-4], [1], [-4], [-3], [-4], [-2], [199] + list(range(1, 200))])

    def test_thing(self):
        answered = told(kind(), kind(1), make(1), make(2, 1), give(2, 9, -4), give(2, 0, 6), give(2, 15, 0), thing(2), thing(1))
        self.assertEqual(answered[7:], [[2, 1, 6, 0, 6, 9, -4, 15, 0], [1, 0, 0]])

    def test_isa_of_things_and_kinds_that_are_not_there(self):
        self.assertEqual(told(kind(), make(1), isa(2, 1), isa(1, 2), isa(1, 1))[2:], [[-2], [-2], [1]])


class OwnValues(unittest.TestCase):

    def test_set_and_unset(self):
        answered = told(kind(), make(1), make(1), give(1, 2, 5), give(1, 2, 6), get(1, 2), get(2, 2), unset(1, 2), get(1, 2),
                        thing(1))
        self.assertEqual(answered[3:], [[0], [0], [1, 6, 0], [0, 0, 0], [0], [0, 0, 0], [1, 0, 0]])

    def test_unset_refuses_what_is_not_its_own(self):
        self.assertEqual(told(kind(), [3, 1, 2, 9], make(1), unset(1, 2), give(1, 2, 9), unset(1, 3), unset(1, 2),
                              unset(1, 2), get(1, 2))[3:], [[-3], [0], [-3], [0], [-3], [1, 9, 1]])


class Lying(unittest.TestCase):

    # 1 holds 2 and 5; 2 holds 3; 3 holds 4; 6 lies beside 1, and holds 7.
    SOME = [kind(), make(1), make(1, 1), make(1, 2), make(1, 3), make(1, 1), make(1), make(1, 6)]

    def after(self, *calls):
        return told(*self.SOME, *calls)[len(self.SOME):]

    def test_held(self):
        self.assertEqual(self.after(held(0), held(1), held(2), held(4)), [[2, 1, 6], [2, 2, 5], [1, 3], [0]])

    def test_inside(self):
        self.assertEqual(self.after(inside(0), inside(1), inside(2), inside(4)),
                         [[7, 1, 2, 3, 4, 5, 6, 7], [4, 2, 3, 4, 5], [2, 3, 4], [0]])

    def test_inside_goes_deep_before_wide(self):
        self.assertEqual(self.after(move(1, 7), inside(0), move(5, 6), inside(6), held(6)),
                         [[0], [7, 6, 7, 1, 2, 3, 4, 5], [0], [6, 5, 7, 1, 2, 3, 4], [2, 5, 7]])

    def test_the_empty_world(self):
        self.assertEqual(told(held(0), inside(0), held(1), inside(1)), [[0], [0], [-2], [-2]])

    def test_holders(self):
        self.assertEqual(self.after(holders(4), holders(5), holders(1)), [[3, 3, 2, 1], [1, 1], [0]])

    def test_move(self):
        self.assertEqual(self.after(move(2, 7), held(1), held(7), holders(4), thing(2)),
                         [[0], [1, 5], [1, 2], [4, 3, 2, 7, 6], [1, 7, 0]])

    def test_move_into_the_world_and_to_where_it_is(self):
        self.assertEqual(self.after(move(3, 0), held(0), move(3, 0), move(5, 1), inside(0)),
                         [[0], [3, 1, 3, 6], [0], [0], [7, 1, 2, 5, 3, 4, 6, 7]])

    def test_move_refuses_itself_and_what_lies_inside(self):
        self.assertEqual(self.after(move(1, 1), move(1, 2), move(1, 4), move(4, 4), inside(0)),
                         [[-4], [-4], [-4], [-4], [7, 1, 2, 3, 4, 5, 6, 7]])

    def test_move_refuses_holders_that_are_not_here(self):
        self.assertEqual(self.after(move(1, 8), move(1, 200), drop(5), move(1, 5), inside(0)),
                         [[-3], [-3], [1], [-3], [6, 1, 2, 3, 4, 6, 7]])

    def test_drop_refuses_with_things_inside(self):
        self.assertEqual(self.after(drop(3), drop(1), inside(0)), [[-3], [-3], [7, 1, 2, 3, 4, 5, 6, 7]])

    def test_drop_of_one(self):
        self.assertEqual(self.after(drop(4), drop(3), drop(3), inside(0)), [[1], [1], [-2], [5, 1, 2, 5, 6, 7]])

    def test_drop_deep(self):
        self.assertEqual(self.after(drop(2, 1), inside(0), thing(2), thing(3), thing(4), drop(5, 1), make(1)),
                         [[3], [4, 1, 5, 6, 7], [-2], [-2], [-2], [1], [8]])

    def test_drop_of_all(self):
        self.assertEqual(self.after(drop(1, 1), drop(6, 1), inside(0)), [[5], [2], [0]])

    def test_move_keeps_own_values_and_kind(self):
        self.assertEqual(self.after(give(2, 1, 8), move(2, 0), thing(2)), [[0], [0], [1, 0, 2, 1, 8]])

    def test_last_of_nothing(self):
        self.assertEqual(last(kind(), make(1), drop(1), held(0)), [0])


if __name__ == "__main__":
    unittest.main()
