"""Indexes: their rows after every sort of write, and their numbers."""

import unittest

from helper import default, drop, give, index, kind, last, make, move, rows, told, undefault, unindex, unset


class Rows(unittest.TestCase):

    def assertRows(self, calls, expected):
        self.assertEqual(last(*calls, rows(0)), expected)
        # An index that is made behind the writes has the same rows as one that was kept up.
        late = [call for call in calls if call[0] != 14] + [call for call in calls if call[0] == 14]
        self.assertEqual(last(*late, rows(0)), expected)

    def test_an_empty_one(self):
        self.assertEqual(told(index(0), rows(0), index(3, 1, 2), rows(1)), [[0], [0, 1], [1], [0, 3]])

    def test_make_with_a_default(self):
        self.assertRows([index(0), kind(), default(1, 0, 7), make(1), make(1)], [2, 1, 7, 1, 7, 2])

    def test_make_without_anything(self):
        self.assertRows([index(0), kind(), make(1)], [0, 1])

    def test_set(self):
        calls = [index(0), kind(), make(1), make(1), make(1), give(1, 0, 5), give(2, 0, -5), give(3, 0, 5)]
        self.assertRows(calls, [3, 1, -5, 2, 5, 1, 5, 3])
        self.assertRows(calls + [give(1, 0, 6)], [3, 1, -5, 2, 5, 3, 6, 1])
        self.assertRows(calls + [give(1, 0, 5)], [3, 1, -5, 2, 5, 1, 5, 3])
        self.assertRows(calls + [give(1, 1, 9)], [3, 1, -5, 2, 5, 1, 5, 3])

    def test_unset(self):
        calls = [index(0), kind(), make(1), make(1), give(1, 0, 5), give(2, 0, 4)]
        self.assertRows(calls + [unset(2, 0)], [1, 1, 5, 1])
        self.assertRows(calls + [default(1, 0, 9), unset(2, 0)], [2, 1, 5, 1, 9, 2])

    def test_default_of_kinds_further_on(self):
        calls = [index(0), kind(), kind(1), make(2), make(1), make(2), give(3, 0, 1)]
        self.assertRows(calls + [default(1, 0, 4)], [3, 1, 1, 3, 4, 1, 4, 2])
        self.assertRows(calls + [default(1, 0, 4), default(2, 0, 6)], [3, 1, 1, 3, 4, 2, 6, 1])
        self.assertRows(calls + [default(2, 0, 6)], [2, 1, 1, 3, 6, 1])
        self.assertRows(calls + [default(2, 1, 6)], [1, 1, 1, 3])

    def test_undefault(self):
        calls = [index(0), kind(), kind(1), make(2), make(1), default(1, 0, 4), default(2, 0, 6)]
        self.assertRows(calls + [undefault(2, 0)], [2, 1, 4, 1, 4, 2])
        self.assertRows(calls + [undefault(1, 0)], [1, 1, 6, 1])
        self.assertRows(calls + [undefault(1, 0), undefault(2, 0)], [0, 1])

    def test_drop(self):
        calls = [index(0), kind(), default(1, 0, 2), make(1), make(1, 1), make(1), make(1, 2)]
        self.assertRows(calls + [drop(3)], [3, 1, 2, 1, 2, 2, 2, 4])
        self.assertRows(calls + [drop(1, 1)], [1, 1, 2, 3])
        self.assertRows(calls + [drop(1)], [4, 1, 2, 1, 2, 2, 2, 3, 2, 4])

    def test_move_changes_no_row(self):
        self.assertRows([index(0), kind(), default(1, 0, 2), make(1), make(1), move(1, 2)], [2, 1, 2, 1, 2, 2])

    def test_only_things_that_have_all(self):
        calls = [index(2, 0), kind(), make(1), make(1), make(1), give(1, 0, 5), give(2, 2, 5), give(3, 0, 8), give(3, 2, 9)]
        self.assertRows(calls, [1, 2, 9, 8, 3])
        self.assertRows(calls + [default(1, 0, 1)], [2, 2, 5, 1, 2, 9, 8, 3])
        self.assertRows(calls + [default(1, 2, 1)], [2, 2, 1, 5, 1, 9, 8, 3])
        self.assertRows(calls + [unset(3, 0)], [0, 2])

    def test_rows_are_compared_number_by_number(self):
        values = [(1, 10, 0), (1, 9, 3), (-1, 20, 0), (1, 9, -3), (0, 0, 0), (1, 9, 3)]
        calls = [index(4, 5, 6), kind()]
        for number, value in enumerate(values, start=1):
            calls.append(make(1))
            calls.extend([give(number, 4 + at, value[at]) for at in range(3)])
        self.assertRows(calls, [6, 3, -1, 20, 0, 3, 0, 0, 0, 5, 1, 9, -3, 4, 1, 9, 3, 2, 1, 9, 3, 6, 1, 10, 0, 1])

    def test_values_before_numbers_of_things(self):
        self.assertRows([index(0), kind(), make(1), make(1), give(1, 0, 10), give(2, 0, 9)], [2, 1, 9, 2, 10, 1])

    def test_two_hundred_rows(self):
        calls = [index(0), kind(), default(1, 0, 3)] + [make(1)] * 200 + [give(7, 0, 2), drop(100)]
        expected = [199, 1, 2, 7]
        for number in range(1, 201):
            if number not in (7, 100):
                expected.extend([3, number])
        self.assertEqual(last(*calls, rows(0)), expected)

    def test_several_indexes_are_kept_up(self):
        calls = [kind(), make(1), index(0), index(1), index(0, 1), give(1, 0, 5), give(1, 1, 6)]
        self.assertEqual(told(*calls, rows(0), rows(1), rows(2), unset(1, 0), rows(0), rows(1), rows(2))[7:],
                         [[1, 1, 5, 1], [1, 1, 6, 1], [1, 2, 5, 6, 1], [0], [0, 1], [1, 1, 6, 1], [0, 2]])


class Numbers(unittest.TestCase):

    def test_they_rise_from_zero(self):
        self.assertEqual(told(index(0), index(0), index(1, 0)), [[0], [1], [2]])

    def test_an_attribute_told_twice(self):
        self.assertEqual(told(index(1, 1), index(0, 1, 0), rows(0)), [[-3], [-3], [-2]])

    def test_the_sixth_and_the_seventh(self):
        self.assertEqual(told(*[index(number) for number in range(6)], index(6), index(6, 6), rows(5), unindex(0), index(6))[5:],
                         [[5], [-4], [-3], [0, 1], [0], [5]])

    def test_those_behind_move_up(self):
        answered = told(index(0), index(1, 0), index(2, 1, 0), kind(), default(1, 0, 1), default(1, 1, 2), default(1, 2, 3),
                        make(1), unindex(1), rows(0), rows(1), rows(2), unindex(0), rows(0), give(1, 2, 4), rows(0),
                        unindex(0), rows(0), unindex(0))
        self.assertEqual(answered[8:], [[0], [1, 1, 1, 1], [1, 3, 3, 2, 1, 1], [-2], [0], [1, 3, 3, 2, 1, 1], [0],
                                        [1, 3, 4, 2, 1, 1], [0], [-2], [-2]])

    def test_no_such_index(self):
        self.assertEqual(told(unindex(0), rows(0), index(0), unindex(1), rows(1), unindex(5), rows(5), rows(0)),
                         [[-2], [-2], [0], [-2], [-2], [-2], [-2], [0, 1]])


if __name__ == "__main__":
    unittest.main()
