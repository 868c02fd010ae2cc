"""Forms (-100), ranges (-1), things and kinds that are not there (-2), and the order in which they are told."""

import unittest

from helper import (ENTRIES, OUT_OF_RANGE, REFUSED_FORM, STATS, ask, default, drop, give, index, kind, last, listing,
                    make, question, rows, thing, told)

LOWEST = -2 ** 63
HIGHEST = 2 ** 63 - 1

# The plain calls: for each argument what fits here, its lowest and its highest.
KIND = (1, 1, 30)
THING = (1, 1, 200)
HOLDER = (0, 0, 200)
ATTRIBUTE = (2, 0, 15)
VALUE = (5, -1000000000, 1000000000)
INDEX = (0, 0, 5)
BIT = (0, 0, 1)
PLAIN = {
    1: (KIND,),
    3: (KIND, ATTRIBUTE, VALUE),
    4: (KIND, ATTRIBUTE),
    5: (KIND, HOLDER),
    6: (THING, BIT),
    7: (THING, ATTRIBUTE, VALUE),
    8: (THING, ATTRIBUTE),
    9: (THING, ATTRIBUTE),
    10: (THING, HOLDER),
    11: (HOLDER,),
    12: (HOLDER,),
    13: (THING,),
    15: (INDEX,),
    16: (INDEX,),
    19: (BIT, (4, 0, 20)),
    20: (),
    21: (),
    22: (THING,),
    23: (THING, KIND),
}
LISTS = (0, 2, 14, 17, 18)

# An object on which every plain call with fitting arguments is taken.
SETUP = [kind(), make(1), make(1, 1), drop(2), default(1, 2, 9), give(1, 2, 8), index(2)]
# Everything that can be read of it.
READ = [[1, 1], [1, 2], thing(1), thing(2), thing(3), [9, 1, 2], [9, 1, 3], [12, 0], rows(0), rows(1), STATS, ENTRIES,
        default(1, 2, 9)]


def fitting(place):
    return [place] + [bounds[0] for bounds in PLAIN[place]]


def after_setup(row):
    return last(*SETUP, row)


class Forms(unittest.TestCase):

    def assertRefused(self, row, number):
        """The row is refused with this number alone, and the object is as it was."""
        answered = told(*SETUP, row, *READ)
        self.assertEqual(answered[len(SETUP)], [number], row)
        self.assertEqual(answered[len(SETUP) + 1:], told(*SETUP, *READ)[len(SETUP):], row)

    def test_fitting_calls_are_taken(self):
        for place in PLAIN:
            with self.subTest(place=place):
                self.assertGreaterEqual(after_setup(fitting(place))[0], 0)

    def test_places(self):
        for place in (-1, 24, 25, 100, LOWEST, HIGHEST):
            with self.subTest(place=place):
                for size in range(4):
                    self.assertRefused([place] + [1] * size, -100)

    def test_plain_calls_of_a_wrong_length(self):
        for place in PLAIN:
            row = fitting(place)
            with self.subTest(place=place):
                self.assertRefused(row + [0], -100)
                self.assertRefused(row + [0] * (60 - len(row)), -100)
                if len(row) > 1:
                    self.assertRefused(row[:-1], -100)
                    self.assertRefused(row[:1], -100)

    def test_lists_with_a_wrong_count(self):
        for place in LISTS:
            with self.subTest(place=place):
                for row in ([place], [place, 1], [place, 2, 1], [place, 0, 1], [place, 1, 1, 2], [place, -1],
                            [place, -1, 1], [place, 3, 1, 2], [place, LOWEST], [place, HIGHEST, 1]):
                    self.assertRefused(row, -100)

    def test_questions_with_a_wrong_outer_count(self):
        right = question(where=((0, 0, 0),), by=((1, 0),))
        for place in (17, 18):
            self.assertRefused([place, len(right) + 1] + right, -100)
            self.assertRefused([place, len(right) - 1] + right, -100)

    def test_both_ends_of_each_plain_range(self):
        for place in PLAIN:
            for at, bounds in enumerate(PLAIN[place]):
                row = fitting(place)
                for number in (bounds[1] - 1, bounds[2] + 1, LOWEST, HIGHEST):
                    with self.subTest(place=place, at=at, number=number):
                        row[at + 1] = number
                        self.assertRefused(row, -1)
                for number in bounds[1:]:
                    with self.subTest(place=place, at=at, number=number):
                        row[at + 1] = number
                        self.assertNotIn(after_setup(row), (OUT_OF_RANGE, REFUSED_FORM))

    def test_parents_out_of_range(self):
        for place in (0, 2):
            self.assertRefused(listing(place, [0]), -1)
            self.assertRefused(listing(place, [31]), -1)
            self.assertRefused(listing(place, [1, 31]), -1)
            self.assertRefused(listing(place, [LOWEST]), -1)
            self.assertRefused(listing(place, [1, 2, 3, 4, 5, 6, 7]), -1)
            self.assertRefused(listing(place, [1] * 58), -1)
            self.assertRefused(listing(place, [30]), -2)
            self.assertRefused(listing(place, [1] * 6), -3)

    def test_six_parents(self):
        self.assertEqual(last(*[kind()] * 6, kind(1, 2, 3, 4, 5, 6)), [7, 7, 1, 2, 3, 4, 5, 6])
        self.assertEqual(last(*[kind()] * 7, kind(1, 2, 3, 4, 5, 6, 7)), [-1])

    def test_index_attributes_out_of_range(self):
        for attributes in ([], [-1], [16], [0, 16], [0, 1, -1], [0, 1, 2, 3], [LOWEST], [HIGHEST], [16, 16]):
            self.assertRefused(listing(14, attributes), -1)
        self.assertEqual(after_setup(index(0, 15, 7)), [1])

    def test_question_head_out_of_range(self):
        for place in (17, 18):
            for parts in ({"kind": -1}, {"kind": 31}, {"place": -2}, {"place": 201}, {"deep": -1}, {"deep": 2},
                          {"most": -1}, {"most": 201}, {"kind": HIGHEST}, {"place": LOWEST}):
                with self.subTest(place=place, parts=parts):
                    self.assertRefused(listing(place, question(**parts)), -1)

    def test_question_parts_out_of_range(self):
        wrong = [{"where": ((-1, 0, 0),)}, {"where": ((16, 0, 0),)}, {"where": ((0, -1, 0),)}, {"where": ((0, 8, 0),)},
                 {"where": ((0, 0, -1000000001),)}, {"where": ((0, 0, 1000000001),)},
                 {"where": ((0, 6, 1000000001),)}, {"where": ((0, 7, -1000000001),)},
                 {"where": ((0, 0, 0),) * 5 + ((0, 0, HIGHEST),)}, {"where": ((0, 0, 0),) * 7},
                 {"by": ((-1, 0),)}, {"by": ((16, 0),)}, {"by": ((0, -1),)}, {"by": ((0, 2),)},
                 {"by": ((0, 0),) * 3 + ((0, 2),)}, {"by": ((0, 0),) * 5}]
        for place in (17, 18):
            for parts in wrong:
                with self.subTest(place=place, parts=parts):
                    self.assertRefused(listing(place, question(**parts)), -1)
                    self.assertRefused(listing(place, question(most=0, **parts)), -1)

    def test_question_counts_that_do_not_fit_its_list(self):
        wrong = [[], [0], [0, -1, 0, 200], [0, -1, 0, 200, 0], [0, -1, 0, 200, 0, 1], [0, -1, 0, 200, 0, 1, 3],
                 [0, -1, 0, 200, 0, 0, 0], [0, -1, 0, 200, 1, 0, 0, 0], [0, -1, 0, 200, 1, 0, 0, 0, 1],
                 [0, -1, 0, 200, 1, 0, 0], [0, -1, 0, 200, 6, 0], [0, -1, 0, 200, -1, 0], [0, -1, 0, 200, 7, 0],
                 [0, -1, 0, 200, 0, -1], [0, -1, 0, 200, 0, 5], [0, -1, 0, 200, 0, HIGHEST],
                 [0, -1, 0, 200, 0, 1, 3, 0, 0], [0] * 58]
        for place in (17, 18):
            for numbers in wrong:
                with self.subTest(place=place, numbers=numbers):
                    self.assertRefused(listing(place, numbers), -1)

    def test_question_ends_of_ranges_are_taken(self):
        for parts in ({"kind": 0}, {"kind": 30}, {"place": -1}, {"place": 200}, {"deep": 1}, {"most": 0},
                      {"where": ((0, 0, -1000000000), (15, 7, 1000000000)) * 3},
                      {"by": ((0, 0), (15, 1), (0, 1), (15, 0))}):
            with self.subTest(parts=parts):
                self.assertEqual(after_setup(ask(**parts))[0], 0)
                self.assertEqual(len(after_setup(listing(18, question(**parts)))), 3)

    def test_things_that_are_not_here(self):
        for place in (6, 7, 8, 9, 10, 11, 12, 13, 22, 23):
            for number in (2, 3, 200):
                row = fitting(place)
                row[1] = number
                with self.subTest(place=place, number=number):
                    self.assertRefused(row, -2)

    def test_kinds_that_are_not_there(self):
        for place in (1, 3, 4, 5):
            for number in (2, 30):
                row = fitting(place)
                row[1] = number
                with self.subTest(place=place, number=number):
                    self.assertRefused(row, -2)
        self.assertRefused([23, 1, 2], -2)
        self.assertRefused([23, 2, 2], -2)

    def test_indexes_that_are_not_there(self):
        for number in range(1, 6):
            self.assertRefused([15, number], -2)
            self.assertRefused([16, number], -2)

    def test_range_is_looked_at_before_what_is_not_there(self):
        for row in ([3, 30, 16, 0], [3, 30, 0, 1000000001], [4, 30, -1], [5, 30, 201], [6, 200, 2], [7, 200, 0, -1000000001],
                    [8, 200, 16], [9, 200, 16], [10, 200, 201], [23, 200, 31], [23, 200, 0], listing(0, [30, 31]),
                    listing(2, [30, 30, 0])):
            with self.subTest(row=row):
                self.assertRefused(row, -1)

    def test_what_is_not_there_is_looked_at_before_own_refusals(self):
        self.assertRefused([4, 2, 0], -2)
        self.assertRefused([5, 2, 200], -2)
        self.assertRefused([8, 3, 0], -2)
        self.assertRefused([10, 2, 200], -2)
        self.assertRefused([10, 2, 2], -2)

    def test_form_is_looked_at_before_range(self):
        self.assertRefused([1, 31, 0], -100)
        self.assertRefused([5, 0], -100)
        self.assertRefused([14, 2, 16], -100)
        self.assertRefused([17, 5, -5], -100)

    def test_index_range_before_twice(self):
        self.assertRefused(listing(14, [3, 3, 16]), -1)
        self.assertRefused(listing(14, [3, 3, 3, 3]), -1)


if __name__ == "__main__":
    unittest.main()
