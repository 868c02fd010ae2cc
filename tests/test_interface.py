"""The interface: what is handed in and given back, and that nothing is kept."""

import contextlib
import io
import unittest

from helper import ENTRIES, STATS, ask, default, flat, give, index, kind, make, rows, told
from thingsworld.world import answers


class Interface(unittest.TestCase):

    def test_each_answer_stands_behind_its_count(self):
        self.assertEqual(answers([0, 2, 0, 0, 0, 3, 5, 1, 0, 0, 1, 99, 0, 1, 20]),
                         [2, 1, 1, 1, 1, 1, -100, 5, 0, 0, 0, 0, 0])

    def test_one_call(self):
        self.assertEqual(answers([0, 1, 20]), [5, 0, 0, 0, 0, 0])

    def test_it_gives_a_list_of_ints(self):
        answered = answers(flat([kind(), make(1), [23, 1, 1], ask(), ask(), [18, 6, 0, -1, 0, 1, 0, 0]]))
        self.assertIs(type(answered), list)
        for number in answered:
            self.assertIs(type(number), int)

    def test_the_list_handed_in_is_as_it_was(self):
        calls = flat([kind(), kind(1), default(1, 0, 5), index(0), make(2), give(1, 0, 7), ask(by=((0, 1),)),
                      rows(0), ENTRIES, [99], [5, 1], [5, 0, 0]])
        before = list(calls)
        answers(calls)
        self.assertEqual(calls, before)

    def test_the_list_is_not_changed_for_a_while_either(self):
        class Unchanging(list):
            def refuse(self, *_):
                raise AssertionError("the list was written")
            append = extend = insert = pop = remove = clear = sort = reverse = refuse
            __setitem__ = __delitem__ = __iadd__ = __imul__ = refuse

        calls = [kind(), kind(1), make(2), index(0), give(1, 0, 7), ask(), ask(), rows(0), ENTRIES, STATS]
        self.assertEqual(answers(Unchanging(flat(calls))), answers(flat(calls)))

    def test_twice_the_same(self):
        calls = flat([kind(), make(1), index(0), give(1, 0, 3), ask(), ask(), STATS, ENTRIES, rows(0)])
        first = answers(calls)
        self.assertEqual(answers(calls), first)

    def test_nothing_is_kept_from_one_time_to_the_next(self):
        told(kind(), make(1), index(3), [19, 1, 7], ask())
        self.assertEqual(told([1, 1], [22, 1], [16, 0], STATS, ENTRIES),
                         [[-2], [-2], [-2], [0, 0, 0, 0, 0], [0]])

    def test_an_answer_given_back_may_be_changed(self):
        first = answers(flat([kind(), [1, 1]]))
        first[1] = 77
        self.assertEqual(answers(flat([kind(), [1, 1]])), [2, 1, 1, 2, 1, 1])

    def test_it_prints_nothing(self):
        out = io.StringIO()
        with contextlib.redirect_stdout(out), contextlib.redirect_stderr(out):
            told(kind(), make(1), [99], ask())
        self.assertEqual(out.getvalue(), "")

    def test_three_hundred_calls(self):
        self.assertEqual(told(*[STATS] * 300), [[0, 0, 0, 0, 0]] * 300)

    def test_things_two_hundred_deep(self):
        chain = [kind()] + [make(1, number) for number in range(200)]
        answered = told(*chain, [12, 0], [13, 200], [10, 1, 200], ask(place=1, deep=1), [6, 1, 1], [11, 0])
        self.assertEqual(answered[-6], [200] + list(range(1, 201)))
        self.assertEqual(answered[-5], [199] + list(range(199, 0, -1)))
        self.assertEqual(answered[-4], [-4])
        self.assertEqual(answered[-3], [0, 200, 199] + list(range(2, 201)))
        self.assertEqual(answered[-2], [200])
        self.assertEqual(answered[-1], [0])


if __name__ == "__main__":
    unittest.main()
