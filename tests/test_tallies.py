import copy
import itertools
import random
import unittest

from forestread.tallies import Cheapest, Listed, Longest, Many, Tally, Used

GREAT = 10 ** 60


class TallyCase(unittest.TestCase):

    def check_leaves(self, tally, nothing, blank, of_rule):
        for told, expected in (
            (tally.nothing(), nothing), (tally.blank(), blank), (tally.of_rule(7, 9), of_rule),
        ):
            self.assertEqual(told, expected)
            self.assertIs(type(told), type(expected))

    def check_both_orders(self, asked, one, other, expected):
        for first, second in ((one, other), (other, one)):
            before = copy.deepcopy((first, second))
            with self.subTest(first=first, second=second):
                told = asked(first, second)
                self.assertEqual(told, expected)
                self.assertIs(type(told), type(expected))
                self.assertEqual((first, second), before)

    def check_new(self, asked, one, other):
        """What is told shares no list with what was handed in, and changing it changes nothing."""
        before = copy.deepcopy((one, other))
        told = asked(one, other)
        expected = copy.deepcopy(told)
        handed = [one, other] + [row for lists in (one, other) for row in (lists or []) if isinstance(row, list)]
        for inner in [told] + [row for row in told if isinstance(row, list)]:
            self.assertFalse(any(inner is thing for thing in handed))
            inner.append("spoilt")
        self.assertEqual((one, other), before)
        self.assertEqual(asked(one, other), expected)


class TallyTest(TallyCase):

    def test_classes(self):
        for kind in (Many, Cheapest, Longest, Used, Listed):
            self.assertEqual(kind.__bases__, (Tally,))
        self.assertEqual(Tally.__bases__, (object,))

    def test_tally(self):
        tally = Tally()
        self.check_leaves(tally, False, True, True)
        for one, other in itertools.product((False, True), repeat=2):
            self.assertIs(tally.either(one, other), one or other)
            self.assertIs(tally.both(one, other), one and other)

    def test_many(self):
        tally = Many()
        self.check_leaves(tally, 0, 1, 1)
        for one, other in itertools.product((0, 1, 2, 7), repeat=2):
            self.check_both_orders(tally.either, one, other, one + other)
            self.check_both_orders(tally.both, one, other, one * other)

    def test_many_near_the_bound(self):
        tally = Many()
        self.check_both_orders(tally.either, GREAT - 2, 1, GREAT - 1)
        self.check_both_orders(tally.either, GREAT - 1, 1, GREAT)
        self.check_both_orders(tally.either, GREAT - 1, 2, GREAT)
        self.check_both_orders(tally.either, GREAT, 0, GREAT)
        self.check_both_orders(tally.either, GREAT, 1, GREAT)
        self.check_both_orders(tally.either, GREAT, GREAT, GREAT)
        self.check_both_orders(tally.both, GREAT, 1, GREAT)
        self.check_both_orders(tally.both, GREAT, 0, 0)
        self.check_both_orders(tally.both, GREAT, GREAT, GREAT)
        self.check_both_orders(tally.both, 10 ** 30, 10 ** 30, GREAT)
        self.check_both_orders(tally.both, 10 ** 30 - 1, 10 ** 30 + 1, GREAT - 1)
        self.check_both_orders(tally.both, 10 ** 30, 10 ** 30 + 1, GREAT)
        self.check_both_orders(tally.both, GREAT // 2, 2, GREAT)
        self.check_both_orders(tally.both, GREAT // 2 - 1, 2, GREAT - 2)

    def test_cheapest(self):
        tally = Cheapest()
        self.check_leaves(tally, None, 0, 9)
        self.assertEqual(tally.of_rule(0, 10 ** 60), 10 ** 60)
        self.assertEqual(tally.of_rule(3, 0), 0)
        self.check_both_orders(tally.either, 3, 5, 3)
        self.check_both_orders(tally.either, 0, 5, 0)
        self.check_both_orders(tally.either, None, 5, 5)
        self.check_both_orders(tally.either, None, 0, 0)
        self.check_both_orders(tally.either, None, None, None)
        self.check_both_orders(tally.both, 3, 5, 8)
        self.check_both_orders(tally.both, 10 ** 60, 10 ** 60, 2 * 10 ** 60)
        self.check_both_orders(tally.both, None, 5, None)
        self.check_both_orders(tally.both, None, 0, None)
        self.check_both_orders(tally.both, None, None, None)

    def test_longest(self):
        tally = Longest()
        self.check_leaves(tally, None, 0, 1)
        self.check_both_orders(tally.either, 3, 5, 5)
        self.check_both_orders(tally.either, 0, 5, 5)
        self.check_both_orders(tally.either, None, 5, 5)
        self.check_both_orders(tally.either, None, 0, 0)
        self.check_both_orders(tally.either, None, None, None)
        self.check_both_orders(tally.both, 3, 5, 8)
        self.check_both_orders(tally.both, 10 ** 70, 1, 10 ** 70 + 1)
        self.check_both_orders(tally.both, None, 5, None)
        self.check_both_orders(tally.both, None, 0, None)
        self.check_both_orders(tally.both, None, None, None)

    def test_used(self):
        tally = Used()
        self.check_leaves(tally, None, [], [7])
        for asked in (tally.either, tally.both):
            self.check_both_orders(asked, [1, 3], [2, 3], [1, 2, 3])
            self.check_both_orders(asked, [9, 10], [2], [2, 9, 10])
            self.check_both_orders(asked, [], [2, 5], [2, 5])
            self.check_both_orders(asked, [], [], [])
            self.check_both_orders(asked, [1, 2], [1, 2], [1, 2])
            self.check_both_orders(asked, None, None, None)
            self.check_both_orders(asked, list(range(0, 60, 2)), list(range(1, 60, 2)), list(range(60)))
        self.check_both_orders(tally.either, None, [2, 5], [2, 5])
        self.check_both_orders(tally.either, None, [], [])
        self.check_both_orders(tally.both, None, [2, 5], None)
        self.check_both_orders(tally.both, None, [], None)

    def test_used_tells_new_lists(self):
        tally = Used()
        for one, other in (([1], [2]), ([1], None), (None, [1]), ([], [1]), ([1], []), ([], []), (None, [])):
            self.check_new(tally.either, one, other)
            if one is not None and other is not None:
                self.check_new(tally.both, one, other)
        tally.blank().append("spoilt")
        self.assertEqual(tally.blank(), [])
        tally.of_rule(1, 1).append("spoilt")
        self.assertEqual(tally.of_rule(1, 1), [1])
        self.assertIsNone(tally.both(None, None))


class ListedTest(TallyCase):

    def plain_either(self, many, one, other):
        return sorted(one + other)[:many]

    def plain_both(self, many, one, other):
        return sorted(first + second for first in one for second in other)[:many]

    def test_leaves(self):
        for tally in (Listed(), Listed(1), Listed(2), Listed(60), Listed(many=3)):
            self.check_leaves(tally, [], [[]], [[7]])

    def test_sorted_as_lists(self):
        tally = Listed()
        self.check_both_orders(tally.either, [[10]], [[9], [9, 10]], [[9], [9, 10], [10]])
        self.check_both_orders(tally.either, [[1, 2]], [[1]], [[1], [1, 2]])
        self.assertEqual(tally.both([[1], [2]], [[3], [4]]), [[1, 3], [1, 4], [2, 3], [2, 4]])
        self.assertEqual(tally.both([[3], [4]], [[1], [2]]), [[3, 1], [3, 2], [4, 1], [4, 2]])

    def test_rows_that_begin_others(self):
        tally = Listed()
        self.assertEqual(tally.both([[1], [1, 2]], [[2], [3]]), [[1, 2], [1, 2, 2], [1, 2, 3], [1, 3]])
        self.assertEqual(tally.both([[], [1]], [[], [1]]), [[], [1], [1], [1, 1]])

    def test_cut_at_many(self):
        one = [[1], [3], [5]]
        other = [[2], [4]]
        for many in (1, 2, 3, 4, 5, 6, 60):
            tally = Listed(many)
            self.check_both_orders(tally.either, one, other, [[1], [2], [3], [4], [5]][:many])
            self.assertEqual(tally.both(one, other), [[1, 2], [1, 4], [3, 2], [3, 4], [5, 2], [5, 4]][:many])

    def test_sixty_where_it_is_left_out(self):
        rows = [[number] for number in range(60)]
        self.assertEqual(Listed().either(rows, [[60], [-1]]), [[-1]] + rows[:59])
        self.assertEqual(len(Listed().both(rows, rows)), 60)
        self.assertEqual(Listed().both(rows, rows), [[0, number] for number in range(60)])
        self.assertEqual(Listed(60).either(rows, rows), sorted(rows + rows)[:60])

    def test_alike_rows_are_kept(self):
        tally = Listed()
        self.check_both_orders(tally.either, [[1]], [[1]], [[1], [1]])
        self.check_both_orders(tally.either, [[1], [1]], [[0], [1]], [[0], [1], [1], [1]])
        self.assertEqual(tally.both([[1], [1]], [[2], [3]]), [[1, 2], [1, 2], [1, 3], [1, 3]])
        self.assertEqual(tally.both([[1], [2]], [[3], [3]]), [[1, 3], [1, 3], [2, 3], [2, 3]])
        self.assertEqual(Listed(1).either([[1]], [[1]]), [[1]])
        self.assertEqual(Listed(3).both([[1], [1]], [[2], [3]]), [[1, 2], [1, 2], [1, 3]])
        self.assertEqual(Listed(2).both([[1], [1], [1]], [[2], [3]]), [[1, 2], [1, 2]])

    def test_nothing_and_blank(self):
        tally = Listed()
        rows = [[1], [2, 3]]
        self.check_both_orders(tally.either, [], rows, rows)
        self.check_both_orders(tally.both, [], rows, [])
        self.check_both_orders(tally.both, [[]], rows, rows)
        self.check_both_orders(tally.either, [], [], [])
        self.check_both_orders(tally.both, [], [], [])
        self.check_both_orders(tally.both, [[]], [[]], [[]])

    def test_against_a_plain_reckoning(self):
        chance = random.Random(61)

        def rows(most):
            long = int(chance.random() * (most + 1))
            return [[int(chance.random() * 3) for place in range(int(chance.random() * 4))] for row in range(long)]

        for number in range(3000):
            many = 1 + int(chance.random() * 8)
            tally = Listed(many)
            one = rows(many)
            other = rows(many)
            before = copy.deepcopy((one, other))
            self.assertEqual(tally.either(one, other), self.plain_either(many, one, other))
            self.assertEqual(tally.both(one, other), self.plain_both(many, one, other))
            self.assertEqual((one, other), before)

    def test_new_lists(self):
        for tally in (Listed(), Listed(1), Listed(2)):
            for one, other in (([[1]], [[2]]), ([[1]], []), ([], [[1]]), ([], []), ([[]], [[1]]), ([[1]], [[]]), ([[]], [[]])):
                self.check_new(tally.either, one, other)
                self.check_new(tally.both, one, other)
            tally.nothing().append("spoilt")
            self.assertEqual(tally.nothing(), [])
            tally.blank()[0].append("spoilt")
            tally.blank().append("spoilt")
            self.assertEqual(tally.blank(), [[]])
            tally.of_rule(1, 1)[0].append("spoilt")
            self.assertEqual(tally.of_rule(1, 1), [[1]])


if __name__ == "__main__":
    unittest.main()
