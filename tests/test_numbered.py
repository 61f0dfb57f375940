import plain
from anything import Touchy, lists_and_tuples, other_kinds, other_texts, ring_list, whole_numbers
from forestread.errors import Endless, NoRow, TooGreat
from forestread.numbered import place_of, row_at
from forestread.totals import how_many
from forestread.wood import Wood
from refusals import RefusalTest
from samples import NAMED, SUMS, TEXTS, drawn, name_of, sized, texts_for

TEN = [("S", ("'a", "S"), number) for number in range(10)]
NO_WHOLE_NUMBERS = other_kinds() + lists_and_tuples() + other_texts() + ["0", "", [0], (0,), 0.0]


class NumberedTest(RefusalTest):

    def check_numbers_refused(self, kind, wood, things):
        self.check_all_refused(kind, lambda thing: row_at(wood, thing), things)

    def check_rows_refused(self, kind, wood, things):
        self.check_all_refused(kind, lambda thing: place_of(wood, thing), things)

    def check(self, grammar, text, most):
        """Tells whether the wood was one that could be searched through."""
        wood = Wood(grammar, text)
        if plain.ring_nodes(plain.wood(grammar, text)):
            self.check_numbers_refused(Endless, wood, [0, -1])
            self.check_rows_refused(Endless, wood, [[0], []])
            return False
        if how_many(wood) > 300:
            return False
        rows = plain.rows_of_length(grammar, most, text)
        if len(rows) < how_many(wood):
            return False
        with self.subTest(grammar=grammar, text=text):
            self.assertEqual([row_at(wood, number) for number in range(len(rows))], rows)
            self.assertEqual([place_of(wood, row) for row in rows], list(range(len(rows))))
            self.check_numbers_refused(NoRow, wood, [-1, len(rows), len(rows) + 1])
        return True


class SmallTest(NumberedTest):

    def test_read_by_hand(self):
        wood = Wood(NAMED["pairs"], "aaa")
        self.assertEqual(row_at(wood, 0), [0, 0, 1, 1, 1])
        self.assertEqual(row_at(wood, 1), [0, 1, 0, 1, 1])
        self.assertEqual(place_of(wood, [0, 0, 1, 1, 1]), 0)
        self.assertEqual(place_of(wood, [0, 1, 0, 1, 1]), 1)

    def test_the_order_is_not_that_of_worth(self):
        grammar = [("S", ("A",), 9), ("S", ("'a",), 0), ("A", ("'a",), 9), ("A", ("'a",), 0)]
        wood = Wood(grammar, "a")
        self.assertEqual([row_at(wood, number) for number in range(3)], [[0, 2], [0, 3], [1]])

    def test_rules_that_are_alike(self):
        grammar = [("S", ("A", "A"), 1), ("A", ("'a",), 1), ("A", ("'a",), 1), ("S", ("A", "A"), 1)]
        self.assertTrue(self.check(grammar, "aa", 9))
        self.assertEqual(how_many(Wood(grammar, "aa")), 8)

    def test_numbers_of_rules_above_9(self):
        grammar = [("S", ("'a",), number) for number in range(12)] + [("S", ("'a", "S"), 0)]
        self.assertTrue(self.check(grammar, "a", 9))
        self.assertTrue(self.check(grammar, "aa", 9))
        wood = Wood(grammar, "a")
        self.assertEqual(row_at(wood, 9), [9])
        self.assertEqual(row_at(wood, 10), [10])
        self.assertEqual(place_of(wood, [11]), 11)

    def test_places_to_part_that_mix(self):
        # The order of lists goes now by where the signs are parted, now by the rules.
        grammar = [("S", ("A", "A"), 0), ("A", ("'a",), 0), ("A", ("'a", "A"), 0), ("A", (), 0), ("A", ("'a", "'a"), 0)]
        for long in range(6):
            self.assertTrue(self.check(grammar, "a" * long, 12))

    def test_named_grammars(self):
        done = [
            self.check(grammar, text, 9)
            for grammar in NAMED.values() for text in TEXTS + ["1", "1+1", "(1)", "' =", "  0"]
        ]
        self.assertGreater(sum(done), 300)

    def test_drawn_grammars(self):
        done = [self.check(grammar, text, 9) for grammar in drawn(71, 120) for text in texts_for(grammar, 3)]
        self.assertGreater(sum(done), 1000)
        for grammar in drawn(72, 60, most_rules=12, most_parts=4):
            for text in ("ab", "aab"):
                self.check(grammar, text, 9)

    def test_what_is_told_is_new(self):
        wood = Wood(NAMED["pairs"], "aaa")
        row_at(wood, 0).append("spoilt")
        self.assertEqual(row_at(wood, 0), [0, 0, 1, 1, 1])
        row = [0, 1, 0, 1, 1]
        self.assertEqual(place_of(wood, row), 1)
        self.check_refused(NoRow, place_of, wood, row + [1])
        self.check_refused(NoRow, row_at, wood, 2)
        self.assertEqual(row, [0, 1, 0, 1, 1])
        self.assertEqual(place_of(wood, row), 1)


class GreatTest(NumberedTest):

    def test_there_and_back(self):
        wood = Wood(NAMED["pairs"], "a" * 60)
        many = how_many(wood)
        for number in (0, 1, 2, 10 ** 9, 10 ** 20 + 7, many // 3, many - 2, many - 1):
            row = row_at(wood, number)
            self.assertEqual(plain.read(NAMED["pairs"], row)[0], "a" * 60)
            self.assertEqual(place_of(wood, row), number)
        self.assertEqual(row_at(wood, 0), [0] * 59 + [1] * 60)
        self.assertEqual(row_at(wood, many - 1), [0, 1] * 59 + [1])
        self.check_numbers_refused(NoRow, wood, [many, many + 1, 10 ** 60])

    def test_just_10_to_the_60_rows(self):
        wood = Wood(TEN + [("S", (), 0)], "a" * 60)
        self.assertEqual(row_at(wood, 0), [0] * 60 + [10])
        self.assertEqual(row_at(wood, 10 ** 60 - 1), [9] * 60 + [10])
        number = int("1234567890" * 6)
        row = [int(figure) for figure in "1234567890" * 6] + [10]
        self.assertEqual(row_at(wood, number), row)
        self.assertEqual(place_of(wood, row), number)
        self.assertEqual(place_of(wood, [9] * 60 + [10]), 10 ** 60 - 1)
        self.check_numbers_refused(NoRow, wood, [10 ** 60, 10 ** 60 + 1, 10 ** 61, -1])

    def test_more_than_10_to_the_60_rows(self):
        wood = Wood(TEN + [("S", (), 0), ("S", (), 1)], "a" * 60)
        self.assertEqual(row_at(wood, 10 ** 60 - 1), [4] + [9] * 59 + [11])
        self.assertEqual(place_of(wood, [4] + [9] * 59 + [11]), 10 ** 60 - 1)
        self.assertEqual(place_of(wood, [5] + [0] * 59 + [10]), 10 ** 60)
        self.assertEqual(place_of(wood, [5] + [0] * 59 + [11]), 10 ** 60)
        self.assertEqual(place_of(wood, [9] * 60 + [11]), 10 ** 60)
        self.check_numbers_refused(NoRow, wood, [10 ** 60, 10 ** 60 + 1, 2 * 10 ** 60 - 1])

    def test_rows_beyond_all_bounds(self):
        names = [name_of(step) for step in range(9)]
        grammar = [(name, (beneath,) * 2, 1) for name, beneath in zip(names, names[1:])] + [(names[-1], (), 1)] * 2
        wood = Wood(grammar, "")
        self.assertEqual(how_many(wood), 10 ** 60)
        first = row_at(wood, 0)
        last = row_at(wood, 10 ** 60 - 1)
        self.assertEqual(len(first), 511)
        self.assertEqual(place_of(wood, first), 0)
        self.assertEqual(place_of(wood, last), 10 ** 60 - 1)
        self.assertEqual(place_of(wood, [9 if number == 8 else number for number in first]), 10 ** 60)

    def test_rows_of_1000_numbers_and_more(self):
        wood = Wood(sized(1000), "")
        row = row_at(wood, 0)
        self.assertEqual(len(row), 1000)
        self.assertEqual(place_of(wood, row), 0)
        self.check_numbers_refused(NoRow, wood, [1, -1])
        wood = Wood(sized(1001), "")
        self.check_numbers_refused(TooGreat, wood, [0])
        self.check_numbers_refused(NoRow, wood, [1, -1] + NO_WHOLE_NUMBERS)
        wood = Wood(sized(2 ** 55), "")
        self.check_numbers_refused(TooGreat, wood, [0])

    def test_only_some_rows_are_too_long(self):
        grammar = [("S", ("NAF",), 0), ("S", (), 0), ("S", ("NBA",), 0)] + sized(1000, 5) + sized(999, 26)
        wood = Wood(grammar, "")
        self.check_numbers_refused(TooGreat, wood, [0])
        self.assertEqual(row_at(wood, 1), [1])
        self.assertEqual(len(row_at(wood, 2)), 1000)
        self.assertEqual(place_of(wood, [1]), 1)
        self.assertEqual(place_of(wood, row_at(wood, 2)), 2)
        self.check_numbers_refused(NoRow, wood, [3])

    def test_60_rules(self):
        grammar = [("S", ("S", "S"), number) for number in range(20)] + [("S", ("'a",), number) for number in range(40)]
        wood = Wood(grammar, "a" * 30)
        for number in (0, 10 ** 20, 10 ** 59 + 12345, 10 ** 60 - 1):
            row = row_at(wood, number)
            self.assertEqual(plain.read(grammar, row)[0], "a" * 30)
            self.assertEqual(place_of(wood, row), number)


class RefusedTest(NumberedTest):

    def test_endless_first(self):
        for name, text in (("own ring", "a"), ("dear ring", "aa"), ("round", "b"), ("twice", "")):
            wood = Wood(NAMED[name], text)
            self.check_numbers_refused(Endless, wood, [0, 1, -1, 10 ** 60] + NO_WHOLE_NUMBERS)
            self.check_rows_refused(Endless, wood, [[0], [1], [0, 1], []] + NO_WHOLE_NUMBERS + whole_numbers())

    def test_numbers(self):
        wood = Wood(SUMS, "1+1+1")
        self.check_numbers_refused(NoRow, wood, [-1, -2, 2, 3, 60, 10 ** 60 - 1, 10 ** 60, 10 ** 5000, -(10 ** 5000)])
        self.check_numbers_refused(NoRow, wood, [True, False, None, "0", [0], (0,), Touchy()] + NO_WHOLE_NUMBERS)

    def test_rows(self):
        wood = Wood(SUMS, "1+1")
        good = [0, 1, 2, 1, 2]
        self.assertEqual(place_of(wood, good), 0)
        # Rows of the grammar, but of other texts.
        self.check_rows_refused(NoRow, wood, [[1, 2], [3, 1, 2], [0, 0, 1, 2, 1, 2, 1, 2], [0, 3, 1, 2, 1, 2]])
        self.check_rows_refused(NoRow, wood, [[], [0], [0, 1, 2, 1], good + [2], [2], [-1], [4], [True], [None], ["0"]])
        self.check_rows_refused(NoRow, wood, [tuple(good), ring_list(), [Touchy()], [good], good + [None]])
        self.check_rows_refused(NoRow, wood, NO_WHOLE_NUMBERS + whole_numbers())

    def test_no_top(self):
        for grammar, text in (([], ""), ([], "a"), (SUMS, "1+"), (NAMED["barren"], "a"), (NAMED["own ring"], "b")):
            wood = Wood(grammar, text)
            self.check_numbers_refused(NoRow, wood, [0, 1, -1, 10 ** 60, None, True])
            self.check_rows_refused(NoRow, wood, [[], [0], [1], [1, 2], [0, 1], None])


if __name__ == "__main__":
    import unittest
    unittest.main()
