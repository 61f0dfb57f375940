import copy

import plain
from anything import Touchy, lists_and_tuples, other_kinds, other_texts, ring_list, whole_numbers
from forestread.derived import spans_of, text_of, worth_of
from forestread.errors import NoGrammar, NoRow
from refusals import RefusalTest
from samples import NAMED, SUMS, drawn

ASKED = [text_of, worth_of, spans_of]

NOTHINGS = [("S", ("N", "'a", "N"), 1), ("N", (), 2), ("N", ("'b",), 4), ("N", ("N", "N"), 8)]


class DerivedTest(RefusalTest):

    def check_row(self, grammar, row, text, worth, spans):
        grammar_before = copy.deepcopy(grammar)
        row_before = list(row)
        with self.subTest(row=row[:20]):
            self.assertEqual(text_of(grammar, row), text)
            self.assertEqual(worth_of(grammar, row), worth)
            self.assertEqual(spans_of(grammar, row), spans)
            self.assertEqual(grammar, grammar_before)
            self.assertEqual(row, row_before)

    def check_no_row(self, grammar, things):
        for place, thing in enumerate(things):
            for asked in ASKED:
                with self.subTest(asked.__name__, place=place, kind=type(thing)):
                    self.check_refused(NoRow, asked, grammar, thing)


class RowsTest(DerivedTest):

    def test_one_rule(self):
        self.check_row([("S", ("'a",), 5)], [0], "a", 5, [(0, 0, 1)])

    def test_a_rule_without_parts(self):
        self.check_row([("S", (), 5)], [0], "", 5, [(0, 0, 0)])

    def test_sums(self):
        self.check_row(SUMS, [1, 2], "1", 1, [(1, 0, 1), (2, 0, 1)])
        self.check_row(SUMS, [3, 1, 2], "(1)", 4, [(3, 0, 3), (1, 1, 2), (2, 1, 2)])
        self.check_row(
            SUMS, [0, 0, 1, 2, 1, 2, 1, 2], "1+1+1", 7,
            [(0, 0, 5), (0, 0, 3), (1, 0, 1), (2, 0, 1), (1, 2, 3), (2, 2, 3), (1, 4, 5), (2, 4, 5)],
        )
        self.check_row(
            SUMS, [0, 1, 2, 0, 1, 2, 1, 2], "1+1+1", 7,
            [(0, 0, 5), (1, 0, 1), (2, 0, 1), (0, 2, 5), (1, 2, 3), (2, 2, 3), (1, 4, 5), (2, 4, 5)],
        )

    def test_empty_spans_where_a_rule_gives_nothing(self):
        self.check_row(NOTHINGS, [0, 1, 1], "a", 5, [(0, 0, 1), (1, 0, 0), (1, 1, 1)])
        self.check_row(
            NOTHINGS, [0, 3, 1, 2, 3, 1, 1], "ba", 27,
            [(0, 0, 2), (3, 0, 1), (1, 0, 0), (2, 0, 1), (3, 2, 2), (1, 2, 2), (1, 2, 2)],
        )

    def test_a_name_beneath_itself_alone(self):
        grammar = [("S", ("S",), 3), ("S", ("'a",), 1)]
        self.check_row(grammar, [0, 0, 0, 1], "a", 10, [(0, 0, 1), (0, 0, 1), (0, 0, 1), (1, 0, 1)])

    def test_rules_that_are_alike(self):
        grammar = [("S", ("S", "S"), 1), ("S", ("'a",), 2), ("S", ("S", "S"), 1), ("S", ("'a",), 2)]
        for outer in (0, 2):
            for left in (1, 3):
                for right in (1, 3):
                    spans = [(outer, 0, 2), (left, 0, 1), (right, 1, 2)]
                    self.check_row(grammar, [outer, left, right], "aa", 5, spans)

    def test_names_without_rules_among_parts(self):
        grammar = [("S", ("'a", "NONE"), 1), ("S", ("'a", "T"), 1), ("T", ("NONE",), 1), ("T", ("'b",), 1)]
        self.check_row(grammar, [1, 3], "ab", 2, [(1, 0, 2), (3, 1, 2)])
        self.check_no_row(grammar, [[0], [0, 0], [0, 3], [1, 2], [1, 2, 2], [1, 2, 3]])

    def test_signs_that_look_like_other_things(self):
        grammar = [("S", ("''", "' ", "'S", "S"), 1), ("S", ("'=", "'0", "'A"), 2)]
        self.check_row(grammar, [0, 0, 1], "' S' S=0A", 4, [(0, 0, 9), (0, 3, 9), (1, 6, 9)])

    def test_six_parts(self):
        grammar = [("S", ("A", "'x", "B", "A", "'y", "B"), 1), ("A", (), 0), ("B", ("'b", "'c"), 3)]
        self.check_row(
            grammar, [0, 1, 2, 1, 2], "xbcybc", 7,
            [(0, 0, 6), (1, 0, 0), (2, 1, 3), (1, 3, 3), (2, 4, 6)],
        )

    def test_texts_of_more_than_60_signs(self):
        grammar = [("S", ("S", "'a", "'b"), 1), ("S", (), 7)]
        row = [0] * 31 + [1]
        spans = [(0, 0, 62 - 2 * place) for place in range(31)] + [(1, 0, 0)]
        self.check_row(grammar, row, "ab" * 31, 38, spans)

    def test_rows_of_1000_numbers(self):
        right = [("S", ("'a", "S"), 1), ("S", (), 7)]
        spans = [(0, place, 999) for place in range(999)] + [(1, 999, 999)]
        self.check_row(right, [0] * 999 + [1], "a" * 999, 1006, spans)
        left = [("S", ("S", "'a"), 1), ("S", (), 7)]
        spans = [(0, 0, 999 - place) for place in range(999)] + [(1, 0, 0)]
        self.check_row(left, [0] * 999 + [1], "a" * 999, 1006, spans)
        ring = [("S", ("S",), 10 ** 60), ("S", ("'a",) * 6, 1)]
        spans = [(0, 0, 6)] * 999 + [(1, 0, 6)]
        self.check_row(ring, [0] * 999 + [1], "a" * 6, 999 * 10 ** 60 + 1, spans)

    def test_worths_that_add_up_beyond_the_bound_of_one(self):
        grammar = [("S", ("S", "S"), 10 ** 60), ("S", ("'a",), 10 ** 60 - 1)]
        self.assertEqual(worth_of(grammar, [0, 1, 1]), 3 * 10 ** 60 - 2)
        self.assertEqual(worth_of(grammar, [0] * 499 + [1] * 500), 999 * 10 ** 60 - 500)

    def test_all_short_rows_of_many_grammars(self):
        for grammar in list(NAMED.values()) + drawn(11, 40):
            for row in plain.rows_of_length(grammar, 6)[:200]:
                self.check_row(grammar, row, *plain.read(grammar, row))


class NoRowTest(DerivedTest):

    def test_numbers_lacking(self):
        self.check_no_row(SUMS, [[], [0], [1], [0, 1], [0, 1, 2], [0, 1, 2, 1], [3, 1], [3]])

    def test_numbers_left_over(self):
        self.check_no_row(SUMS, [[1, 2, 2], [1, 2, 1], [3, 1, 2, 3], [0, 1, 2, 1, 2, 0], [1, 2, None], [1, 2, []]])

    def test_a_rule_of_another_head(self):
        self.check_no_row(SUMS, [[2], [2, 1], [1, 1], [1, 0], [0, 2, 2], [0, 1, 2, 2], [1, 3, 1, 2]])

    def test_numbers_of_no_rule(self):
        self.check_no_row(SUMS, [[-1], [4], [1, -2], [1, 4], [1, 60], [-3, 2], [1, 10 ** 60], [1, -(10 ** 5000)]])
        self.check_no_row([("S", ("'a",), 1)], [[-1], [1], [2]])

    def test_the_empty_list(self):
        for name, grammar in NAMED.items():
            with self.subTest(name):
                self.check_no_row(grammar, [[]])

    def test_no_rules(self):
        self.check_no_row([], [[], [0], [1], [-1], [None], None, (), 0])

    def test_a_start_without_trees(self):
        for grammar in ([("S", ("S",), 0)], [("S", ("NONE",), 0)], NAMED["barren"]):
            self.check_no_row(grammar, [[], [0], [0, 0], [0, 0, 0], [1], [0, 1], [3], [1, 2, 0]])

    def test_truths(self):
        self.check_no_row([("S", ("'a",), 1), ("S", ("S",), 1)], [[False], [True], [True, 0], [1, False], [True, False]])

    def test_other_things_in_the_list(self):
        things = other_kinds() + lists_and_tuples() + other_texts() + ["0", "1", "", "S", 0.0, 1.0]
        self.check_no_row(SUMS, [[thing] for thing in things])
        self.check_no_row(SUMS, [[1, thing] for thing in things])
        self.check_no_row(SUMS, [[1, 2, thing] for thing in things])

    def test_things_that_are_no_list(self):
        rows = [(1, 2), "12", "", {1: 2}, {1, 2}, iter([1, 2]), range(1, 3), ring_list()]
        self.check_no_row(SUMS, rows + other_kinds() + lists_and_tuples() + other_texts() + whole_numbers())

    def test_no_grammar_is_refused_ahead(self):
        rows = [[], [0], None, (), "row", Touchy(), [Touchy()], ring_list()]
        things = other_kinds() + whole_numbers() + other_texts() + [(), "", [None], [("S", (), True)], [("S", (), 0)] * 61]
        for row in rows:
            for asked in ASKED:
                self.check_all_refused(NoGrammar, lambda thing: asked(thing, row), things)

    def test_a_good_row_is_read_behind_a_refusal(self):
        row = [1, 2]
        wrong = [1, 2, 2, None]
        for asked, told in ((text_of, "1"), (worth_of, 1), (spans_of, [(1, 0, 1), (2, 0, 1)])):
            self.check_refused(NoRow, asked, SUMS, wrong)
            self.check_refused(NoGrammar, asked, tuple(SUMS), row)
            self.assertEqual(asked(SUMS, row), told)
        self.assertEqual(wrong, [1, 2, 2, None])
        self.assertEqual(row, [1, 2])


class ToldTest(DerivedTest):

    def test_kinds(self):
        self.assertIs(type(text_of(SUMS, [1, 2])), str)
        self.assertIs(type(worth_of(SUMS, [1, 2])), int)
        spans = spans_of(SUMS, [3, 1, 2])
        self.assertIs(type(spans), list)
        for span in spans:
            self.assertIs(type(span), tuple)
            self.assertEqual(len(span), 3)

    def test_spans_are_a_new_list(self):
        grammar = list(SUMS)
        row = [1, 2]
        told = spans_of(grammar, row)
        told.append("spoilt")
        told[0] = None
        self.assertEqual(spans_of(grammar, row), [(1, 0, 1), (2, 0, 1)])
        kept = spans_of(grammar, row)
        row.clear()
        grammar.clear()
        self.assertEqual(kept, [(1, 0, 1), (2, 0, 1)])


if __name__ == "__main__":
    import unittest
    unittest.main()
