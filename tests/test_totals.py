import plain
from forestread.errors import Endless
from forestread.tallies import Cheapest, Listed, Longest, Many, Tally, Used
from forestread.totals import how_many, total
from forestread.wood import Wood
from refusals import RefusalTest
from samples import NAMED, SUMS, TEXTS, drawn, name_of, texts_for

TALLIES = [Tally(), Many(), Cheapest(), Longest(), Used(), Listed(), Listed(1), Listed(2)]


def totals_by_rows(grammar, rows):
    worths = [plain.read(grammar, row)[1] for row in rows]
    return [
        bool(rows), len(rows), min(worths, default=None), max(map(len, rows), default=None),
        sorted({number for row in rows for number in row}) if rows else None, rows[:60], rows[:1], rows[:2],
    ]


class TotalsTest(RefusalTest):

    def check_endless(self, wood):
        for tally in TALLIES:
            self.check_refused(Endless, total, wood, tally)
        self.assertIsNone(how_many(wood))

    def check(self, grammar, text, most):
        """Tells whether there were few enough rows to go by."""
        wood = Wood(grammar, text)
        found = plain.wood(grammar, text)
        with self.subTest(grammar=grammar, text=text):
            if plain.ring_nodes(found):
                self.check_endless(wood)
                return True
            if (total(wood, Longest()) or 0) > most:
                return False
            rows = plain.rows_of_length(grammar, most, text)
            for tally, expected in zip(TALLIES, totals_by_rows(grammar, rows)):
                told = total(wood, tally)
                self.assertEqual(told, expected)
                self.assertIs(type(told), type(expected))
            self.assertEqual(how_many(wood), len(rows))
            return True

    def test_read_by_hand(self):
        wood = Wood(NAMED["pairs"], "aaa")
        self.assertIs(total(wood, Tally()), True)
        self.assertEqual(total(wood, Many()), 2)
        self.assertEqual(total(wood, Cheapest()), 8)
        self.assertEqual(total(wood, Longest()), 5)
        self.assertEqual(total(wood, Used()), [0, 1])
        self.assertEqual(total(wood, Listed()), [[0, 0, 1, 1, 1], [0, 1, 0, 1, 1]])
        self.assertEqual(total(wood, Listed(1)), [[0, 0, 1, 1, 1]])
        self.assertEqual(how_many(wood), 2)

    def test_the_least_and_the_greatest(self):
        grammar = [("S", ("A",), 1), ("S", ("'a",), 9), ("A", ("'a",), 3), ("A", ("B",), 0), ("B", ("'a",), 2)]
        wood = Wood(grammar, "a")
        self.assertEqual(total(wood, Cheapest()), 3)
        self.assertEqual(total(wood, Longest()), 3)
        self.assertEqual(total(wood, Listed()), [[0, 2], [0, 3, 4], [1]])
        self.assertEqual(total(wood, Used()), [0, 1, 2, 3, 4])

    def test_no_top(self):
        for grammar, text in (([], ""), ([], "a"), (SUMS, "1+"), (NAMED["barren"], "a"), (NAMED["own ring"], "b")):
            wood = Wood(grammar, text)
            for tally, nothing in zip(TALLIES, (False, 0, None, None, None, [], [], [])):
                told = total(wood, tally)
                self.assertEqual(told, nothing)
                self.assertIs(type(told), type(nothing))
            self.assertEqual(how_many(wood), 0)

    def test_a_ring(self):
        for name, text in (("own ring", "a"), ("dear ring", "aa"), ("round", "b"), ("beside nothing", "a"), ("twice", "")):
            with self.subTest(name):
                self.check_endless(Wood(NAMED[name], text))

    def test_a_ring_beside_the_wood(self):
        wood = Wood(NAMED["ring aside"], "a")
        self.assertEqual(how_many(wood), 1)
        self.check_endless(Wood(NAMED["ring aside"], "bc"))

    def test_named_grammars(self):
        done = [
            self.check(grammar, text, 9)
            for grammar in NAMED.values() for text in TEXTS + ["1", "1+1", "(1)", "' =", "  0"]
        ]
        self.assertGreater(sum(done), 400)

    def test_drawn_grammars(self):
        done = [self.check(grammar, text, 9) for grammar in drawn(62, 100) for text in texts_for(grammar, 3)]
        self.assertGreater(sum(done), 1000)

    def test_one_tally_for_several_woods(self):
        woods = [Wood(NAMED["pairs"], "a" * long) for long in range(1, 6)]
        for tally in TALLIES:
            told = [total(wood, tally) for wood in woods]
            again = [total(wood, tally) for wood in reversed(woods)]
            self.assertEqual(told, again[::-1])
        self.assertEqual([total(wood, Many()) for wood in woods], [1, 1, 2, 5, 14])

    def test_an_own_tally(self):
        asked = []

        class Words(Tally):
            def nothing(self):
                return "0"

            def blank(self):
                return "1"

            def of_rule(self, number, worth):
                asked.append((number, worth))
                return f"r{number}"

            def either(self, one, other):
                return f"({one}|{other})"

            def both(self, one, other):
                return f"({one}&{other})"

        grammar = [("S", ("'a", "A"), 5), ("A", (), 6), ("S", ("'a",), 7)]
        told = total(Wood(grammar, "a"), Words())
        first = "(0|((0|(r0&1))&(0|r1)))"
        self.assertEqual(told, f"((0|{first})|(0|(r2&1)))")
        self.assertEqual(sorted(asked), [(0, 5), (1, 6), (2, 7)])

    def test_many_trees(self):
        wood = Wood(NAMED["pairs"], "a" * 60)
        catalan = 1
        for number in range(59):
            catalan = catalan * 2 * (2 * number + 1) // (number + 2)
        self.assertEqual(how_many(wood), catalan)
        self.assertEqual(total(wood, Longest()), 119)
        self.assertEqual(total(wood, Cheapest()), 59 + 120)

    def test_10_to_the_60_trees_and_more(self):
        ten = [("S", ("'a", "S"), number) for number in range(10)]
        self.assertEqual(how_many(Wood(ten + [("S", (), 0)], "a" * 59)), 10 ** 59)
        self.assertEqual(how_many(Wood(ten + [("S", (), 0)], "a" * 60)), 10 ** 60)
        self.assertEqual(how_many(Wood(ten + [("S", (), 0)] * 2, "a" * 60)), 10 ** 60)
        nine = [("S", ("'a", "S"), number) for number in range(9)]
        self.assertEqual(how_many(Wood(nine + [("S", (), 0)], "a" * 60)), 9 ** 60)
        self.assertEqual(how_many(Wood(nine + [("S", (), 0)] * 11, "a" * 60)), 9 ** 60 * 11)

    def test_trees_beyond_all_bounds(self):
        names = [name_of(step) for step in range(30)]
        grammar = [(name, (beneath,) * 6, 1) for name, beneath in zip(names, names[1:])] + [(names[-1], (), 1)] * 2
        wood = Wood(grammar, "")
        self.assertEqual(how_many(wood), 10 ** 60)
        self.assertEqual(total(wood, Longest()), (6 ** 30 - 1) // 5)
        self.assertEqual(total(wood, Cheapest()), (6 ** 30 - 1) // 5)
        self.assertEqual(total(wood, Used()), list(range(31)))

    def test_what_is_told_is_new(self):
        wood = Wood(NAMED["pairs"], "aaa")
        for tally in (Used(), Listed()):
            told = total(wood, tally)
            expected = [list(row) if isinstance(row, list) else row for row in told]
            for row in told:
                if isinstance(row, list):
                    row.append("spoilt")
            told.append("spoilt")
            self.assertEqual(total(wood, tally), expected)
        total(Wood([], ""), Listed()).append("spoilt")
        self.assertEqual(total(Wood([], ""), Listed()), [])


if __name__ == "__main__":
    import unittest
    unittest.main()
