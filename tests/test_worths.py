import plain
from anything import Touchy, lists_and_tuples, other_kinds, other_texts
from forestread.errors import NoNumber, NoRow, TooGreat
from forestread.wood import Wood
from forestread.worths import best, prices, told
from refusals import RefusalTest
from samples import NAMED, SUMS, TEXTS, drawn, name_of, sized, texts_for

RINGS = {
    "free ring": ([("S", ("S",), 0), ("S", ("'a",), 1)], "a"),
    "dear ring": ([("S", ("S",), 3), ("S", ("'a",), 1), ("S", ("'a",), 2)], "a"),
    "round": (NAMED["round"], "b"),
    "round and on": (NAMED["round"], "ab"),
    "beside nothing": (NAMED["beside nothing"], "ab"),
    "twice": (NAMED["twice"], "aa"),
    "twice nothing": (NAMED["twice"], ""),
    "twice, all free": ([("S", ("S", "S"), 0), ("S", (), 0), ("S", ("'a",), 0)], "a"),
    "two rings": ([("S", ("S",), 2), ("S", ("S",), 2), ("S", ("'a", "S"), 0), ("S", ("'a",), 1)], "aa"),
}


def order_of(grammar, row):
    return plain.read(grammar, row)[1], len(row), row


class WorthsTest(RefusalTest):

    def check_first(self, grammar, text, rows, found):
        """That these are the first rows: in order, of this text, and none of the rows found is passed over."""
        keys = [order_of(grammar, row) for row in rows]
        self.assertEqual(keys, sorted(keys))
        self.assertEqual(len(rows), len({tuple(row) for row in rows}))
        for row in rows:
            self.assertEqual(plain.read(grammar, row)[0], text)
        for row in found:
            self.assertTrue(row in rows or order_of(grammar, row) > keys[-1], row)

    def check(self, grammar, text, most):
        """Whole where all rows are found; else by the rows of so many numbers at most."""
        wood = Wood(grammar, text)
        found = plain.rows_of_length(grammar, most, text)
        ringed = bool(plain.ring_nodes(plain.wood(grammar, text)))
        with self.subTest(grammar=grammar, text=text):
            rows = told(wood, 12)
            self.check_first(grammar, text, rows, found if len(rows) == 12 else [])
            if len(rows) < 12:
                self.assertFalse(ringed)
                self.assertEqual([row for row in rows if len(row) <= most], plain.by_worth(grammar, found))
            for many in (0, 1, 2, 5):
                self.assertEqual(told(wood, many), rows[:many])
            if rows:
                self.assertEqual(best(wood), rows[0])
            else:
                self.check_refused(NoRow, best, wood)
            self.assertEqual(prices(wood), plain.prices(grammar, plain.wood(grammar, text)))


class ToldTest(WorthsTest):

    def test_read_by_hand(self):
        grammar = [("S", ("A",), 1), ("S", ("'a",), 3), ("A", ("'a",), 2), ("A", ("B",), 0), ("B", ("'a",), 1)]
        wood = Wood(grammar, "a")
        self.assertEqual(told(wood), [[0, 3, 4], [1], [0, 2]])
        self.assertEqual(told(wood, 2), [[0, 3, 4], [1]])
        self.assertEqual(told(wood, 0), [])
        self.assertEqual(best(wood), [0, 3, 4])

    def test_the_three_orders(self):
        less = [("S", ("'a",), 2), ("S", ("A",), 0), ("A", ("'a",), 1)]
        self.assertEqual(told(Wood(less, "a")), [[1, 2], [0]])
        fewer = [("S", ("A",), 0), ("A", ("'a",), 1), ("S", ("'a",), 1)]
        self.assertEqual(told(Wood(fewer, "a")), [[2], [0, 1]])
        lists = [("S", ("'a",), 1)] * 12
        self.assertEqual(told(Wood(lists, "a")), [[number] for number in range(12)])

    def test_60_where_many_is_left_out(self):
        wood = Wood(NAMED["pairs"], "a" * 8)
        rows = plain.by_worth(NAMED["pairs"], plain.rows_of_length(NAMED["pairs"], 15, "a" * 8))
        self.assertEqual(len(rows), 429)
        self.assertEqual(told(wood), rows[:60])
        for many in (0, 1, 2, 59, 60):
            self.assertEqual(told(wood, many), rows[:many])
            self.assertEqual(told(wood, many=many), rows[:many])

    def test_fewer_rows_than_asked_for(self):
        wood = Wood(NAMED["pairs"], "aaa")
        for many in (2, 3, 60):
            self.assertEqual(told(wood, many), [[0, 0, 1, 1, 1], [0, 1, 0, 1, 1]])

    def test_no_rows(self):
        for grammar, text in (([], ""), ([], "a"), (SUMS, "1+"), (NAMED["barren"], "a"), (NAMED["own ring"], "b")):
            wood = Wood(grammar, text)
            for many in (0, 1, 60):
                self.assertEqual(told(wood, many), [])
            self.check_refused(NoRow, best, wood)
            self.assertEqual(prices(wood), {})

    def test_rules_that_are_alike(self):
        grammar = [("S", ("S", "S"), 1), ("S", ("'a",), 1), ("S", ("S", "S"), 1), ("S", ("'a",), 1)]
        rows = plain.by_worth(grammar, plain.rows_of_length(grammar, 7, "aaaa"))
        self.assertEqual(told(Wood(grammar, "aaaa")), rows[:60])

    def test_worths_near_the_bound(self):
        rows = plain.by_worth(NAMED["worths"], plain.rows_of_length(NAMED["worths"], 9, "aaaa"))
        self.assertGreater(len(rows), 8)
        self.assertEqual(told(Wood(NAMED["worths"], "aaaa")), rows)
        grammar = [("S", ("A", "A"), 0), ("A", ("'a",), 10 ** 60), ("A", ("'a",), 10 ** 60 - 1)]
        self.assertEqual(told(Wood(grammar, "aa")), [[0, 2, 2], [0, 1, 2], [0, 2, 1], [0, 1, 1]])

    def test_rings_in_full(self):
        free = RINGS["free ring"]
        self.assertEqual(told(Wood(*free)), [[0] * many + [1] for many in range(60)])
        dear = RINGS["dear ring"]
        expected = sorted([3 * many + worth, many + 1, [0] * many + [worth]] for many in range(60) for worth in (1, 2))
        self.assertEqual(told(Wood(*dear)), [row for worth, long, row in expected[:60]])

    def test_rings(self):
        for name, (grammar, text) in RINGS.items():
            with self.subTest(name):
                wood = Wood(grammar, text)
                # So many that each row that comes ahead of the last one told is among those found.
                found = plain.rows_of_length(grammar, 11, text)
                rows = told(wood, 20)
                self.assertEqual(len(rows), 20)
                self.check_first(grammar, text, rows, found)
                whole = plain.by_worth(grammar, found)
                if max(map(len, rows)) <= 11:
                    self.assertEqual(rows, whole[:20])
                self.assertEqual(told(wood, 60)[:20], rows)

    def test_named_grammars(self):
        for grammar in NAMED.values():
            for text in TEXTS[:12] + ["1", "1+1", "(1)", "' =", "  0"]:
                self.check(grammar, text, 8)

    def test_drawn_grammars(self):
        for grammar in drawn(81, 80):
            for text in texts_for(grammar, 2):
                self.check(grammar, text, 8)

    def test_many_that_is_none(self):
        for grammar, text in ((SUMS, "1+1"), ([], ""), (NAMED["own ring"], "a"), (sized(1001), "")):
            wood = Wood(grammar, text)
            things = [-1, 61, 10 ** 60, -(10 ** 60), True, False, "1", "", None, [1], (1,), 1.0, Touchy()]
            self.check_all_refused(NoNumber, lambda thing: told(wood, thing), things)
            things = other_kinds() + lists_and_tuples() + other_texts()
            self.check_all_refused(NoNumber, lambda thing: told(wood, thing), things)

    def test_rows_of_1000_numbers_and_more(self):
        wood = Wood(sized(1000), "")
        self.assertEqual(len(best(wood)), 1000)
        self.assertEqual([len(row) for row in told(wood)], [1000])
        wood = Wood(sized(1001), "")
        self.check_refused(TooGreat, best, wood)
        for many in (1, 2, 60):
            self.check_refused(TooGreat, told, wood, many)
        self.assertEqual(told(wood, 0), [])
        self.check_refused(TooGreat, best, Wood(sized(2 ** 55), ""))

    def test_only_a_later_row_is_too_long(self):
        # In the order of worth: one number, 1000 numbers, 1001 numbers, one number.
        grammar = [("S", ("NAF",), 3), ("S", (), 1), ("S", ("NBA",), 2), ("S", (), 4)] + sized(1000, 5) + sized(999, 26)
        wood = Wood(grammar, "")
        self.assertEqual(best(wood), [1])
        self.assertEqual([len(row) for row in told(wood, 2)], [1, 1000])
        for many in (3, 4, 60):
            self.check_refused(TooGreat, told, wood, many)
        self.assertEqual([len(row) for row in told(wood, 1)], [1])

    def test_only_the_best_row_counts_for_best(self):
        grammar = [("S", ("NAF",), 1), ("S", (), 0)] + sized(1000, 5)
        wood = Wood(grammar, "")
        self.assertEqual(best(wood), [1])
        self.assertEqual(told(wood, 1), [[1]])
        self.check_refused(TooGreat, told, wood, 2)

    def test_a_ring_of_rows_that_grow_too_long(self):
        grammar = [("S", ("S", "NAF"), 1), ("S", ("'a",), 0)] + sized(99, 5)
        wood = Wood(grammar, "a")
        self.assertEqual([len(row) for row in told(wood, 10)], [1 + 100 * many for many in range(10)])
        self.check_refused(TooGreat, told, wood, 11)
        self.check_refused(TooGreat, told, wood)

    def test_the_cheaper_tree_is_the_longer_one(self):
        grammar = [("S", ("NAF", "'a"), 0), ("S", ("'a",), 1)] + sized(1200, 5)
        wood = Wood(grammar, "a")
        self.check_refused(TooGreat, best, wood)
        self.assertEqual(prices(wood)["S", 0, 1], (0, 1201))

    def test_the_same_behind_refusals_and_changes(self):
        wood = Wood(NAMED["dear ring"], "aa")
        rows = told(wood, 5)
        before = [list(row) for row in rows]
        self.check_refused(NoNumber, told, wood, 61)
        rows[0].append("spoilt")
        rows.clear()
        self.assertEqual(told(wood, 5), before)
        best(wood).append("spoilt")
        self.assertEqual(best(wood), before[0])
        known = prices(wood)
        expected = dict(known)
        known.clear()
        self.assertEqual(prices(wood), expected)
        self.assertEqual(told(wood, 5), before)
        told(Wood([], "")).append("spoilt")
        self.assertEqual(told(Wood([], "")), [])


class PricesTest(WorthsTest):

    def test_read_by_hand(self):
        wood = Wood([("S", ("S", "'a"), 5), ("S", (), 2), ("S", ("S",), 0)], "a")
        self.assertEqual(prices(wood), {
            ("S", 0, 1): (7, 2), (0, 2, 0, 1): (7, 2), (0, 1, 0, 0): (7, 2), (0, 0, 0, 0): (5, 1),
            ("'a", 0, 1): (0, 0), ("S", 0, 0): (2, 1), (1, 0, 0, 0): (2, 1),
            (2, 1, 0, 1): (7, 3), (2, 0, 0, 0): (0, 1), (2, 1, 0, 0): (2, 2),
        })

    def test_pairs_are_compared_as_tuples(self):
        grammar = [("S", ("'a",), 2), ("S", ("A",), 1), ("A", ("B",), 0), ("B", ("'a",), 0), ("B", ("C",), 0), ("C", ("'a",), 0)]
        self.assertEqual(prices(Wood(grammar, "a"))["S", 0, 1], (1, 3))

    def test_kinds(self):
        known = prices(Wood(NAMED["dear ring"], "aa"))
        self.assertIs(type(known), dict)
        for price in known.values():
            self.assertIs(type(price), tuple)
            self.assertEqual(len(price), 2)

    def test_drawn_grammars_with_longer_rules(self):
        for grammar in drawn(82, 60, most_rules=10, most_parts=5):
            for text in ("", "ab", "aba"):
                with self.subTest(grammar=grammar, text=text):
                    self.assertEqual(prices(Wood(grammar, text)), plain.prices(grammar, plain.wood(grammar, text)))

    def test_a_long_way_round(self):
        names = [name_of(number) for number in range(29)]
        # The ring goes round against the order of the rules, and each step of it is dear or free.
        chain = [(name, (beneath,), number % 3) for number, (name, beneath) in enumerate(zip(names, names[1:] + names[:1]))]
        for order in (1, -1):
            grammar = chain[:1] + chain[1:][::order] + [(names[20], ("'a",), 7), (names[5], ("'a",), 40)]
            self.assertEqual(prices(Wood(grammar, "a")), plain.prices(grammar, plain.wood(grammar, "a")))


class GreatTest(WorthsTest):

    def test_60_signs(self):
        wood = Wood(NAMED["pairs"], "a" * 60)
        rows = told(wood)
        self.assertEqual(len(rows), 60)
        self.check_first(NAMED["pairs"], "a" * 60, rows, [])
        # All rows have the same worth and size, so the first ones are those of the order of lists.
        self.assertEqual(rows[0], [0] * 59 + [1] * 60)
        self.assertEqual(prices(wood)["S", 0, 60], (59 + 120, 119))

    def test_60_signs_and_60_rules(self):
        grammar = [("S", ("S", "S"), number) for number in range(20)] + [("S", ("'a",), number) for number in range(40)]
        wood = Wood(grammar, "a" * 60)
        rows = told(wood)
        self.check_first(grammar, "a" * 60, rows, [])
        self.assertEqual(best(wood), [0] * 59 + [20] * 60)
        self.assertEqual(plain.read(grammar, rows[-1])[1], 0)

    def test_60_signs_with_rings(self):
        grammar = NAMED["twice"]
        wood = Wood(grammar, "a" * 60)
        rows = told(wood)
        self.check_first(grammar, "a" * 60, rows, [])
        self.assertEqual(rows[0], [0] * 59 + [2] * 60)
        self.assertEqual(prices(wood)["S", 0, 60], (0, 119))


if __name__ == "__main__":
    import unittest
    unittest.main()
