import copy

import plain
from anything import Touchy, no_costs, no_grammars, no_texts
from forestread.errors import Barren, NoCosts, NoGrammar, NoText, TooGreat
from forestread.mends import mended
from forestread.tolls import tolls
from refusals import RefusalTest
from samples import NAMED, SUMS, TEXTS, drawn, sized, texts_for
from test_tolls import ALL_COSTS, GREAT


class MendsTest(RefusalTest):

    def check_told(self, grammar, text, costs):
        before = copy.deepcopy(grammar)
        told = mended(grammar, text, costs)
        self.assertIs(type(told), tuple)
        self.assertEqual(len(told), 3)
        cost, deeds, row = told
        self.assertEqual([type(thing) for thing in told], [int, list, list])
        self.assertEqual(plain.done_deeds(text, deeds), plain.read(grammar, row)[0])
        self.assertEqual(plain.deeds_cost(deeds, costs), cost)
        for deed in deeds:
            self.assertIs(type(deed), tuple)
            self.assertEqual(len(deed), 3 if deed[0] == "swap" else 2)
        self.assertEqual(grammar, before)
        return cost, deeds, row

    def check(self, grammar, text, costs, most):
        with self.subTest(grammar=grammar, text=text, costs=costs):
            if not grammar or grammar[0][0] not in plain.least(grammar):
                self.check_refused(Barren, mended, grammar, text, costs)
                return
            cost, deeds, row = self.check_told(grammar, text, costs)
            self.assertEqual((cost, len(row)), tolls(grammar, text, costs)[grammar[0][0], 0, len(text)])
            found = plain.rows_of_length(grammar, most)[:400]
            pairs = [(plain.distance(text, plain.read(grammar, other)[0], costs), len(other)) for other in found]
            self.assertLessEqual((cost, len(row)), min(pairs, default=(cost, len(row))))
            if min(costs) > 0:
                own = bool(plain.wood(grammar, text))
                self.assertEqual(cost == 0, own)
                if own:
                    self.assertEqual(deeds, [("keep", sign) for sign in text])

    def test_read_by_hand(self):
        self.assertEqual(mended([("S", ("'a",), 0)], "b", (1, 1, 1)), (1, [("swap", "b", "a")], [0]))
        self.assertEqual(mended([("S", ("'a",), 0)], "", (4, 1, 1)), (4, [("put", "a")], [0]))
        self.assertEqual(mended([("S", ("'a",), 0)], "ba", (1, 6, 1)), (6, [("cut", "b"), ("keep", "a")], [0]))
        self.assertEqual(mended([("S", ("'a",), 0)], "aa", (1, 6, 1))[0], 6)
        self.assertEqual(mended([("S", (), 0)], "xyz", (1, 2, 1)), (6, [("cut", "x"), ("cut", "y"), ("cut", "z")], [0]))

    def test_each_deed_is_the_cheapest_once(self):
        grammar = [("S", ("'a",), 0)]
        self.assertEqual(mended(grammar, "b", (1, 1, 9))[0], 2)
        self.assertIn(("put", "a"), mended(grammar, "b", (1, 1, 9))[1])
        self.assertEqual(mended(grammar, "b", (9, 9, 1))[1], [("swap", "b", "a")])

    def test_sums(self):
        self.assertEqual(mended(SUMS, "1+1", (1, 1, 1))[0], 0)
        for text, cost in (("1+", 1), ("+1", 1), ("", 1), ("(1", 1), ("((1)+1", 1), ("11", 1), ("z", 1), (")(", 2)):
            with self.subTest(text):
                self.assertEqual(self.check_told(SUMS, text, (1, 1, 1))[0], cost)

    def test_named_grammars(self):
        for grammar in NAMED.values():
            for text in TEXTS[:10] + ["z", "1+", "(1"]:
                for costs in ((1, 1, 1), (2, 3, 4), (0, 0, 0)):
                    self.check(grammar, text, costs, 6)

    def test_each_kind_of_costs(self):
        for name in ("sums", "middle", "round", "beside nothing", "many nothings", "twice", "one sign"):
            for costs in ALL_COSTS:
                for text in ("", "b", "abz", "1)"):
                    self.check(NAMED[name], text, costs, 6)

    def test_drawn_grammars(self):
        for place, grammar in enumerate(drawn(101, 80)):
            for text in texts_for(grammar, 2):
                self.check(grammar, text, ALL_COSTS[place % len(ALL_COSTS)], 6)

    def test_the_least_cost_over_all_short_rows(self):
        # Where the row told is among those that the search has found, the least of these is what is told.
        for grammar in drawn(102, 80):
            found = plain.rows_of_length(grammar, 7)
            if not 0 < len(found) < 300:
                continue
            for text in ("", "a", "bb", "aba", "zz"):
                for costs in ((1, 1, 1), (3, 1, 2), (0, 2, 1)):
                    cost, deeds, row = self.check_told(grammar, text, costs)
                    pairs = [(plain.distance(text, plain.read(grammar, other)[0], costs), len(other)) for other in found]
                    if len(row) <= 7:
                        self.assertEqual((cost, len(row)), min(pairs))

    def test_great_costs(self):
        self.assertEqual(mended(SUMS, "", (GREAT, 0, 0))[0], GREAT)
        self.assertEqual(mended([("S", ("'a",) * 6, 0)], "", (GREAT, 0, 0))[0], 6 * GREAT)

    def test_longer_texts(self):
        for text in ("(1+(1" * 4, "1" * 20, "+" * 21, "(" * 30, "((1+1)+(1+1)+1" * 4 + "+1+)"):
            cost, deeds, row = self.check_told(SUMS, text, (1, 1, 1))
            self.assertEqual((cost, len(row)), tolls(SUMS, text, (1, 1, 1))["SUM", 0, len(text)])
        # 14 of them stay, one is swapped for 1, 14 are swapped for ), and one is cut.
        self.assertEqual(mended(SUMS, "(" * 30, (1, 1, 1))[0], 16)
        self.assertEqual(mended(SUMS, "(" * 29 + "1" + ")" * 29, (1, 1, 1))[0], 0)
        self.assertEqual(mended(SUMS, "(" * 29 + "1" + ")" * 30, (1, 1, 1))[0], 1)

    def test_60_rules_and_60_signs(self):
        grammar = [("S", ("S", "S"), number) for number in range(30)] + [("S", ("'a",), number) for number in range(30)]
        cost, deeds, row = self.check_told(grammar, "ab" * 30, (2, 3, 2))
        self.assertEqual((cost, len(row)), (60, 119))

    def test_barren(self):
        for text in ("", "a", "a" * 60):
            self.check_refused(Barren, mended, [], text, (1, 1, 1))
            self.check_refused(Barren, mended, NAMED["barren"], text, (1, 1, 1))
            self.check_refused(Barren, mended, [("S", ("S",), 0)], text, (0, 0, 0))
            self.check_refused(Barren, mended, [("S", ("NONE",), 0), ("A", (), 0)], text, (1, 1, 1))
            # All rows that there might be would be too long.
            self.check_refused(Barren, mended, [("S", ("NAF", "S"), 0)] + sized(2000, 5), text, (1, 1, 1))

    def test_rows_of_1000_numbers_and_more(self):
        cost, deeds, row = self.check_told(sized(1000), "ab", (1, 1, 1))
        self.assertEqual((cost, len(row)), (2, 1000))
        for size in (1001, 2 ** 55):
            self.check_refused(TooGreat, mended, sized(size), "ab", (1, 1, 1))
        grammar = [("S", ("NAF",), 0), ("S", ("'a",), 0)] + sized(1000, 5)
        self.assertEqual(mended(grammar, "a", (1, 1, 1)), (0, [("keep", "a")], [1]))
        self.check_refused(TooGreat, mended, grammar, "", (1, 1, 1))
        self.assertEqual(mended(grammar, "", (0, 1, 1))[2], [1])
        grammar = [("S", ("NAF",), 0), ("S", ("'a",), 0)] + sized(999, 5)
        self.assertEqual(len(mended(grammar, "", (1, 1, 1))[2]), 1000)

    def test_a_new_text_of_many_signs(self):
        grammar = [(head, parts or ("'a",) * 6, worth) for head, parts, worth in sized(1000)]
        cost, deeds, row = self.check_told(grammar, "za", (1, 1, 1))
        self.assertEqual(len(row), 1000)
        self.assertGreater(len(plain.done_deeds("za", deeds)), 1000)

    def test_the_order_of_refusals(self):
        for text in ("a", "a" * 61, None, Touchy()):
            for costs in ((1, 1, 1), None, Touchy()):
                self.check_all_refused(NoGrammar, lambda thing: mended(thing, text, costs), no_grammars())
        for grammar in ([], SUMS, NAMED["barren"], sized(1001)):
            for costs in ((1, 1, 1), None, Touchy()):
                self.check_all_refused(NoText, lambda thing: mended(grammar, thing, costs), no_texts())
            self.check_all_refused(NoCosts, lambda thing: mended(grammar, "a", thing), no_costs())

    def test_the_same_behind_changes(self):
        grammar = list(SUMS)
        told = mended(grammar, "1+", (1, 1, 1))
        before = copy.deepcopy(told)
        told[1].append("spoilt")
        told[2].clear()
        self.check_refused(NoCosts, mended, grammar, "1+", None)
        again = mended(grammar, "1+", (1, 1, 1))
        self.assertEqual(again, before)
        grammar.clear()
        self.assertEqual(again, before)
        self.assertEqual(mended(SUMS, "1+", (1, 1, 1)), before)


if __name__ == "__main__":
    import unittest
    unittest.main()
