import plain
from forestread.rings import ring, settled
from forestread.wood import Wood
from refusals import RefusalTest
from samples import NAMED, TEXTS, drawn, texts_for


class RingsTest(RefusalTest):

    def check_ring(self, wood, found):
        told = ring(wood)
        if not plain.ring_nodes(found):
            self.assertIsNone(told)
            return
        self.assertIs(type(told), list)
        self.assertGreater(len(told), 0)
        self.assertEqual(len(told), len(set(told)))
        for node, inner in zip(told, told[1:] + told[:1]):
            self.assertTrue(any(inner in way for way in found[node]), (node, inner))

    def check_settled(self, wood, found):
        told = settled(wood)
        self.assertIs(type(told), list)
        self.assertEqual(len(told), len(set(told)))
        self.assertEqual(set(told), plain.settled_nodes(found))
        seen = set()
        for node in told:
            for way in found[node]:
                self.assertLessEqual(set(way), seen)
            seen.add(node)

    def check(self, grammar, text):
        with self.subTest(grammar=grammar, text=text):
            wood = Wood(grammar, text)
            found = plain.wood(grammar, text)
            self.check_ring(wood, found)
            self.check_settled(wood, found)
            self.assertEqual(ring(wood) is None, len(settled(wood)) == len(wood.nodes()))

    def test_a_rule_of_the_start_alone(self):
        wood = Wood([("S", ("S",), 0), ("S", ("'a",), 0)], "a")
        told = ring(wood)
        self.assertEqual(set(told), {("S", 0, 1), (0, 1, 0, 1)})
        self.assertEqual(set(settled(wood)), {(0, 0, 0, 0), (1, 0, 0, 0), (1, 1, 0, 1), ("'a", 0, 1)})

    def test_names_that_go_round_through_one_another(self):
        for text in ("b", "ab"):
            self.assertIsNotNone(ring(Wood(NAMED["round"], text)))
        self.assertIsNone(ring(Wood(NAMED["round"], "a")))

    def test_names_beside_ones_that_give_nothing(self):
        wood = Wood(NAMED["beside nothing"], "a")
        self.assertEqual(set(ring(wood)), {("S", 0, 1), (0, 2, 0, 1), (0, 1, 0, 1)})
        for text in ("", "a", "aa"):
            self.assertIsNotNone(ring(Wood(NAMED["twice"], text)))

    def test_none(self):
        for name, text in (("pairs", "aaaa"), ("sums", "1+1+1"), ("left", "aaa"), ("right", "aaa"), ("six", "aa")):
            wood = Wood(NAMED[name], text)
            self.assertIsNone(ring(wood))
            self.assertEqual(set(settled(wood)), set(wood.nodes()))

    def test_no_top(self):
        for grammar, text in (([], ""), ([], "a"), (NAMED["own ring"], "b"), (NAMED["own ring"], ""), (NAMED["barren"], "a")):
            wood = Wood(grammar, text)
            self.assertIsNone(ring(wood))
            self.assertEqual(settled(wood), [])

    def test_a_ring_beside_the_wood(self):
        self.assertIsNone(ring(Wood(NAMED["ring aside"], "a")))
        self.assertIsNotNone(ring(Wood(NAMED["ring aside"], "bc")))
        # R goes round over these signs, but no tree of the start comes to it.
        grammar = [("S", ("'a", "'c"), 0), ("S", ("R", "'z"), 0), ("R", ("R",), 0), ("R", ("'a",), 0)]
        self.assertIsNone(ring(Wood(grammar, "ac")))
        self.assertIsNotNone(ring(Wood(grammar, "az")))

    def test_several_ways_to_one_ring(self):
        grammar = [
            ("S", ("A", "'x"), 0), ("S", ("B", "'x"), 0), ("S", ("C", "'x"), 0), ("A", ("R",), 0), ("B", ("R",), 0),
            ("C", ("'r",), 0), ("R", ("R",), 0), ("R", ("'r",), 0),
        ]
        wood = Wood(grammar, "rx")
        self.assertEqual(set(ring(wood)), {("R", 0, 1), (6, 1, 0, 1)})
        told = settled(wood)
        for node in (("A", 0, 1), (3, 1, 0, 1), ("B", 0, 1), (4, 1, 0, 1), (0, 2, 0, 2), (1, 2, 0, 2), ("S", 0, 2)):
            self.assertIn(node, wood.nodes())
            self.assertNotIn(node, told)
        for node in (("C", 0, 1), (2, 2, 0, 2), (7, 1, 0, 1)):
            self.assertIn(node, told)
        self.check(grammar, "rx")

    def test_drawn_grammars_of_more_heads(self):
        for grammar in drawn(52, 60, heads="SABCDE", most_rules=14, most_parts=2):
            for text in ("a", "ab", "ba"):
                self.check(grammar, text)

    def test_named_grammars(self):
        for grammar in NAMED.values():
            for text in TEXTS + ["1", "1+1", "(1)", "' =", "  0"]:
                self.check(grammar, text)

    def test_drawn_grammars(self):
        for grammar in drawn(51, 60):
            for text in texts_for(grammar, 3):
                self.check(grammar, text)

    def test_60_signs(self):
        wood = Wood(NAMED["pairs"], "a" * 60)
        self.assertIsNone(ring(wood))
        self.assertEqual(set(settled(wood)), set(wood.nodes()))
        wood = Wood(NAMED["twice"], "a" * 60)
        told = ring(wood)
        for node, inner in zip(told, told[1:] + told[:1]):
            self.assertTrue(any(inner in way for way in wood.ways(node)))
        self.assertLess(len(settled(wood)), len(wood.nodes()))

    def test_long_paths(self):
        names = ["N" + chr(65 + number // 26) + chr(65 + number % 26) for number in range(59)]
        chain = [(name, (beneath, "'a"), 0) for name, beneath in zip(names, names[1:] + names[:1])]
        grammar = chain + [(names[0], (), 0)]
        wood = Wood(grammar, "a" * 59)
        self.assertIsNone(ring(wood))
        self.assertEqual(set(settled(wood)), set(wood.nodes()))
        round_grammar = [(name, parts[:1], worth) for name, parts, worth in chain] + [(names[7], ("'a",), 0)]
        wood = Wood(round_grammar, "a")
        self.assertEqual(len(ring(wood)), 2 * 59)

    def test_told_anew_each_time(self):
        wood = Wood(NAMED["dear ring"], "aa")
        told = ring(wood)
        before = list(told)
        order = settled(wood)
        order_before = list(order)
        told.clear()
        order.clear()
        order.append("spoilt")
        self.assertEqual(ring(wood), before)
        self.assertEqual(settled(wood), order_before)
        self.assertEqual(ring(Wood(NAMED["dear ring"], "aa")), before)
        settled(Wood([], "")).append("spoilt")
        self.assertEqual(settled(Wood([], "")), [])


if __name__ == "__main__":
    import unittest
    unittest.main()
