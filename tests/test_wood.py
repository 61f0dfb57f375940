import copy

import plain
from anything import Touchy, no_grammars, no_texts
from forestread.chart import standing
from forestread.errors import NoGrammar, NoText
from forestread.wood import Wood
from refusals import RefusalTest
from samples import NAMED, SUMS, TEXTS, drawn, texts_for



class WoodTest(RefusalTest):

    def check(self, grammar, text):
        before = copy.deepcopy(grammar)
        with self.subTest(grammar=grammar, text=text):
            wood = Wood(grammar, text)
            expected = plain.wood(grammar, text)
            top = (grammar[0][0], 0, len(text)) if grammar else None
            self.assertEqual(wood.top(), top if top in expected else None)
            nodes = wood.nodes()
            self.assertIs(type(nodes), list)
            self.assertEqual(len(nodes), len(set(nodes)))
            self.assertEqual(set(nodes), set(expected))
            for node in expected:
                self.assertEqual(wood.ways(node), expected[node])
            for node in standing(grammar, text):
                if node not in expected:
                    self.assertEqual(wood.ways(node), [])
            self.assertEqual(wood.told_grammar(), before)
            self.assertEqual(wood.told_text(), text)
            self.assertEqual(grammar, before)

    def test_read_by_hand(self):
        wood = Wood([("S", ("S", "S"), 1), ("S", ("'a",), 2)], "aaa")
        self.assertEqual(wood.top(), ("S", 0, 3))
        self.assertEqual(wood.ways(("S", 0, 3)), [((0, 2, 0, 3),)])
        self.assertEqual(wood.ways((0, 2, 0, 3)), [((0, 1, 0, 1), ("S", 1, 3)), ((0, 1, 0, 2), ("S", 2, 3))])
        self.assertEqual(wood.ways((0, 1, 0, 1)), [((0, 0, 0, 0), ("S", 0, 1))])
        self.assertEqual(wood.ways((0, 0, 0, 0)), [()])
        self.assertEqual(wood.ways(("S", 0, 1)), [((1, 1, 0, 1),)])
        self.assertEqual(wood.ways(("'a", 2, 3)), [()])
        # These stand, but nothing leads to them.
        for node in ((0, 2, 0, 2), (0, 1, 0, 3), (1, 1, 0, 1), (0, 0, 3, 3), (1, 0, 3, 3)):
            self.assertIn(node, standing(wood.told_grammar(), "aaa"))
        for node in ((0, 1, 0, 3), (0, 0, 3, 3), (1, 0, 3, 3)):
            self.assertEqual(wood.ways(node), [])
            self.assertNotIn(node, wood.nodes())

    def test_ways_rise_by_rules(self):
        grammar = [("S", ("'a",), 0), ("A", ("'a",), 0), ("S", ("A",), 0), ("S", ("'a",), 0), ("S", ("'b",), 0)]
        wood = Wood(grammar, "a")
        self.assertEqual(wood.ways(("S", 0, 1)), [((0, 1, 0, 1),), ((2, 1, 0, 1),), ((3, 1, 0, 1),)])

    def test_ways_rise_by_places(self):
        wood = Wood([("S", ("A", "A"), 0), ("A", ("'a", "A"), 0), ("A", (), 0)], "aa")
        self.assertEqual(wood.ways((0, 2, 0, 2)), [((0, 1, 0, place), ("A", place, 2)) for place in range(3)])

    def test_tuples_that_are_no_nodes(self):
        wood = Wood(SUMS, "1+1")
        tuples = [
            (), ("SUM",), (0,), ("SUM", 0), (0, 0), ("SUM", 0, 4), ("SUM", 0, -1), ("SUM", 3, 0), ("SUM", -1, 3),
            ("SUM", 10 ** 60, 0), ("NONE", 0, 3), ("'1", 0, 2), ("'1", 1, 2), ("'+", 0, 1), ("+", 1, 2), ("", 0, 0),
            (0, 0, 0), (0, 0, 0, 1), (0, 4, 0, 3), (0, -1, 0, 0), (4, 0, 0, 0), (-1, 0, 0, 0), (60, 1, 0, 3),
            (0, 1, 0, 99), (0, 3, 0, 3, 0), ("SUM", 0, 3, 0), (0, "SUM", 0, 3), (0, 0, "", ""), ("SUM", "0", "3"),
            ("a", "b", "c"), ("a", "b", "c", "d"), (1, 2, 3, 4, 5, 6), (10 ** 60,) * 4, (0, 10 ** 60, 0, 3),
        ]
        for node in tuples:
            with self.subTest(node):
                self.assertEqual(wood.ways(node), [])

    def test_no_top(self):
        for grammar, text in ((SUMS, "1+"), ([], ""), ([], "a"), (NAMED["barren"], "a"), (SUMS, ""), (SUMS, "z")):
            with self.subTest(grammar=grammar, text=text):
                wood = Wood(grammar, text)
                self.assertIsNone(wood.top())
                self.assertEqual(wood.nodes(), [])
                for node in standing(grammar, text):
                    self.assertEqual(wood.ways(node), [])
                self.assertEqual(wood.told_grammar(), grammar)
                self.assertEqual(wood.told_text(), text)

    def test_named_grammars(self):
        for grammar in NAMED.values():
            for text in TEXTS + ["1", "1+1", "(1)", "1+1+1", "' =", "  0"]:
                self.check(grammar, text)

    def test_drawn_grammars(self):
        for grammar in drawn(41, 40):
            for text in texts_for(grammar, 3):
                self.check(grammar, text)

    def test_rows_of_trees_are_the_rows_of_the_text(self):
        for grammar in list(NAMED.values()) + drawn(42, 60):
            for text in texts_for(grammar, 2):
                with self.subTest(grammar=grammar, text=text):
                    wood = Wood(grammar, text)
                    found = {node: wood.ways(node) for node in wood.nodes()}
                    rows = plain.rows_of_length(grammar, 6, text)
                    trees = [] if wood.top() is None else plain.tree_rows(grammar, found, wood.top(), 6)
                    self.assertEqual(trees, rows)
                    for row in trees:
                        self.assertEqual(plain.read(grammar, row)[0], text)

    def test_60_signs_and_60_rules(self):
        grammar = [("S", ("S", "S"), number) for number in range(20)] + [("S", ("'a",), number) for number in range(40)]
        wood = Wood(grammar, "a" * 60)
        self.assertEqual(wood.top(), ("S", 0, 60))
        self.assertEqual(wood.ways(wood.top()), [((number, 2, 0, 60),) for number in range(20)])
        self.assertEqual(
            wood.ways((19, 2, 0, 60)), [((19, 1, 0, place), ("S", place, 60)) for place in range(1, 60)],
        )
        self.assertEqual(len(wood.ways(("S", 59, 60))), 40)
        self.assertEqual(wood.ways((0, 1, 0, 60)), [])

    def test_no_grammar_is_refused_ahead_of_no_text(self):
        for text in ("a", "", "a" * 61, None, Touchy(), ["a"], "\n"):
            self.check_all_refused(NoGrammar, lambda thing: Wood(thing, text), no_grammars())

    def test_no_text(self):
        for grammar in ([], SUMS):
            self.check_all_refused(NoText, lambda thing: Wood(grammar, thing), no_texts() + ["a" * 61, ["a"]])


class UnchangedTest(RefusalTest):

    def told_by(self, wood):
        nodes = wood.nodes()
        return wood.told_grammar(), wood.told_text(), wood.top(), nodes, [wood.ways(node) for node in nodes]

    def test_changing_the_list_handed_in(self):
        grammar = list(SUMS)
        wood = Wood(grammar, "1+1")
        before = self.told_by(wood)
        grammar[0] = ("SUM", (), 0)
        grammar.append(("SUM", ("'1",), 0))
        self.assertEqual(self.told_by(wood), before)
        grammar.clear()
        self.assertEqual(self.told_by(wood), before)
        self.assertEqual(self.told_by(Wood(SUMS, "1+1")), before)

    def test_changing_the_lists_told(self):
        wood = Wood(SUMS, "1+1+1")
        other = Wood(SUMS, "1+1+1")
        before = self.told_by(other)
        wood.told_grammar().clear()
        wood.told_grammar().append("spoilt")
        wood.nodes().clear()
        wood.nodes().append("spoilt")
        for node in before[3]:
            wood.ways(node).clear()
            wood.ways(node).append("spoilt")
        wood.ways(("NONE", 0, 1)).append("spoilt")
        self.assertEqual(wood.ways(("NONE", 0, 1)), [])
        self.assertEqual(self.told_by(wood), before)
        self.assertEqual(self.told_by(other), before)
        self.assertEqual(self.told_by(Wood(SUMS, "1+1+1")), before)

    def test_ways_are_tuples_of_tuples(self):
        wood = Wood(SUMS, "1+1+1")
        for node in wood.nodes():
            self.assertIs(type(node), tuple)
            ways = wood.ways(node)
            self.assertIs(type(ways), list)
            for way in ways:
                self.assertIs(type(way), tuple)
                for inner in way:
                    self.assertIs(type(inner), tuple)


if __name__ == "__main__":
    import unittest
    unittest.main()
