import plain
from anything import Touchy, lists_and_tuples, other_kinds, other_texts, whole_numbers
from forestread.desk import Desk
from forestread.errors import (
    Barren, Endless, NoCosts, NoGrammar, NoRow, NoRule, NoText, NoWords, TooGreat,
)
from forestread.mends import mended
from forestread.notes import show_grammar, show_rule
from refusals import RefusalTest
from samples import NAMED, SUMS, TEXTS, drawn, sized, texts_for

NO_WORDS = [
    "", " ", "\n", "\t", "help", "Show", "SHOW", "shows", "sho", "show\n", "\nshow", "\tshow", "rules", "quit", "0", "S 0 =",
    # A blank lacking or doubled, a word more or less.
    " show", "show ", "show  ", "show show", "show 0", " needed", "needed ", "needed 0", "needed  ", "needed\n",
    "rule", "ruleS 0 =", "rule\tS 0 =", "rule\nS 0 =", " rule S 0 =", "Rule S 0 =",
    "drop", "drop ", "drop  ", "drop 0 ", "drop  0", " drop 0", "drop 0 0", "drop0", "drop\t0", "drop 0\n", "drop\n0", "drop a",
    "count", "counta", " count a", "count\ta", "count\n", "Count a",
    "row", "row ", "row  ", "row 0", "row a", "row  0 a", "row a 0", "row  a", "row0 a", "row 0\ta", " row 0 a", "row 0\na",
    "best", "besta", " best a", "best\ta", "BEST a",
    "mend", "mend ", "mend 1", "mend 1 1", "mend 1 1 1", "mend 1 1 a", "mend 1 1  a", "mend  1 1 1 a", "mend 1  1 1 a",
    "mend 1 1  1 a", "mend a 1 1 a", "mend 1 a 1 a", "mend 1 1 a a", " mend 1 1 1 a", "mend\t1 1 1 a", "mend 1 1 1\ta",
    # Numbers that are none.
    "drop 00", "drop 01", "drop -1", "drop +1", "drop -0", "drop 1.0", "drop 1_0", "drop 0x1", "drop " + "1" * 62,
    "row 00 a", "row 01 a", "row -1 a", "row +0 a", "row 1a a", "row " + "1" * 62 + " a", "row " + "0" * 61 + " a",
    "mend 01 1 1 a", "mend 1 00 1 a", "mend 1 1 01 a", "mend -1 1 1 a", "mend 1 -1 1 a", "mend 1 1 -1 a", "mend +1 1 1 a",
    "mend " + "1" * 62 + " 1 1 a", "mend 1 " + "1" * 62 + " 1 a", "mend 1 1 " + "1" * 62 + " a",
]


def desk_of(grammar):
    desk = Desk()
    for rule in grammar:
        desk.say("rule " + show_rule(rule))
    return desk


class DeskTest(RefusalTest):

    def check_said(self, desk, *pairs):
        for row, answer in pairs:
            with self.subTest(row=row):
                told = desk.say(row)
                self.assertIs(type(told), str)
                self.assertEqual(told, answer)

    def check_rows_refused(self, kind, desk, rows):
        before = desk.say("show")
        for row in rows:
            with self.subTest(row=row if isinstance(row, str) else type(row)):
                self.check_refused(kind, desk.say, row)
                self.assertEqual(desk.say("show"), before)


class AnswersTest(DeskTest):

    def test_a_new_desk(self):
        self.check_said(Desk(), ("show", ""), ("needed", ""), ("count ", "0"), ("count a", "0"))
        self.check_rows_refused(NoRow, Desk(), ["best ", "best a", "row 0 ", "row 0 a"])
        self.check_rows_refused(Barren, Desk(), ["mend 1 1 1 ", "mend 1 1 1 a"])
        self.check_rows_refused(NoRule, Desk(), ["drop 0", "drop 1"])

    def test_rules_come_and_go(self):
        desk = Desk()
        self.check_said(
            desk,
            ("rule S 0 = 'a S '", "0"), ("rule S 1 =", "1"), ("rule T 22 = ''", "2"), ("rule S 1 =", "3"),
            ("show", "S 0 = 'a S '\nS 1 =\nT 22 = ''\nS 1 ="), ("needed", "0 1 3"),
            ("drop 1", "ok"), ("show", "S 0 = 'a S '\nT 22 = ''\nS 1 ="), ("needed", "0 2"),
            ("drop 0", "ok"), ("show", "T 22 = ''\nS 1 ="), ("needed", "0"),
            ("rule S 1 = T", "2"), ("drop 2", "ok"), ("drop 1", "ok"), ("drop 0", "ok"), ("show", ""), ("needed", ""),
            ("rule A 5 =", "0"), ("show", "A 5 ="),
        )

    def test_counts(self):
        desk = desk_of(SUMS)
        self.check_said(desk, ("count 1", "1"), ("count 1+1+1", "2"), ("count 1+1+1+1", "5"), ("count 1+", "0"), ("count ", "0"))
        desk.say("rule SUM 0 = SUM")
        self.check_said(desk, ("count 1", "endless"), ("count 1+", "0"))
        ten = desk_of([("S", ("'a", "S"), number) for number in range(10)] + [("S", (), 0)] * 2)
        self.check_said(ten, ("count " + "a" * 59, "2" + "0" * 59), ("count " + "a" * 60, "1" + "0" * 60))

    def test_rows(self):
        desk = desk_of(SUMS)
        self.check_said(
            desk, ("row 0 1", "1 2"), ("row 0 1+1+1", "0 0 1 2 1 2 1 2"), ("row 1 1+1+1", "0 1 2 0 1 2 1 2"),
        )
        ten = desk_of([("S", ("'a", "S"), number) for number in range(10)] + [("S", (), 0)] * 2)
        last = " ".join(["4"] + ["9"] * 59 + ["11"])
        self.check_said(ten, ("row " + "9" * 60 + " " + "a" * 60, last), ("row 0 ", "10"), ("row 1 ", "11"))

    def test_best(self):
        desk = desk_of(SUMS)
        self.check_said(desk, ("best 1", "1: 1 2"), ("best (1)", "4: 3 1 2"), ("best 1+1+1", "7: 0 0 1 2 1 2 1 2"))
        desk.say("rule SUM 0 = SUM")
        self.check_said(desk, ("best 1", "1: 1 2"))
        great = desk_of([("S", ("S", "'a"), 10 ** 60), ("S", (), 10 ** 60)])
        self.check_said(great, ("best aa", "3" + "0" * 60 + ": 0 0 1"))

    def test_mend(self):
        self.check_said(
            desk_of([("S", ("'a", "'b"), 0)]),
            ("mend 1 1 1 ab", "0: ab"), ("mend 1 1 1 b", "1: ab"), ("mend 1 1 1 ", "2: ab"), ("mend 5 6 7 xab", "6: ab"),
            ("mend 0 0 0 zzz", "0: ab"), ("mend 1" + "0" * 60 + " 1 1 a", "1" + "0" * 60 + ": ab"),
        )
        self.check_said(desk_of([("S", (), 0)]), ("mend 1 2 3 ", "0: "), ("mend 1 2 3 ab", "4: "))

    def test_texts_with_blanks_at_their_ends(self):
        desk = desk_of([("S", ("' ", "S"), 1), ("S", (), 0), ("S", ("'a", "S"), 2)])
        self.check_said(
            desk, ("count ", "1"), ("count  ", "1"), ("count   ", "1"), ("count a ", "1"), ("count  a", "1"), ("count b ", "0"),
            ("row 0 ", "1"), ("row 0  ", "0 1"), ("row 0   ", "0 0 1"), ("row 0  a ", "0 2 0 1"),
            ("best ", "0: 1"), ("best  ", "1: 0 1"), ("best a  ", "4: 2 0 0 1"), ("best  a", "3: 0 2 1"),
            ("mend 1 1 1 ", "0: "), ("mend 1 1 1  ", "0:  "), ("mend 1 1 1   a ", "0:   a "), ("mend 1 1 1 a  ", "0: a  "),
        )

    def test_texts_that_look_like_words(self):
        desk = desk_of([("S", ("'0", "' ", "'1"), 1), ("S", ("'1",), 0)])
        self.check_said(
            desk, ("count 0 1", "1"), ("row 0 0 1", "0"), ("best 0 1", "1: 0"), ("mend 1 1 1 0 1", "0: 0 1"),
            ("mend 1 1 1 1", "0: 1"), ("row 0 1", "1"),
        )

    def test_two_desks_beside_each_other(self):
        one = Desk()
        other = Desk()
        self.check_said(one, ("rule S 0 = 'a", "0"))
        self.check_said(other, ("show", ""), ("rule T 1 =", "0"), ("count ", "1"), ("count a", "0"))
        self.check_said(one, ("show", "S 0 = 'a"), ("count a", "1"), ("drop 0", "ok"))
        self.check_said(other, ("show", "T 1 ="))
        self.check_said(Desk(), ("show", ""))

    def test_answers_are_those_of_the_rules_that_stand_then(self):
        desk = Desk()
        standing = []
        for number, rule in enumerate(SUMS + [("SUM", ("'a",), 1), ("SUM", ("'a", "SUM"), 0)]):
            self.check_said(desk, ("count 1", str(self.many(standing, "1"))))
            standing.append(rule)
            self.check_said(desk, ("rule " + show_rule(rule), str(number)), ("show", show_grammar(standing)))
            for text in ("1", "a", "aa", "1+1", "(1)"):
                self.check_said(desk, ("count " + text, str(self.many(standing, text))))
        for number in (2, 4, 0, 1, 0, 0):
            standing.pop(number)
            self.check_said(desk, ("drop " + str(number), "ok"), ("show", show_grammar(standing)))
            for text in ("1", "a", "aa", "1+1", "(1)"):
                self.check_said(desk, ("count " + text, str(self.many(standing, text))))

    def many(self, grammar, text):
        return len(plain.rows_of_length(grammar, 12, text))

    def test_against_plain_reckonings(self):
        for grammar in list(NAMED.values()) + drawn(121, 40):
            desk = desk_of(grammar)
            self.assertEqual(desk.say("show"), show_grammar(grammar))
            for text in TEXTS[:6] + texts_for(grammar, 1):
                with self.subTest(grammar=grammar, text=text):
                    self.check_text(desk, grammar, text)

    def check_text(self, desk, grammar, text):
        found = plain.wood(grammar, text)
        if found:
            worth, row = desk.say("best " + text).split(": ")
            row = [int(word) for word in row.split(" ")]
            self.assertEqual(plain.read(grammar, row)[:2], (text, int(worth)))
            self.assertEqual((int(worth), len(row)), plain.prices(grammar, found)[grammar[0][0], 0, len(text)])
        else:
            self.check_refused(NoRow, desk.say, "best " + text)
        ringed = bool(plain.ring_nodes(found))
        self.assertEqual(desk.say("count " + text) == "endless", ringed)
        if ringed:
            self.check_refused(Endless, desk.say, "row 0 " + text)
        if not grammar or grammar[0][0] not in plain.least(grammar):
            self.check_refused(Barren, desk.say, "mend 1 2 3 " + text)
            return
        cost, deeds, row = mended(grammar, text, (1, 2, 3))
        told, new = desk.say("mend 1 2 3 " + text).split(": ", 1)
        self.assertEqual(int(told), cost)
        self.assertEqual(plain.distance(text, new, (1, 2, 3)), cost)
        self.assertTrue(plain.wood(grammar, new))


class RefusedTest(DeskTest):

    def test_no_words(self):
        for grammar in ([], SUMS, NAMED["own ring"], [("S", (), 0)] * 60):
            self.check_rows_refused(NoWords, desk_of(grammar), NO_WORDS)

    def test_other_kinds(self):
        things = other_kinds() + whole_numbers() + lists_and_tuples() + other_texts()
        self.check_rows_refused(NoWords, desk_of(SUMS), things + [["show"], ("show",), b"show", {"show": 1}, Touchy()])

    def test_no_rule(self):
        wrong = ["", " ", "S", "S 0", "s 0 =", "S 00 =", "S 0 = ", " S 0 =", "S 0 = a", "S 0 = A B C D E F G", "S 0 =\n"]
        wrong += ["S " + "1" * 62 + " =", "S 1" + "0" * 59 + "1 =", "S 0 =\nS 0 =", "0", "rule S 0 ="]
        for grammar in ([], SUMS, [("S", (), 0)] * 60):
            self.check_rows_refused(NoRule, desk_of(grammar), ["rule " + text for text in wrong])

    def test_drop_of_no_rule(self):
        for many in (0, 1, 4, 60):
            desk = desk_of([("S", (), 0)] * many)
            self.check_rows_refused(NoRule, desk, [f"drop {number}" for number in (many, many + 1, 61, 10 ** 60, 10 ** 61 - 1)])

    def test_a_61st_rule(self):
        desk = desk_of([("S", (), 0)] * 59)
        self.check_said(desk, ("rule S 1 =", "59"))
        self.check_rows_refused(NoGrammar, desk, ["rule S 1 =", "rule T 0 = 'a"])
        self.check_rows_refused(NoRule, desk, ["rule ", "rule S 1", "rule s 1 ="])
        self.check_said(desk, ("needed", " ".join(map(str, range(60)))), ("drop 0", "ok"), ("rule S 2 =", "59"))
        self.check_rows_refused(NoGrammar, desk, ["rule S 1 ="])

    def test_no_text(self):
        wrong = ["a" * 61, "a\n", "\n", "a\tb", "\t", "1+1\n"]
        for grammar in ([], SUMS, NAMED["own ring"], NAMED["barren"], sized(1001)):
            rows = [head + text for head in ("count ", "row 0 ", "best ", "mend 1 1 1 ") for text in wrong]
            # Texts are refused ahead of numbers and costs.
            rows += ["row " + "9" * 61 + " " + text for text in wrong]
            rows += ["mend " + "9" * 61 + " 1 1 " + text for text in wrong]
            self.check_rows_refused(NoText, desk_of(grammar), rows)

    def test_no_costs(self):
        beyond = "1" + "0" * 59 + "1"
        rows = [f"mend {beyond} 1 1 a", f"mend 1 {beyond} 1 a", f"mend 1 1 {beyond} a", "mend 1 1 " + "9" * 61 + " "]
        for grammar in ([], SUMS, NAMED["barren"], sized(1001)):
            self.check_rows_refused(NoCosts, desk_of(grammar), rows)

    def test_no_row(self):
        desk = desk_of(SUMS)
        self.check_rows_refused(NoRow, desk, ["row 1 1", "row 0 1+", "row 2 1+1+1", "row 0 ", "row " + "9" * 61 + " 1"])
        self.check_rows_refused(NoRow, desk, ["best 1+", "best ", "best z", "best  1"])
        ten = desk_of([("S", ("'a", "S"), number) for number in range(10)] + [("S", (), 0)] * 2)
        self.check_rows_refused(NoRow, ten, ["row 1" + "0" * 60 + " " + "a" * 60])

    def test_endless(self):
        desk = desk_of(NAMED["own ring"])
        self.check_rows_refused(Endless, desk, ["row 0 a", "row 7 a", "row " + "9" * 61 + " a"])
        self.check_rows_refused(NoRow, desk, ["row 0 b", "row 0 "])

    def test_too_great(self):
        desk = desk_of(sized(1001))
        self.check_rows_refused(TooGreat, desk, ["row 0 ", "best ", "mend 1 1 1 ", "mend 0 0 0 a"])
        self.check_rows_refused(NoRow, desk, ["row 1 ", "row 0 a", "best a"])
        self.check_said(desk, ("count ", "1"))
        desk = desk_of(sized(1000))
        for row in ("row 0 ", "best ", "mend 1 1 1 "):
            desk.say(row)

    def test_barren(self):
        self.check_rows_refused(Barren, desk_of(NAMED["barren"]), ["mend 1 1 1 ", "mend 0 0 0 b"])

    def test_answers_behind_refusals(self):
        desk = desk_of(SUMS)
        for row in ("drop 9", "rule s", "best z", "row 9 1", "mend 1 1 1 \n", "nothing", None):
            with self.assertRaises(ValueError):
                desk.say(row)
            self.check_said(desk, ("count 1+1+1", "2"), ("best 1", "1: 1 2"), ("show", show_grammar(SUMS)))


if __name__ == "__main__":
    import unittest
    unittest.main()
