"""Grammars to try the program on: some named ones, and small ones drawn from a fixed seed."""

import itertools
import random

SUMS = [
    ("SUM", ("SUM", "'+", "SUM"), 2),
    ("SUM", ("ONE",), 0),
    ("ONE", ("'1",), 1),
    ("SUM", ("'(", "SUM", "')"), 3),
]

NAMED = {
    "no rules": [],
    "nothing": [("S", (), 3)],
    "one sign": [("S", ("'a",), 1)],
    "alike": [("S", ("'a",), 1), ("S", ("'a",), 1), ("S", ("S", "S"), 0), ("S", ("S", "S"), 0)],
    "pairs": [("S", ("S", "S"), 1), ("S", ("'a",), 2)],
    "sums": SUMS,
    "left": [("S", ("S", "'a"), 1), ("S", (), 0)],
    "right": [("S", ("'a", "S"), 1), ("S", (), 0)],
    "middle": [("S", ("'a", "S", "'b"), 1), ("S", (), 5), ("S", ("'a", "'b"), 0)],
    "own ring": [("S", ("S",), 0), ("S", ("'a",), 1)],
    "dear ring": [("S", ("S",), 4), ("S", ("'a",), 1), ("S", ("'a", "S"), 2)],
    "round": [("S", ("A",), 1), ("A", ("B",), 0), ("B", ("S",), 2), ("B", ("'b",), 1), ("A", ("'a", "B"), 1)],
    "beside nothing": [("S", ("S", "N"), 1), ("S", ("'a",), 1), ("N", (), 2), ("N", ("'b",), 0)],
    "twice": [("S", ("S", "S"), 0), ("S", (), 1), ("S", ("'a",), 0)],
    "ring aside": [("S", ("'a",), 0), ("S", ("'b", "R"), 0), ("R", ("R",), 0), ("R", ("'c",), 0)],
    "barren ring": [("S", ("'a",), 0), ("R", ("R",), 0), ("S", ("R", "'a"), 0)],
    "barren": [("S", ("S", "'a"), 0), ("S", ("A",), 1), ("A", ("S",), 1), ("B", ("'b",), 0)],
    "no such name": [("S", ("NONE", "'a"), 0), ("S", ("'a",), 2), ("S", ("'b", "NONE"), 1)],
    "many nothings": [("S", ("A", "B", "A"), 1), ("A", (), 1), ("B", (), 0), ("A", ("'a",), 2), ("B", ("'b",), 3)],
    "marks": [("S", ("''", "' ", "'="), 1), ("S", ("' ", "S"), 0), ("S", ("'0",), 7)],
    "six": [("S", ("A", "A", "A", "A", "A", "A"), 0), ("A", ("'a",), 1), ("A", (), 2)],
    "worths": [("S", ("A", "A"), 10 ** 60), ("A", ("'a",), 10 ** 60), ("A", ("'a",), 10 ** 60 - 1), ("A", ("A", "'a"), 0)],
}

TEXTS = ["", "a", "b", "aa", "ab", "ba", "aaa", "aab", "aba", "abb", "aabb", "abab", "aaaa", "abc", "ac", "bc", "c"]


def name_of(number):
    return "N" + chr(65 + number // 26) + chr(65 + number % 26)


def sized(size, first=0, worth=0):
    """Rules with one tree, which gives nothing and has just so many rules."""
    name = name_of(first)
    if size == 1:
        return [(name, (), worth)]
    beneath = name_of(first + 1)
    if size % 2 == 0:
        return [(name, (beneath,), worth)] + sized(size - 1, first + 1, worth)
    return [(name, (beneath, beneath), worth)] + sized(size // 2, first + 1, worth)


def texts_for(grammar, most):
    """All texts of at most so many signs, of those that stand in the grammar, and some of others."""
    signs = sorted({part[1] for rule in grammar for part in rule[1] if part.startswith("'")})[:3]
    found = [""]
    for long in range(1, most + 1):
        found.extend("".join(chosen) for chosen in itertools.product(signs, repeat=long))
    return found + [text for text in ("z", "az") if text not in found]


def drawn(seed, many, heads="SAB", signs="ab", most_rules=6, most_parts=3):
    """Small grammars, the same ones each time."""
    chance = random.Random(seed)
    parts = list(heads) + ["'" + sign for sign in signs] * 2
    grammars = []
    for number in range(many):
        grammar = []
        for place in range(1 + int(chance.random() * most_rules)):
            head = heads[int(chance.random() * len(heads))]
            long = int(chance.random() * (most_parts + 1))
            chosen = tuple(parts[int(chance.random() * len(parts))] for part in range(long))
            grammar.append((head, chosen, int(chance.random() * 4)))
        grammars.append(grammar)
    return grammars
