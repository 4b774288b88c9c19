"""[A9]: the texts of relations and cases."""

import re
import unittest

import plain
from plain import EXAMPLES, ODD_VALUES
from sixkeepers.errors import BadText, KeeperError
from sixkeepers.texts import case_text, parse_case, parse_relation, relation_text

X, T = EXAMPLES["X"], EXAMPLES["T"]
C = ((X,), 3, ((0, (0, 1)), (0, (1, 2))))
SIGNS = "01234567 :\nuf-+_aA"


def good_relation(text, least, most):
    """Whether the text is that of a relation with least to most rows: by its signs alone."""
    if not re.fullmatch(r"[1-5]:( [01]+)*", text):
        return False
    words = text.split(" ")
    rows = words[1:]
    lengths = all(len(row) == int(words[0][0]) for row in rows)
    return lengths and rows == sorted(set(rows)) and least <= len(rows) <= most


def number(word, low, high):
    return re.fullmatch(r"0|[1-9][0-9]?", word) is not None and low <= int(word) <= high


def first_fault(text):
    """The number of the first text line that cannot stand there, None if the text is that of a case."""
    lines = text.split("\n")
    if not lines[0].startswith("unknowns ") or not number(lines[0][9:], 1, 40):
        return 0
    unknowns = int(lines[0][9:])
    arities, facts = [], 0
    for at, line in enumerate(lines[1:], start=1):
        if line.startswith("relation "):
            if facts or len(arities) == 6 or not good_relation(line[9:], 1, 12):
                return at
            arities.append(int(line[9]))
        elif line.startswith("fact "):
            index, *places = line[5:].split(" ")
            if not number(index, 0, len(arities) - 1) or len(places) != arities[int(index)]:
                return at
            if not all(number(place, 0, unknowns - 1) for place in places) or facts == 80:
                return at
            facts += 1
        else:
            return at
    return None if arities else len(lines)


class TextTest(unittest.TestCase):
    def bad(self, function, value, place):
        with self.assertRaises(BadText) as caught:
            function(value)
        self.assertIsInstance(caught.exception, KeeperError)
        self.assertTrue(plain.same(caught.exception.place, place), (value, caught.exception.place, place))


class Examples(TextTest):
    def test_example(self):
        told = [
            relation_text(T), case_text(C), parse_relation("2: 01 10"),
            parse_case("unknowns 2\nrelation 1: 1\nfact 0 1"),
        ]
        self.assertEqual(told, [
            "3: 001 010 100", "unknowns 3\nrelation 2: 01 10\nfact 0 0 1\nfact 0 1 2",
            (2, ((0, 1), (1, 0))), (((1, ((1,),)),), 2, ((0, (1,)),)),
        ])
        self.bad(parse_case, "unknowns 2\nrelation 1: 1\nfact 0 2", 2)


class RelationTexts(TextTest):
    def test_there_and_back(self):
        chance = plain.chance_of(21)
        found = [relation for arity in (1, 2, 3) for relation in plain.all_relations(arity)]
        found += [plain.some_relation(chance, arity) for arity in (4, 5) for _ in range(100)]
        found += [(5, ()), (5, tuple(plain.all_rows(5)))]
        for relation in found:
            text = relation_text(relation)
            self.assertTrue(good_relation(text, 0, 32), text)
            self.assertTrue(plain.same(parse_relation(text), relation))

    def test_forms(self):
        self.assertEqual(relation_text((2, ())), "2:")
        self.assertEqual(relation_text((1, ((0,), (1,)))), "1: 0 1")
        self.assertEqual(relation_text((5, ((0, 1, 1, 0, 1),))), "5: 01101")

    def test_no_strings(self):
        for value in ODD_VALUES + (X, ["2:"], (2, ()), {"2:": 1}):
            if not isinstance(value, str):
                self.bad(parse_relation, value, None)

    def test_bad_texts(self):
        for text in (
            "", " ", "2", ":", "2 :", "2: ", " 2:", "2:01", "2:  01", "2: 01 ", "2: 01  10", "2: 10 01", "2: 01 01",
            "2: 012", "2: 0", "2: 001", "2: 0 1", "2: 02", "0:", "6:", "02: 01", "+2: 01", "-2: 01", "2.: 01", "2: 01\n",
            "2: 01\n10", "\n2: 01", "2: 01,10", "2: o1", "10: 0000000000", "5", "relation 2: 01", "1: 1 0", "1: 1:",
            "2: -1 01", "2:\t01", "22: 01", "1" * 2000 + ":", "1: 0 1 1", "1: 0 1 ", "[2: 01]", "2: 01 1 0",
        ):
            self.bad(parse_relation, text, 0)

    def test_something_otherwise(self):
        chance = plain.chance_of(22)
        kept = 0
        for _ in range(4000):
            text = relation_text(plain.some_relation(chance, chance.randint(1, 3), 0, 4))
            text = changed(text, chance)
            if good_relation(text, 0, 32):
                kept += 1
                self.assertEqual(relation_text(parse_relation(text)), text)
            else:
                self.bad(parse_relation, text, 0)
        self.assertGreater(kept, 100)


def changed(text, chance):
    """The text with signs put in, left out or exchanged."""
    for _ in range(chance.randint(1, 2)):
        at = chance.randint(0, len(text))
        long = chance.choice((0, 1, 1, 2))
        text = text[:at] + chance.choice(SIGNS + "      ")[:chance.randint(0, 1)] + text[at + long:]
    return text


def changed_lines(text, chance):
    """The text with text lines put in, left out, doubled or exchanged."""
    lines = text.split("\n")
    at, other = chance.randrange(len(lines)), chance.randrange(len(lines))
    way = chance.randrange(5)
    if way == 0:
        del lines[at]
    elif way == 1:
        lines.insert(at, lines[other])
    elif way == 2:
        lines[at], lines[other] = lines[other], lines[at]
    elif way == 3:
        lines.insert(at, chance.choice(("", " ", "fact 0 0", "relation 1: 0", "relation 1:", "unknowns 3", "fact")))
    else:
        lines[at] = changed(lines[at], chance)
    return "\n".join(lines)


class CaseTexts(TextTest):
    def check(self, text):
        fault = first_fault(text)
        if fault is None:
            self.assertEqual(case_text(parse_case(text)), text)
        else:
            self.bad(parse_case, text, fault)
        return fault

    def test_there_and_back(self):
        chance = plain.chance_of(23)
        for _ in range(200):
            stock = plain.some_stock(chance, (1, 2, 3, 4, 5), 6)
            case = plain.some_case(chance, stock, chance.randint(1, 40), chance.choice((0, 3, 80)))
            text = case_text(case)
            self.assertIsNone(first_fault(text))
            self.assertTrue(plain.same(parse_case(text), case))

    def test_no_strings(self):
        for value in ODD_VALUES + (C, ["unknowns 1", "relation 1: 1"]):
            if not isinstance(value, str):
                self.bad(parse_case, value, None)

    def test_first_line(self):
        rest = "\nrelation 1: 1"
        for line in (
            "", "unknowns", "unknowns ", "unknowns 0", "unknowns 41", "unknowns 03", "unknowns +3", "unknowns -3",
            "unknowns 3 ", " unknowns 3", "unknowns  3", "unknowns 3 3", "Unknowns 3", "unknown 3", "relation 1: 1",
            "fact 0 0", "unknowns x", "3", "unknowns 100", "unknowns " + "9" * 1900, "unknowns 0x3", "unknowns 3.0",
            "unknowns None",
        ):
            self.bad(parse_case, line + rest, 0)
            self.bad(parse_case, line, 0)
        for many in (1, 9, 10, 39, 40):
            self.assertEqual(parse_case(f"unknowns {many}" + rest), (((1, ((1,),)),), many, ()))

    def test_no_relation(self):
        self.bad(parse_case, "unknowns 3", 1)
        self.bad(parse_case, "unknowns 3\n", 1)
        self.bad(parse_case, "unknowns 3\nfact 0 0", 1)
        self.bad(parse_case, "", 0)
        self.bad(parse_case, "\n", 0)

    def test_relations(self):
        for line in (
            "relation", "relation ", "relation 2:", "relation 2: ", "relation 2: 10 01", "relation 2:01", "relation  2: 01",
            " relation 2: 01", "relation 2: 01 ", "relation 0:", "relation 6: 000000", "relation 02: 01", "2: 01",
            "relation 2 01", "relation: 2: 01", "relation 1: 1 relation 1: 1", "Relation 1: 1", "relations 1: 1",
        ):
            self.bad(parse_case, "unknowns 3\n" + line, 1)
            self.bad(parse_case, "unknowns 3\nrelation 1: 1\n" + line, 2)
            self.bad(parse_case, "unknowns 3\nrelation 1: 1\nfact 0 0\n" + line, 3)

    def test_many_rows(self):
        for many in (1, 12, 13, 32):
            text = "unknowns 3\nrelation " + relation_text((5, tuple(plain.all_rows(5)[:many])))
            self.assertEqual(self.check(text), None if many <= 12 else 1)

    def test_many_relations(self):
        for many in (1, 5, 6):
            self.assertEqual(len(parse_case("unknowns 3" + "\nrelation 1: 1" * many)[0]), many)
        self.bad(parse_case, "unknowns 3" + "\nrelation 1: 1" * 7, 7)
        self.bad(parse_case, "unknowns 3" + "\nrelation 1: 1" * 9, 7)

    def test_many_facts(self):
        for many in (0, 79, 80):
            self.assertEqual(len(parse_case("unknowns 3\nrelation 1: 1" + "\nfact 0 2" * many)[2]), many)
        self.bad(parse_case, "unknowns 3\nrelation 1: 1" + "\nfact 0 2" * 81, 82)
        self.bad(parse_case, "unknowns 3\nrelation 1: 1" + "\nfact 0 2" * 90, 82)

    def test_facts(self):
        begin = "unknowns 12\nrelation 2: 01 10\nrelation 1: 1\n"
        for line in (
            "fact", "fact ", "fact 0", "fact 0 1", "fact 0 1 2 3", "fact 1 1 2", "fact 2 1", "fact 0 1 12", "fact 0 01 2",
            "fact 00 1 2", "fact 0 1 -1", "fact 0 +1 2", "fact  0 1 2", "fact 0  1 2", "fact 0 1 2 ", " fact 0 1 2", "",
            "Fact 0 1 2", "facts 0 1 2", "fact -1 1 2", "fact 0,1,2", "fact 0 1 x", "relation 1: 1 1", "unknowns 12",
            "fact 0 1 " + "1" * 1800,
        ):
            self.bad(parse_case, begin + line, 3)
            self.bad(parse_case, begin + "fact 0 11 10\n" + line, 4)
        self.bad(parse_case, begin + "fact 0 1 2\nrelation 1: 1", 4)
        self.bad(parse_case, begin + "fact 0 1 2\n", 4)
        self.bad(parse_case, begin + "fact 0 1 2\n\nfact 0 1 2", 4)

    def test_first_fault_counts(self):
        self.bad(parse_case, "unknowns 3\nrelation 1: 1\nfact 0 3\nfact 9", 2)
        self.bad(parse_case, "unknowns 0\nrelation 9", 0)

    def test_something_otherwise(self):
        chance = plain.chance_of(24)
        faults = []
        for _ in range(4000):
            stock = plain.some_stock(chance)
            text = case_text(plain.some_case(chance, stock, chance.choice((1, 3, 12)), 4))
            text = changed_lines(text, chance)
            if chance.random() < 0.3:
                text = changed_lines(text, chance)
            faults.append(self.check(text))
        self.assertGreater(faults.count(None), 100)
        self.assertGreater(len(set(faults)), 5)


if __name__ == "__main__":
    unittest.main()
