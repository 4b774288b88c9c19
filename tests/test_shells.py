"""[N6]: shells."""

import copy
import unittest

import plain
from modeldesk import Model, Wrong
from plain import EXAMPLES, NO_WAY, ODD_VALUES
from sixkeepers.desks import Desk, OpenDesk
from sixkeepers.errors import KeeperError, NotOne
from sixkeepers.shells import Shell

K = ((2, ((0, 1), (1, 0), (1, 1))), (1, ((0,),)))


class Shells(unittest.TestCase):
    def say_all(self, shell, lines):
        return [shell.say(line) for line in lines]

    def test_examples(self):
        s = Shell(Desk(K, 3))
        lines = [
            "add 0 x0 x1", "name x0 on", "add 1 on", "facts", "answer", "forced", "count", "add 1 x0", "drop 7",
            "undo  ", "text", "add 0 on",
        ]
        self.assertEqual(self.say_all(s, lines), [
            "ok 1", "ok 2", "ok 3", "0 on x1, 1 on", "010", "on=0 x1=1", "2", "no NoUnknown", "no NoNumber", "ok 2",
            "3 unknowns, 1 facts, by either, version 2", "no Unfit",
        ])

    def test_this_very_desk(self):
        for kind in (Desk, OpenDesk):
            desk = kind(K, 2)
            shell = Shell(desk=desk)
            self.assertTrue(shell.desk is desk)
            with self.assertRaises(AttributeError):
                shell.desk = desk
            with self.assertRaises(AttributeError):
                shell.history = ()
            self.assertEqual(shell.say(line="add 0 x0 x1"), "ok 1")
            self.assertEqual(desk.facts, ((0, (0, 1)),))
            desk.name(0, "on")
            self.assertEqual(shell.say("facts"), "0 on x1")
            self.assertEqual(str(desk), shell.say("text"))

    def test_each_kind(self):
        shell = Shell(Desk(K, 3))
        for line, told in (
            ("facts", "nothing"), ("answer", "000"), ("forced", "nothing"), ("count", "8"), ("news", "same"),
            ("text", "3 unknowns, 0 facts, by either, version 0"), ("add 0 x1 x2", "ok 1"), ("news", "fewer"),
            ("facts", "0 x1 x2"), ("answer", "001"), ("count", "6"), ("put 0 0 x2 x2", "ok 2"), ("facts", "0 x2 x2"),
            ("forced", "x2=1"), ("add 1 x0", "ok 3"), ("forced", "x0=0 x2=1"), ("count", "2"), ("name x2 on", "ok 4"),
            ("facts", "0 on on, 1 x0"), ("forced", "x0=0 on=1"), ("news", "same"), ("add 1 on", "ok 5"), ("news", "none"),
            ("answer", "none"), ("forced", "none"), ("count", "0"), ("drop 0", "ok 6"), ("news", "answers"),
            ("back 2", "ok 2"), ("facts", "0 x2 x2"), ("undo", "ok 1"), ("back 0", "ok 0"), ("undo", "no NothingToUndo"),
            ("text", "3 unknowns, 0 facts, by either, version 0"), ("back 0", "ok 0"), ("news", "same"),
            ("add 1 x0", "ok 1"), ("put 0 1 x1", "ok 2"), ("news", "other"), ("undo", "ok 1"), ("drop 0", "ok 2"),
            ("news", "more"),
        ):
            self.assertEqual(shell.say(line), told, line)

    def test_blanks(self):
        shell = Shell(Desk(K, 3))
        for line, told in (
            ("  add   0  x0    x1 ", "ok 1"), (" facts", "0 x0 x1"), ("   text   ", "3 unknowns, 1 facts, by either, version 1"),
            ("back     0", "ok 0"), ("name  x1   on  ", "ok 1"), ("", "what"), (" ", "what"), ("     ", "what"),
            ("facts\n", "what"), ("\nfacts", "what"), ("add 0\nx0 x1", "what"), ("add 0 x0\tx1", "what"), ("undo\n", "what"),
            ("name x0 a\nb", "no BadText"), ("name x0 \n", "no BadText"), ("\n", "what"),
        ):
            self.assertEqual(shell.say(line), told, line)

    def test_numbers(self):
        shell = Shell(Desk(K, 3))
        for _ in range(12):
            shell.say("add 0 x0 x1")
        for number, told in (
            ("0", True), ("9", True), ("11", True), ("12", False), ("99", False), ("999", False),
        ):
            self.assertEqual(shell.say(f"put {number} 0 x0 x1"), "ok 13" if told else "no NoNumber")
            self.assertEqual(shell.say(f"back {number}") == "no NoVersion", int(number) > 13)
            while shell.desk.version < 12:
                shell.say("add 0 x0 x1")
        for number in ("00", "01", "007", "1000", "0000", "-1", "+1", "1.0", "x", "1x", "one", "0x1", "1_0", "", "True", "\u0661"):
            for line in (f"drop {number}", f"back {number}", f"put {number} 0 x0 x1", f"put 0 {number} x0 x1", f"add {number} x0 x1"):
                self.assertEqual(shell.say(line), "what", line)
        self.assertEqual(shell.say("add 2 x0 x1"), "no NoRelation")
        self.assertEqual(shell.say("add 999 x0 x1"), "no NoRelation")
        self.assertEqual(shell.say("put 0 7 x0"), "no NoRelation")

    def test_too_many_words_and_too_few(self):
        shell = Shell(Desk(K, 3))
        for line in (
            "add", "add 0", "put", "put 0", "put 0 0", "drop", "drop 0 0", "drop 0 x0", "name", "name x0", "name x0 a b",
            "undo 1", "undo undo", "back", "back 0 0", "facts 0", "answer x0", "forced forced", "count 1", "news same",
            "text text", "batch", "at 0", "Add 0 x0 x1", "ADD", "facts.", "facts,", "what", "ok 1", "copy", "first",
            "is_open", "watch same", "add0 x0", "add x0 x1", "put 0 x0 x1", "addd 0 x0 x1", "x0", "0", "help",
        ):
            self.assertEqual(shell.say(line), "what", line)
        self.assertEqual(shell.desk, Desk(K, 3))
        for value in ODD_VALUES + (("facts",), ["facts"], b"facts"):
            if not isinstance(value, str):
                before = copy.deepcopy(value)
                self.assertEqual(shell.say(value), "what")
                self.assertTrue(plain.same(value, before))
                self.assertEqual(shell.history[-1], (None, "what"))

    def test_names(self):
        shell = Shell(Desk(K, 12))
        self.assertEqual(shell.say("name x11 x1"), "no NotOne")
        self.assertEqual(shell.say("add 0 x1 x11"), "ok 1")
        self.assertEqual(shell.desk.facts, ((0, (1, 11)),))
        self.assertEqual(shell.say("name x1 add"), "ok 2")
        self.assertEqual(shell.say("name add undo"), "ok 3")
        self.assertEqual(shell.say("name x11 x1"), "ok 4")
        self.assertEqual(shell.say("facts"), "0 undo x1")
        self.assertEqual(shell.say("put 0 0 x1 undo"), "ok 5")
        self.assertEqual(shell.desk.facts, ((0, (11, 1)),))
        self.assertEqual(shell.say("undo"), "ok 4")
        # No name of an unknown now, or a word without the form of a name.
        for word in ("x12", "x01", "add", "x11", "abcdefgh", "a", "z9"):
            for line in (f"add 0 x0 {word}", f"add 0 {word} x0", f"put 0 0 {word} x2", f"name {word} on"):
                self.assertEqual(shell.say(line), "no NoUnknown", line)
        for word in ("X1", "1", "1a", "abcdefghi", "x_1", "x-1", "x1,", "0", "a.b", "\u00e4"):
            for line in (f"add 0 x0 {word}", f"add 0 {word} zz", f"add 0 zz {word}", f"put 0 0 {word} x2", f"name {word} on"):
                self.assertEqual(shell.say(line), "what", line)
        # The last word may be any.
        for word in ("X", "1", "abcdefghi", "a_b", "on,", "-", "x2="):
            self.assertEqual(shell.say(f"name x0 {word}"), "no BadText")
            self.assertEqual(shell.say(f"name zz {word}"), "no NoUnknown")
        self.assertEqual(shell.say("name x0 x2"), "no NotOne")
        self.assertEqual(shell.say("name x0 x0"), "ok 5")

    def test_no_unknown_ahead_of_all_else_but_busy(self):
        shell = Shell(Desk(K, 3))
        for line in (
            "add 9 zz", "add 0 zz", "add 0 x0 zz", "add 0 x0 x1 x2 zz", "put 9 0 zz", "put 9 9 x0 zz", "put 0 0 zz zz",
            "name zz X", "name zz x0",
        ):
            self.assertEqual(shell.say(line), "no NoUnknown", line)
        for line, told in (
            ("add 9 x0", "no NoRelation"), ("add 0 x0", "no Unfit"), ("add 0 x0 x1 x2", "no Unfit"), ("put 9 0 x0", "no NoNumber"),
        ):
            self.assertEqual(shell.say(line), told, line)
        while shell.desk.version < 30:
            shell.say("add 1 x0")
        self.assertEqual(shell.say("add 1 zz"), "no NoUnknown")
        self.assertEqual(shell.say("add 1 x0"), "no TooManyEdits")
        self.assertEqual(shell.say("name zz a"), "no NoUnknown")
        self.assertEqual(shell.say("drop 0"), "no TooManyEdits")
        self.assertEqual(shell.say("undo"), "ok 29")

    def test_busy(self):
        desk = Desk(K, 3)
        shell = Shell(desk)
        told = []

        def watcher(version):
            for line in (
                "add 0 x0 x1", "add 9 x0", "add 0 zz zz", "put 0 0 zz zz", "put 9 9 x0", "drop 9", "drop 0", "name x0 on",
                "name zz on", "undo", "back 0", "back 9",
            ):
                told.append(shell.say(line))
            told.append("|")
            for line in ("add 0 x0 X", "name X on", "add 00 x0 x1", "drop", "facts", "text", "count", "news"):
                told.append(shell.say(line))
        desk.watch("fewer", watcher)
        self.assertEqual(shell.say("add 1 x0"), "ok 1")
        self.assertEqual(told, ["no Busy"] * 12 + ["|"] + ["what"] * 4 + [
            "1 x0", "3 unknowns, 1 facts, by either, version 1", "4", "fewer",
        ])

    def test_each_no(self):
        desk = Desk(K, 3)
        shell = Shell(desk)
        for _ in range(4):
            desk.batch((("add", 1, (0,)),) * 20)
        self.assertEqual(shell.say("add 1 x0"), "no Unfit")
        bars = OpenDesk(((1, ((0,),)), (1, ((1,),))), 2)
        other = Shell(bars)
        self.assertEqual(self.say_all(other, ["add 0 x0", "add 1 x0", "add 1 zz", "facts"]), [
            "ok 1", "no NoAnswers", "no NoUnknown", "0 x0",
        ])
        for unknowns in (10, 11, 14):
            hard = Shell(Desk(NO_WAY, unknowns))
            self.assertEqual(hard.say("count"), str(2 ** unknowns) if unknowns < 11 else "no TooHard")
        great = Shell(Desk((EXAMPLES["X"],), 40))
        self.assertEqual(self.say_all(great, ["count", "add 0 x0 x39", "count", "answer"]), [
            str(2 ** 40), "ok 1", str(2 ** 39), "0" * 39 + "1",
        ])
        horn = Shell(Desk(plain.TYPICAL["both"], 11))
        self.assertEqual(self.say_all(horn, ["count", "add 4 x3", "forced"]), ["no TooHard", "ok 1", "x3=1"])

    def test_errors_out_of_watchers(self):
        class Own(KeeperError):
            pass
        desk = Desk(K, 3)
        shell = Shell(desk)
        for error, told in ((NotOne("a"), "no NotOne"), (Own(), "no Own")):
            def watcher(version):
                raise error
            number = desk.watch("same", watcher)
            self.assertEqual(shell.say("name x0 x0"), told)
            desk.unwatch(number)
        self.assertEqual(desk.version, 2)

        def failing(version):
            raise ZeroDivisionError()
        desk.watch("same", failing)
        before = shell.history
        self.assertRaises(ZeroDivisionError, lambda: shell.say("name x0 x0"))
        self.assertEqual(shell.history, before)
        self.assertEqual(shell.say("text"), "3 unknowns, 0 facts, by either, version 3")

    def test_history(self):
        shell = Shell(Desk(K, 3))
        self.assertTrue(plain.same(shell.history, ()))
        said = []
        lines = ["add 0 x0 x1", "", None, "drop 7", "  facts", ("facts",), "news", "undo", 3, "zz", "undo", ["a"], "text", True, "answer"]
        for line in lines * 2:
            said.append((line if isinstance(line, str) else None, shell.say(line)))
            self.assertTrue(plain.same(shell.history, tuple(said[-10:])))
        before = shell.history
        shell.say("facts")
        self.assertEqual(before, tuple(said[-10:]))
        self.assertEqual(Shell(shell.desk).history, ())

    def some_line(self, chance, model):
        names = model.names
        name = (lambda: chance.choice(names + ("zz", "x7") * (chance.random() < 0.15) + ("Q",) * (chance.random() < 0.05)))
        number = (lambda most: str(chance.choice(range(most + 1))) if chance.random() < 0.95 else chance.choice(("00", "999", "a")))
        kind = chance.choice(("add", "add", "add", "put", "drop", "name", "undo", "back", "ask", "ask"))
        if kind == "add":
            words = ["add", number(len(model.stock)), *[name() for _ in range(chance.randint(1, 3))]]
        elif kind == "put":
            words = ["put", number(len(model.facts)), number(1), *[name() for _ in range(chance.randint(1, 2))]]
        elif kind == "drop":
            words = ["drop", number(len(model.facts))]
        elif kind == "name":
            words = ["name", name(), chance.choice(("on", "off", "x0", "a1", "B", "x2"))]
        elif kind == "back":
            words = ["back", number(len(model.past) + 1)]
        else:
            words = [chance.choice(("undo", "facts", "answer", "forced", "count", "news", "text"))]
        if chance.random() < 0.05:
            words.insert(chance.randint(0, len(words)), chance.choice(("x0", "1", "add", ".")))
        return chance.choice(("", " ")) + chance.choice((" ", "  ")).join(words)

    def answer(self, model, line):
        """By the words of the document."""
        words = [word for word in line.split(" ") if word]
        is_number = (lambda word: word.isdigit() and len(word) <= 3 and str(int(word)) == word)
        is_name = (lambda word: 1 <= len(word) <= 8 and word[0].isalpha() and word.isalnum() and word == word.lower())
        shape = {"add": "n+", "put": "nn+", "drop": "n", "name": "u.", "undo": "", "back": "n"}.get(words[0])
        if shape is None:
            return self.asked(model, words[0]) if len(words) == 1 else "what"
        items = words[1:]
        if shape.endswith("+"):
            shape = shape[:-1] + "u" * max(1, len(items) - len(shape) + 1)
        if len(items) != len(shape):
            return "what"
        for item, kind in zip(items, shape):
            if kind == "n" and not is_number(item) or kind == "u" and not is_name(item):
                return "what"
        if any(kind == "u" and item not in model.names for item, kind in zip(items, shape)):
            return "no NoUnknown"
        given = [int(item) for item, kind in zip(items, shape) if kind == "n"]
        spots = [model.names.index(item) for item, kind in zip(items, shape) if kind == "u"]
        try:
            if words[0] in ("add", "put"):
                return f"ok {model.edit(words[0], *given, tuple(spots))}"
            if words[0] == "name":
                return f"ok {model.edit('name', spots[0], items[1])}"
            if words[0] == "drop":
                return f"ok {model.edit('drop', *given)}"
            return f"ok {getattr(model, words[0])(*given)}"
        except Wrong as wrong:
            return "no " + wrong.name

    def asked(self, model, word):
        rows = sorted(model.answers())
        if word == "facts":
            said = [" ".join([str(index)] + [model.names[k] for k in places]) for index, places in model.facts]
            return ", ".join(said) or "nothing"
        if word == "answer":
            return "".join(map(str, rows[0])) if rows else "none"
        if word == "forced":
            pairs = model.forced()
            return "none" if pairs is None else " ".join(f"{model.names[k]}={item}" for k, item in pairs) or "nothing"
        if word == "count":
            return str(len(rows))
        if word == "news":
            return model.news
        if word == "text":
            return f"{model.unknowns} unknowns, {len(model.facts)} facts, by either, version {len(model.past)}"
        return "what"

    def test_by_chance(self):
        chance = plain.chance_of(251)
        seen = []
        for _ in range(60):
            unknowns, is_open = chance.randint(1, 4), chance.random() < 0.5
            model = Model(K, unknowns)
            model.open_only = is_open
            shell = Shell((OpenDesk if is_open else Desk)(K, unknowns))
            for _ in range(40):
                line = self.some_line(chance, model)
                right = self.answer(model, line)
                self.assertEqual(shell.say(line), right, (line, model.facts))
                self.assertEqual(shell.history[-1], (line, right))
                seen.append(right.split(" ")[1] if right.startswith("no ") else right[:2])
        for word in ("NoUnknown", "NoNumber", "NoVersion", "Unfit", "NoRelation", "NotOne", "BadText", "NothingToUndo", "NoAnswers", "wh", "ok"):
            self.assertGreater(seen.count(word), 5, word)


if __name__ == "__main__":
    unittest.main()
