import random
import re
import unittest
from itertools import product

from heldalways import reader
from heldalways.errors import InvalidText
from heldalways.lexer import marks_in
from heldalways.printer import show_run, show_script, show_values, show_web
from heldalways.webs import MOST_WEIGHT, Web, plain_rule, with_rules
from helping import NAMES, STATES, great_web, keeps, random_web
from odd import ODD, told

WEB = Web(("level", "price"), ("low", "top"), (("fill", 0, 1, ()), ("drain", 1, 0, ()), ("stay", 1, 1, ())))
BARE = Web((), ("off", "on"), (("up", 0, 1, ()), ("down", 1, 0, ())))
SIDE = "(?:[a-z]+(?: ')?)"
AMOUNT = "(?:0|(?:- )?[1-9][0-9]*)"
SENTENCE = f"(?P<left>0|{SIDE}) (?P<relation>>=|<=|=) (?P<right>{AMOUNT}|{SIDE}(?: [+-] [1-9][0-9]*)?)"
# Whatever has begun well, one of these makes a whole text of it.
TAILS = ["", "/ a", "a", "a a", "b", "b b", "0 >= 0", ">= 0", "0", "1", "'", ", x 0", ", y 0", "x 0", "y 0", ", x 0 , y 0", "0 , x 0",
         "0 , y 0", "1 , x 0", "1 , y 0", "x 0 , y 0", ": x 0 , y 0", "a : x 0 , y 0", "y 0 , x 0"]


def lines_of(marks):
    """The lines of marks that have others than newlines."""
    lines = [[]]
    for mark in marks:
        if mark == "\n":
            lines.append([])
        else:
            lines[-1].append(mark)
    return [line for line in lines if line]


def is_sentence(text, quantities):
    found = re.fullmatch(SENTENCE, text)
    if not found:
        return False
    left, right = found["left"], found["right"]
    named = re.match("[a-z]+", right)
    if left != "0" and left.split(" ")[0] not in quantities or named and named[0] not in quantities:
        return False
    if any([int(number) > 10 ** 6 for number in re.findall("[0-9]+", right)]):
        return False
    return not named or left != "0" and ("'" in left or "'" in right)


def whole_web(marks):
    """Whether marks are those of a text of a web, told line by line."""
    lines = lines_of(marks)
    if not lines or lines[0].count("/") != 1 or len(lines) > 41:
        return False
    at = lines[0].index("/")
    names, states = lines[0][:at], lines[0][at + 1:]
    if len(names) > 6 or not 1 <= len(states) <= 8 or len(set(names)) < len(names) or len(set(states)) < len(states):
        return False
    if not all([re.fullmatch("[a-z]{1,6}", name) for name in names + states]):
        return False
    for line in lines[1:]:
        head, colon, rest = " ".join(line).partition(" :")
        words = head.split(" ")
        if len(words) != 3 or not re.fullmatch("[a-z]{1,6}", words[0]) or words[1] not in states or words[2] not in states:
            return False
        parts = [part.strip(" ") for part in rest.split(",")]
        if colon and not all([is_sentence(part, names) for part in parts]):
            return False
        if len(parts) + len([part for part in parts if " = " in part]) > 30:
            return False
    return True


def whole_values(web, marks):
    if not web.quantities:
        return list(marks) == []
    parts = " ".join(marks).split(",")
    found = [re.fullmatch("([a-z]+) (0|(?:- )?[1-9][0-9]*)", part.strip(" ")) for part in parts]
    if not all(found) or any([part != part.strip(" ") and part.strip(" ") == "" for part in parts]):
        return False
    if any([int(number.replace("- ", "")) > 10 ** 9 for number in [one[2] for one in found]]):
        return False
    return sorted([one[1] for one in found]) == list(web.quantities)


def whole_run(web, marks):
    lines = lines_of(marks)
    if not lines or len(lines) > 101 or lines[0][0] not in web.states:
        return False
    state = web.states.index(lines[0][0])
    for at, line in enumerate(lines):
        if web.quantities and (line[1:2] != [":"] or not whole_values(web, line[2:])) or not web.quantities and len(line) > 1:
            return False
        if at > 0:
            if not re.fullmatch("0|[1-9][0-9]?", line[0]) or int(line[0]) >= len(web.moves) or web.moves[int(line[0])][1] != state:
                return False
            state = web.moves[int(line[0])][2]
    return True


class Reading(unittest.TestCase):
    def wrong(self, line, at, text, read=reader.read_web, completed=reader.completed_web):
        for call in (read, completed):
            if call is not None:
                with self.assertRaises(InvalidText, msg=told(text)) as caught:
                    call(text)
                self.assertEqual((caught.exception.line, caught.exception.at), (line, at), told(text))

    def unfinished(self, line, at, text, read=reader.read_web, completed=reader.completed_web):
        self.wrong(line, at, text, read, None)
        whole = completed(text)
        self.assertTrue(whole.startswith(text))
        self.assertEqual(marks_in(whole)[:len(marks_in(text))], marks_in(text))
        read(whole)


class Point11(Reading):
    def test_example(self):
        web = reader.read_web("price level / low top\n\nfill low top: level' >= level + 1, level' <= 5, price' = price")
        self.assertEqual((web.quantities, web.moves), (("level", "price"), (("fill", 0, 1, (
            ("rise", 1, 1, 1), ("now", 1, 0, -5), ("rise", 2, 2, 0), ("fall", 2, 2, 0))),)))

    def test_sentences(self):
        for sentence, rules in (
                ("x' >= y + 3", (("rise", 2, 1, 3),)), ("x' >= y - 3", (("rise", 2, 1, -3),)),
                ("x' <= y + 3", (("fall", 2, 1, -3),)), ("x' <= y - 3", (("fall", 2, 1, 3),)),
                ("x' = y - 3", (("rise", 2, 1, -3), ("fall", 2, 1, 3))), ("x' = x", (("rise", 1, 1, 0), ("fall", 1, 1, 0))),
                ("x >= y' + 3", (("fall", 1, 2, 3),)), ("x <= y' + 3", (("rise", 1, 2, -3),)),
                ("x = y' + 3", (("fall", 1, 2, 3), ("rise", 1, 2, -3))),
                ("x' >= y' + 3", (("now", 2, 1, 3),)), ("x' <= y' + 3", (("now", 1, 2, -3),)),
                ("x' = y'", (("now", 2, 1, 0), ("now", 1, 2, 0))),
                ("x' >= x' + 3", (("now", 0, 0, 3),)), ("y' <= y' + 3", (("now", 0, 0, -3),)),
                ("x' >= 3", (("now", 0, 1, 3),)), ("x' >= -3", (("now", 0, 1, -3),)), ("x' <= 3", (("now", 1, 0, -3),)),
                ("x' <= -3", (("now", 1, 0, 3),)), ("x' = -3", (("now", 0, 1, -3), ("now", 1, 0, 3))),
                ("x >= 3", (("fall", 1, 0, 3),)), ("x <= 3", (("rise", 1, 0, -3),)), ("x <= -3", (("rise", 1, 0, 3),)),
                ("y = 0", (("fall", 2, 0, 0), ("rise", 2, 0, 0))),
                ("0 >= 3", (("now", 0, 0, 3),)), ("0 >= -3", (("now", 0, 0, -3),)), ("0 <= 3", (("now", 0, 0, -3),)),
                ("0 = 3", (("now", 0, 0, 3), ("now", 0, 0, -3))), ("0 >= 0", (("now", 0, 0, 0),)),
                ("x' >= 1000000", (("now", 0, 1, 10 ** 6),)), ("x' <= - 1000000", (("now", 1, 0, 10 ** 6),)),
                ("x' >= y - 1000000", (("rise", 2, 1, -10 ** 6),)), ("x'<=y+1000000", (("fall", 2, 1, -10 ** 6),))):
            # The names are not in their sequence in the text.
            web = reader.read_web(f"y x / a\nm a a: {sentence}")
            self.assertEqual(web, Web(("x", "y"), ("a",), (("m", 0, 0, rules),)), sentence)

    def test_what_sentences_say(self):
        numbers = [(old, new) for old in product((-2, 0, 1), repeat=2) for new in product((-1, 0, 2), repeat=2)]
        for left in ("x", "x'", "y'", "0"):
            for relation in (">=", "<=", "="):
                for right in ("0", "2", "-1", "x'", "y'", "x", "y", "y' + 1", "x - 2", "x' + 1", "y - 1"):
                    if left == "0" and right[0] in "xy" or "'" not in left + right and right[0] in "xy":
                        continue
                    rules = reader.read_web(f"x y / a\nm a a: {left} {relation} {right}").moves[0][3]
                    self.assertEqual(rules, tuple([plain_rule(rule) for rule in rules]))
                    for old, new in numbers:
                        places = {"x": old[0], "y": old[1], "x'": new[0], "y'": new[1]}
                        parts = right.split(" ")
                        one = places.get(left, 0)
                        other = places[parts[0]] if parts[0] in places else int(right)
                        if len(parts) == 3:
                            other += int(parts[1] + parts[2])
                        says = {">=": one >= other, "<=": one <= other, "=": one == other}[relation]
                        self.assertEqual(keeps(rules, old, new), says, (left, relation, right))

    def test_header_and_lines(self):
        self.assertEqual(reader.read_web("/a"), Web((), ("a",), ()))
        self.assertEqual(reader.read_web("\n \n b a/a  b\n\n"), Web(("a", "b"), ("a", "b"), ()))
        self.assertEqual(reader.read_web("/ z a\n\nmove z a\n  \nmove a z:0>=0\n").moves,
                         (("move", 1, 0, ()), ("move", 0, 1, (("now", 0, 0, 0),))))
        self.assertEqual(reader.read_web("abcdef / zzzzzz\nmmmmmm zzzzzz zzzzzz").quantities, ("abcdef",))
        self.assertEqual(reader.read_web("f e d c b a/h g f e d c b a"), Web(tuple("abcdef"), tuple("abcdefgh"), ()))

    def test_refused_marks(self):
        # The last mark of each is refused, and whatever stands behind it does not matter.
        for text in (
                "1", "A", "a a", "a 1", "a b\n", "\n'", "a b c d e f g", "abcdefg", "a:", "a / 1", "a / b b", "a / b /", "/\n",
                "/ a b c d e f g h i", "/ abcdefg", "a / b\n1", "a / b\nabcdefg", "a / b\nm a", "a / b\nm b 1", "a / b\nm b a",
                "a / b\nm b\n", "a / b\nm\n", "a / b\nm b b b", "a / b\nm b b 0", "a / b\nm b b: 1", "a / b\nm b b: 00",
                "a / b\nm b b: b", "a / b\nm b b:\n", "a / b\nm b b: -", "a / b\nm b b: a ''",
                "a / b\nm b b: a >", "a / b\nm b b: a ,", "a / b\nm b b: a' = =", "a / b\nm b b: a' >= =",
                "a / b\nm b b: 0'", "a / b\nm b b: 0 >= a", "a / b\nm b b: a >= 01", "a / b\nm b b: a >= 1000001",
                "a / b\nm b b: a >= 10000000", "a / b\nm b b: a >= - 0", "a / b\nm b b: a >= --", "a / b\nm b b: a >= - a",
                "a / b\nm b b: a >= +", "a / b\nm b b: a >= 1 +", "a / b\nm b b: a >= 1'", "a / b\nm b b: a >= a,",
                "a / b\nm b b: a >= a +", "a / b\nm b b: a >= a\n", "a / b\nm b b: a >= a 1", "a / b\nm b b: a' >= a + 0",
                "a / b\nm b b: a' >= a - 1000001", "a / b\nm b b: a' >= a + -", "a / b\nm b b: a' >= a + a",
                "a / b\nm b b: a' >= a''", "a / b\nm b b: a' >= a + 1 +", "a / b\nm b b: a' >= b",
                "a / b\nm b b: a' >= a,\n", "a / b\nm b b: a' >= a,,", "a / b\nm b b: a' >= a:", "a / b\nm b b: a' >= '",
                "a / b\nm b b: a' >=\n", "a / b\nm b b: a' a", "a / b\nm b b: a' >= a - 1 a", "/ b\nm b b: a", "a / b\t"):
            line, at, _ = marks_in(text)[-1]
            for behind in ("", " a", "\n", " 1 +"):
                self.wrong(line, at, text + behind)

    def test_unfinished_texts(self):
        for text in ("", "  ", "\n\n ", "a", "a b", "a /", "/", "a / b\nm", "a / b\nm b", "a / b\n\nm b b:", "a / b\nm b b: a",
                     "a / b\nm b b: a'", "a / b\nm b b: 0", "a / b\nm b b: a >=", "a / b\nm b b: 0 =", "a / b\nm b b: a >= - ",
                     "a / b\nm b b: a >= a", "a / b\nm b b: a' >= a +", "a / b\nm b b: a' >= a,"):
            lines = text.split("\n")
            self.unfinished(len(lines) - 1, len(lines[-1]), text)

    def test_bounds(self):
        head = "a / b\n"
        self.assertEqual(len(reader.read_web(head + "m b b\n" * 40).moves), 40)
        self.wrong(41, 0, head + "m b b\n" * 41)
        self.wrong(43, 2, head + "m b b\n" * 39 + "\n\nm b b\n  n")
        rules = "m b b: " + ", ".join(["a' >= a"] * 30)
        self.assertEqual(len(reader.read_web(head + rules).moves[0][3]), 30)
        self.wrong(1, len(rules), head + rules + ", a' >= a")
        self.wrong(1, len(rules), head + rules + ",")
        rules = "m b b: " + ", ".join(["a' >= a"] * 29)
        self.assertEqual(len(reader.read_web(head + rules + ", a' <= a").moves[0][3]), 30)
        self.wrong(1, len(rules) + 5, head + rules + ", a' = a")
        self.wrong(1, len(rules) + 4, head + rules + ", 0 = 0")
        rules = "m b b: " + ", ".join(["a' = a"] * 15)
        self.assertEqual(len(reader.read_web(head + rules).moves[0][3]), 30)
        self.wrong(1, len(rules), head + rules + ", a' = a")
        # The rules of one move do not count for the next one.
        self.assertEqual([len(move[3]) for move in reader.read_web(head + rules + "\n" + rules).moves], [30, 30])
        self.wrong(1, 12, head + "m b b: a >= " + "9" * 5000)
        self.wrong(1, 12, head + "m b b: a >= " + "0" * 5000)
        for text in ("a b c d e f / a b c d e f g h", "a b c d e f / a b c d e f g h\nm a h"):
            reader.read_web(text)

    def test_great(self):
        web = great_web(random.Random(2), -MOST_WEIGHT, MOST_WEIGHT)
        plain = with_rules(web, [tuple([plain_rule(rule) for rule in move[3]]) for move in web.moves])
        text = show_web(web)
        self.assertEqual(reader.read_web(text), plain)
        self.assertEqual(reader.completed_web(text), text)
        self.unfinished(40, len(text.split("\n")[40]) + 2, text.rsplit(",", 1)[0] + ", a" + " " * (
            len(text) - len(text.rsplit(",", 1)[0]) - 1))
        self.wrong(20000, 0, "\n" * 20000 + "1")


class Point12(Reading):
    def values(self, text):
        return reader.read_values(WEB, text)

    def test_example(self):
        self.assertEqual(reader.read_run(WEB, "low: price 0, level 3\n0: level 9, price -1"),
                         ((0, (3, 0)), ((0, (9, -1)),)))
        self.assertEqual(self.values("price - 1, level 0"), (0, -1))

    def test_values(self):
        self.assertEqual(self.values("level 1000000000,price-1000000000"), (10 ** 9, -10 ** 9))
        self.assertEqual(reader.read_values(BARE, ""), ())
        self.assertEqual(reader.read_values(BARE, "   "), ())
        read, completed = self.values, lambda text: reader.completed_values(WEB, text)
        for text in ("1", "low", "level level", "level -0", "level 01", "level 1000000001", "level 10000000000", "level --", "level 1 1",
                     "level 1 price", "level 1,,", "level 1, level", "level 1, price 2,", "level 1, price 2 3", "\n", "level 1\n",
                     "level 1, price 2\n", ",", "level '", "level 1, price 2 '", "level + ", "level " + "9" * 5000):
            line, at, _ = marks_in(text)[-1]
            for behind in ("", " 1", ", price 0"):
                self.wrong(line, at, text + behind, read, completed)
        for text in ("", " ", "level", "level -", "level - 1", "level 1,", "price 3, level ", "price 3, level -"):
            self.unfinished(0, len(text), text, read, completed)
        self.wrong(0, 1, " a", lambda text: reader.read_values(BARE, text), lambda text: reader.completed_values(BARE, text))

    def test_runs(self):
        read, completed = lambda text: reader.read_run(WEB, text), lambda text: reader.completed_run(WEB, text)
        self.assertEqual(read("\n\ntop:price 1,level 2\n\n 2 :level 0,price 0\n1:level 5,price 5\n\n"),
                         ((1, (2, 1)), ((2, (0, 0)), (1, (5, 5)))))
        for text in ("1", "level", "low low", "low\n", "low: \n", "low: level 1\n", "low: level 1, price 1\n1", "low: level 1, price 1\n3",
                     "low: level 1, price 1\n00", "low: level 1, price 1\nlow", "low: level 1, price 1\n0\n", "low: level 1, price 1\n0 level",
                     "low: level 1, price 1\n0: level 1, price 1\n0", "low: level 1, price 1,", "low: level 1, price 1 0",
                     "low: level 1, price 1\n" + "9" * 5000, "low: level 1, price 1\n-"):
            line, at, _ = marks_in(text)[-1]
            for behind in ("", " 1", ": level 0"):
                self.wrong(line, at, text + behind, read, completed)
        for text in ("", "\n ", "low", "top:", "low: price", "low: price 1, level 3\n0", "low: price 1, level 3\n\n0:  ",
                     "low: price 1, level 3\n0: level -", "top: price 1, level 3\n2: level 3,"):
            lines = text.split("\n")
            self.unfinished(len(lines) - 1, len(lines[-1]), text, read, completed)

    def test_runs_without_quantities(self):
        read, completed = lambda text: reader.read_run(BARE, text), lambda text: reader.completed_run(BARE, text)
        self.assertEqual(read("off\n0\n\n1\n0"), ((0, ()), ((0, ()), (1, ()), (0, ()))))
        self.assertEqual(read(" on"), ((1, ()), ()))
        for text in ("off:", "off\n0:", "off\n1", "off 0", "off\n0 1"):
            line, at, _ = marks_in(text)[-1]
            self.wrong(line, at, text, read, completed)
        self.unfinished(0, 0, "", read, completed)

    def test_long_runs(self):
        read, completed = lambda text: reader.read_run(WEB, text), lambda text: reader.completed_run(WEB, text)
        text = "top: level 0, price 0" + "\n2: level 1, price -1000000000" * 100
        run = read(text)
        self.assertEqual(len(run[1]), 100)
        self.assertEqual(completed(text + "\n\n"), text + "\n\n")
        self.wrong(101, 0, text + "\n2: level 1, price 1", read, completed)
        self.unfinished(100, 1, text.rsplit(":", 1)[0], read, completed)

    def test_scripts(self):
        def read(text):
            return reader.read_script(WEB, 0, text)
        self.assertEqual([read(text) for text in ("", "  ", "0", "0 2 2 1 0", " 0  1")], [(), (), (0,), (0, 2, 2, 1, 0), (0, 1)])
        for text in ("1", "0 0", "3", "00", "a", "\n", "0 \n", "0 -", "0,", "0 1 2", "0 " + "2" * 5000):
            line, at, _ = marks_in(text)[-1]
            self.wrong(line, at, text, read, None)
            self.wrong(line, at, text + " 0", read, None)
        self.assertEqual(read("0" + " 2" * 99), (0,) + (2,) * 99)
        self.wrong(0, 201, "0" + " 2" * 99 + "  2", read, None)
        self.wrong(0, 0, "0", lambda text: reader.read_script(Web((), ("a",), ()), 0, text), None)


class Point13(Reading):
    def test_any_value(self):
        for call in (reader.read_web, reader.completed_web, lambda text: reader.read_values(WEB, text),
                     lambda text: reader.completed_values(WEB, text), lambda text: reader.read_run(WEB, text),
                     lambda text: reader.completed_run(WEB, text), lambda text: reader.read_script(WEB, 0, text)):
            for value in ODD:
                if not isinstance(value, str):
                    self.wrong(-1, -1, value, call, None)
            for text in ("\t", "\r", "\u00e9", "\u0663", "\x00", "#"):
                self.wrong(0, 1, " " + text, call, None)

    def check(self, marks, whole, read, completed, tails):
        """Compares what is refused with the marks ahead of which some tail makes a whole text."""
        text = " ".join(marks)
        places = marks_in(text)
        for many in range(1, len(marks) + 1):
            begun = list(marks[:many])
            if not any([whole(begun + tail) for tail in tails]):
                return self.wrong(places[many - 1][0], places[many - 1][1], text, read, completed)
        if whole(list(marks)):
            read(text)
            return self.assertEqual(completed(text), text)
        lines = text.split("\n")
        return self.unfinished(len(lines) - 1, len(lines[-1]), text, read, completed)

    def spoiled_marks(self, draw, text, words, many):
        """The marks of a text, cut anywhere, with one left out, put in, exchanged or doubled."""
        marks = [mark for _, _, mark in marks_in(text)]
        for cut in range(len(marks) + 1):
            yield marks[:cut]
        for _ in range(many):
            at = draw.randrange(len(marks))
            for middle in ([], [draw.choice(words), marks[at]], [draw.choice(words)], [marks[at], marks[at]]):
                yield marks[:at] + middle + marks[at + 1:]
            other = draw.randrange(len(marks))
            swapped = list(marks)
            swapped[at], swapped[other] = swapped[other], swapped[at]
            yield swapped

    def test_webs_mark_by_mark(self):
        draw = random.Random(3)
        tails = [tail.split() for tail in TAILS]
        words = ["a", "b", "x", "y", "m", "/", ":", ",", "'", ">=", "<=", "=", "+", "-", "0", "1", "7", "\n", "01", "#"]
        for _ in range(12):
            web = random_web(draw, 2, 2, 2, 3, -2, 2)
            text = show_web(Web(("x", "y"), ("a", "b"), web.moves)).replace("<= x", draw.choice(("<= x", "= x")))
            for marks in self.spoiled_marks(draw, text, words, 12):
                self.check(marks, whole_web, reader.read_web, reader.completed_web, tails)
        for _ in range(1500):
            marks = [draw.choice(words) for _ in range(draw.randrange(1, 5))]
            self.check(draw.choice(([], ["x", "/", "a", "\n", "m", "a", "a", ":"])) + marks, whole_web,
                       reader.read_web, reader.completed_web, tails)

    def test_values_and_runs_mark_by_mark(self):
        draw = random.Random(4)
        tails = [tail.split() for tail in TAILS]
        words = ["x", "y", "a", "b", ":", ",", "-", "0", "1", "2", "7", "\n", "00", "1000000000", "1000000001", "'"]
        web = Web(("x", "y"), ("a", "b"), (("m", 0, 1, ()), ("m", 1, 0, ()), ("m", 1, 1, ())))
        for text in ("x 0, y -1", "y 1000000000, x 7"):
            for marks in self.spoiled_marks(draw, text, words, 80):
                self.check(marks, lambda told: whole_values(web, told), lambda told: reader.read_values(web, told),
                           lambda told: reader.completed_values(web, told), tails)
        for text in ("a: x 0, y -1\n0: y 3, x 4\n\n2: x 0, y 0\n1: x 1, y 1", "b: y 0, x 0"):
            for marks in self.spoiled_marks(draw, text, words, 80):
                self.check(marks, lambda told: whole_run(web, told), lambda told: reader.read_run(web, told),
                           lambda told: reader.completed_run(web, told), tails)

    def test_great_texts_cut(self):
        draw = random.Random(6)
        web = great_web(draw, -MOST_WEIGHT, MOST_WEIGHT)
        run = ((0, (10 ** 9,) * 6), ())
        state = 0
        for _ in range(100):
            move = draw.choice([at for at, one in enumerate(web.moves) if one[1] == state])
            run = (run[0], (*run[1], (move, tuple([draw.choice((-10 ** 9, 10 ** 9, 0)) for _ in range(6)]))))
            state = web.moves[move][2]
        self.assertEqual(reader.read_run(web, show_run(web, run)), run)
        values = (-10 ** 9, 10 ** 9, 0, 1, -1, 10 ** 8)
        for text, read, completed, step in (
                (show_web(web), reader.read_web, reader.completed_web, 331),
                (show_run(web, run), lambda told: reader.read_run(web, told), lambda told: reader.completed_run(web, told), 29),
                (show_values(web, values), lambda told: reader.read_values(web, told), lambda told: reader.completed_values(web, told), 1)):
            marks = marks_in(text)
            lines = text.split("\n")
            for cut in [*range(0, len(marks), step), len(marks) - 1]:
                line, at, mark = marks[cut]
                begun = "\n".join([*lines[:line], lines[line][:at]])
                whole = completed(begun)
                self.assertTrue(whole.startswith(begun))
                self.assertEqual(marks_in(whole)[:cut], marks[:cut])
                read(whole)
                self.wrong(line, at, begun + "#" + mark, read, completed)

    def test_shown_and_read(self):
        draw = random.Random(5)
        for _ in range(60):
            many = draw.randrange(4)
            web = random_web(draw, many, 3, 5, 6, -9, 9)
            plain = with_rules(web, [tuple([plain_rule(rule) for rule in move[3]]) for move in web.moves])
            self.assertEqual(reader.read_web(show_web(web)), plain)
            values = tuple([draw.randint(-20, 20) for _ in range(many)])
            self.assertEqual(reader.read_values(web, show_values(web, values)), values)
            state = begin = draw.randrange(3)
            steps = []
            for _ in range(5):
                going = [at for at, move in enumerate(web.moves) if move[1] == state]
                if going:
                    steps.append((draw.choice(going), tuple([draw.randint(-10 ** 9, 10 ** 9) for _ in range(many)])))
                    state = web.moves[steps[-1][0]][2]
            run = ((begin, values), tuple(steps))
            self.assertEqual(reader.read_run(web, show_run(web, run)), run)
            script = tuple([move for move, _ in steps])
            self.assertEqual(reader.read_script(web, begin, show_script(script)), script)
        self.assertEqual(reader.read_web("/ " + " ".join(STATES)), Web((), STATES, ()))
        self.assertEqual(reader.read_web(" ".join(NAMES) + "/a").quantities, NAMES)


if __name__ == "__main__":
    unittest.main()
