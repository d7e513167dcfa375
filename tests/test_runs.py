import random
import unittest

from heldalways import runs
from heldalways.answers import answer_ranges, is_answer
from heldalways.attacks import is_attack
from heldalways.commands import is_command, read_commands, show_commands
from heldalways.court import best_table, holds_ever
from heldalways.deeds import is_deed, sheet_after
from heldalways.errors import InvalidText
from heldalways.promises import heaviest_rule
from heldalways.sheets import Sheet, is_sheet
from heldalways.steps import broken_rules
from heldalways.webs import Web, with_move, without_moves
from heldalways.wishes import least_distance
from helping import STATES
from odd import ODD, told
from test_deeds import PAIR, open_sheets
from test_wishes import distance

POUR = ("pour", 0, 0, (("now", 0, 1, 0), ("now", 1, 0, -5), ("rise", 1, 1, 0)))
SHEET = Sheet(Web(("level",), ("wet",), (POUR,)), 0, (2,))
REFUSED = ("refused",)


def random_pairs(draw, names):
    pairs = [(name, draw.randint(-6, 6)) for name in names]
    if draw.random() < 0.2:
        pairs.append((draw.choice((*names, "odd")), draw.randint(-6, 6)))
    if draw.random() < 0.2 and pairs:
        pairs.pop(draw.randrange(len(pairs)))
    draw.shuffle(pairs)
    return tuple(pairs)


def random_command(draw, sheet):
    """Some command, which may name what is there or not."""
    web = sheet.web
    names = web.quantities
    move = draw.randrange(min(39, len(web.moves) + 1))
    point = lambda: draw.choice(("0", *names, *names, "odd"))
    state = lambda: draw.choice((*web.states, *web.states, "none"))
    word = draw.choice(("come", "come", "wish", "wish", "rule", "ease", "add", "bar", "state", "quantity", "leave", "now", "may", "may", "bear", "range", "hold", "hold"))
    parts = {
        "come": lambda: (move,), "wish": lambda: (move, random_pairs(draw, names)),
        "rule": lambda: (move, draw.choice(("rise", "fall", "now")), point(), point(), draw.randint(-4, 2)),
        "ease": lambda: (move, draw.randrange(4)), "add": lambda: (draw.choice("xyz"), state(), state()), "bar": lambda: (move,),
        "state": lambda: (draw.choice(("s", "t", *web.states)),), "quantity": lambda: (draw.choice(("u", "v", *names)), draw.randint(-9, 9)),
        "leave": lambda: (draw.choice((*names, "odd")),), "now": lambda: (), "may": lambda: (move, random_pairs(draw, names)),
        "bear": lambda: (move, draw.choice(("rise", "fall", "now")), point(), point(), draw.randint(-4, 2)),
        "range": lambda: (move,), "hold": lambda: (state(), random_pairs(draw, names))}
    return (word, *parts[word]())


def random_run(draw, sheet, many):
    """Commands, and the results that run_commands tells."""
    commands = []
    for _ in range(many):
        commands.append(random_command(draw, sheet))
        sheet = runs.sheet_of_run(sheet, commands[-1:], runs.run_commands(sheet, commands[-1:]))
    return tuple(commands)


def is_right(sheet, command, result):
    """Whether a result is right, by the words of point 81."""
    web, state, said = sheet.web, sheet.state, sheet.said
    word, parts = command[0], command[1:]
    numbers = {name: at for at, name in enumerate(web.quantities)}
    starts = {"come", "wish", "may", "range"}
    if word in starts and not (parts[0] < len(web.moves) and web.moves[parts[0]][1] == state):
        return result == REFUSED
    pairs = parts[1] if word in ("wish", "may", "hold") else ()
    names = [name for name, _ in pairs]
    if len(set(names)) < len(names) or set(names) - set(numbers) or word in ("may", "hold") and len(names) < len(said):
        return result == REFUSED
    values = tuple([dict(pairs).get(name, old) for name, old in zip(web.quantities, said)])
    if word in ("come", "wish"):
        table = best_table(web)
        answer = tuple([number for _, number in result[1]]) if result[0] == "said" else None
        return (answer is not None and [name for name, _ in result[1]] == list(web.quantities) and is_answer(web, table, said, parts[0], answer)
                and distance(answer, values) == least_distance(web, table, said, parts[0], values))
    if word == "now":
        return result == ("now", web.states[state], tuple(zip(web.quantities, said)))
    if word == "range":
        ranges = answer_ranges(web, best_table(web), said, parts[0])
        return result == ("ranges", tuple([(name, *pair) for name, pair in zip(web.quantities, ranges)]))
    if word == "may":
        yes = broken_rules(web, parts[0], said, values) == () and holds_ever(web, web.moves[parts[0]][2], values)
        return result == (("yes",) if yes else ("no",))
    if word == "hold":
        if parts[0] not in web.states:
            return result == REFUSED
        return result == (("yes",) if holds_ever(web, web.states.index(parts[0]), values) else ("no",))
    if word in ("rule", "bear"):
        move, kind, one, other, weight = parts
        places = {"0": 0, **{name: at + 1 for name, at in numbers.items()}}
        if one not in places or other not in places or move >= len(web.moves) or len(web.moves[move][3]) == 30:
            return result == REFUSED
        can = is_deed(sheet, ("rule", move, (kind, places[one], places[other], weight)))
        if word == "rule":
            return result == (("did",) if can else REFUSED)
        return result == (("yes",) if can else ("no",))
    deed = command
    if word == "add":
        if parts[1] not in web.states or parts[2] not in web.states:
            return result == REFUSED
        deed = ("add", (parts[0], web.states.index(parts[1]), web.states.index(parts[2]), ()))
    if word == "leave":
        if parts[0] not in numbers:
            return result == REFUSED
        deed = ("leave", numbers[parts[0]] + 1)
    return result == (("did",) if is_deed(sheet, deed) else REFUSED)


class Point81(unittest.TestCase):
    def test_example(self):
        text = "wish 0 level 9\nmay 0 level 4\nbear 0 rise level level 1\nease 0 2\nrange 0\nnow"
        self.assertEqual(runs.run_lines(SHEET, text), ("said level 5", "no", "no", "did", "ranges level 0 5", "now wet level 5"))

    def results(self, sheet, text):
        return runs.run_commands(sheet, read_commands(text))

    def test_moves(self):
        self.assertEqual(self.results(SHEET, "come 0\nwish 0 level 4\ncome 0\nwish 0\nwish 0 level 9\nwish 0 level -9\ncome 1"), (
            ("said", (("level", 2),)), ("said", (("level", 4),)), ("said", (("level", 4),)), ("said", (("level", 4),)), ("said", (("level", 5),)),
            ("said", (("level", 5),)), REFUSED))
        self.assertEqual(self.results(SHEET, "wish 0 odd 4\nwish 0 level 3 level 3\nwish 3 level 3\nnow"), (REFUSED,) * 3 + (("now", "wet", (("level", 2),)),))
        self.assertEqual(self.results(Sheet(Web((), ("a",), (("m", 0, 0, ()),)), 0, ()), "come 0\nwish 0\nnow\nrange 0\nmay 0\nhold a"), (
            ("said", ()), ("said", ()), ("now", "a", ()), ("ranges", ()), ("yes",), ("yes",)))
        # What is not wished for stays as it is.
        free = Sheet(Web(("x", "y"), ("a", "b"), (("m", 0, 1, ()),)), 0, (3, 4))
        self.assertEqual(self.results(free, "wish 0 y 9\nnow\ncome 0"), (("said", (("x", 3), ("y", 9))), ("now", "b", (("x", 3), ("y", 9))), REFUSED))

    def test_deeds(self):
        text = "rule 0 rise level level 0\nrule 0 rise level level 1\nrule 0 rise odd level 0\nrule 1 rise 0 0 0\nease 0 0\nease 0 9\nstate dry\nstate dry"
        self.assertEqual([result[0] for result in self.results(SHEET, text)], ["did", "refused", "refused", "refused", "did", "refused", "did", "refused"])
        text = "add dry wet wet\nadd m wet dry\nbar 1\nbar 1\nquantity mud 3\nquantity level 3\nnow\nleave level\nleave level\nnow\ncome 0"
        self.assertEqual(self.results(SHEET, text), (
            ("did",), REFUSED, ("did",), REFUSED, ("did",), REFUSED, ("now", "wet", (("level", 2), ("mud", 3))), ("did",), REFUSED,
            ("now", "wet", (("mud", 3),)), ("said", (("mud", 3),))))
        for word in ("state a", "state b", "quantity a 1", "add a wet wet"):
            self.assertEqual(self.results(SHEET, word), (("did",),))

    def test_asked(self):
        self.assertEqual(self.results(SHEET, "may 0 level 5\nmay 0 level 6\nmay 0 level 1\nmay 0\nmay 1 level 3\nmay 0 odd 3\nmay 0 level 3 level 3"), (
            ("yes",), ("no",), ("no",), REFUSED, REFUSED, REFUSED, REFUSED))
        self.assertEqual(self.results(SHEET, "hold wet level 5\nhold wet level 6\nhold dry level 5\nhold wet\nhold wet odd 5"), (
            ("yes",), ("no",), REFUSED, REFUSED, REFUSED))
        self.assertEqual(self.results(SHEET, "bear 0 rise level level 0\nbear 0 rise level level 1\nbear 1 rise 0 0 0\nbear 0 rise 0 odd 0\nbear 0 now 0 0 1"), (
            ("yes",), ("no",), REFUSED, REFUSED, ("no",)))
        long = Sheet(Web(("x",), ("a", "b"), (("m", 0, 0, (("now", 0, 0, 0),) * 30), ("n", 1, 1, ()))), 0, (0,))
        self.assertEqual(self.results(long, "bear 0 rise 0 0 0\nrule 0 rise 0 0 0\nbear 1 now 0 0 9\nrule 1 now 0 0 9\nrange 0\nrange 1"), (
            REFUSED, REFUSED, ("yes",), ("did",), ("ranges", (("x", None, None),)), REFUSED))
        tight = Sheet(Web(("x",), ("a", "b"), (("m", 0, 1, ()), ("n", 1, 1, (("rise", 1, 1, 0), ("now", 1, 0, -5))))), 0, (0,))
        self.assertEqual(self.results(tight, "may 0 x 5\nmay 0 x 6\nrange 0\ncome 0\nrange 1"), (
            ("yes",), ("no",), ("ranges", (("x", None, 5),)), ("said", (("x", 0),)), ("ranges", (("x", 0, 5),))))
        self.assertEqual(self.results(PAIR, "may 0 d 3 b 4\nmay 0 b 4 d 3"), (("yes",), ("yes",)))

    def test_near_refused(self):
        far = Sheet(Web(("x",), ("a", "b"), (("m", 0, 1, (("rise", 1, 1, 1000),)), ("n", 1, 0, (("rise", 1, 1, 1000),)))), 0, (10 ** 9 - 1500,))
        self.assertEqual(runs.run_commands(far, (("come", 0), ("come", 1), ("now",))), (
            ("said", (("x", 10 ** 9 - 500),)), REFUSED, ("now", "b", (("x", 10 ** 9 - 500),))))

    def test_by_the_words(self):
        draw = random.Random(1)
        seen = {}
        for sheet in open_sheets(draw, 300):
            commands = random_run(draw, sheet, 12)
            self.assertTrue(all([is_command(command) for command in commands]))
            results = runs.run_commands(sheet, commands)
            self.assertEqual((type(results), len(results)), (tuple, 12))
            present = sheet
            for at, (command, result) in enumerate(zip(commands, results)):
                self.assertIs(is_right(present, command, result), True, (command, result))
                self.assertEqual(runs.sheet_of_run(sheet, commands[:at], results[:at]), present)
                present = self.behind(present, command, result)
                self.assertIs(is_sheet(present), True)
                key = (command[0], result[0])
                seen[key] = seen.get(key, 0) + 1
            self.assertEqual(runs.sheet_of_run(sheet, commands, results), present)
        self.assertEqual(len(seen), 30, sorted(seen))
        self.assertGreater(min(seen.values()), 1, seen)

    def behind(self, sheet, command, result):
        web = sheet.web
        if result[0] == "said":
            return sheet_after(sheet, ("move", command[1], tuple([number for _, number in result[1]])))
        if result[0] != "did":
            return sheet
        if command[0] == "rule":
            places = ("0", *web.quantities)
            return sheet_after(sheet, ("rule", command[1], (command[2], places.index(command[3]), places.index(command[4]), command[5])))
        if command[0] == "add":
            return Sheet(with_move(web, (command[1], web.states.index(command[2]), web.states.index(command[3]), ())), sheet.state, sheet.said)
        if command[0] == "bar":
            return Sheet(without_moves(web, (command[1],)), sheet.state, sheet.said)
        if command[0] == "leave":
            return sheet_after(sheet, ("leave", web.quantities.index(command[1]) + 1))
        return sheet_after(sheet, command)

    def test_bears_as_promised(self):
        draw = random.Random(2)
        for sheet in open_sheets(draw, 40):
            if sheet.said:
                heaviest = heaviest_rule(sheet, 0, "rise", 1, 1)
                for weight in range(-5, 6):
                    name = sheet.web.quantities[0]
                    result = runs.run_commands(sheet, (("bear", 0, "rise", name, name, weight),))[0]
                    self.assertEqual(result == ("yes",), heaviest is not None and weight <= heaviest)


class Point82(unittest.TestCase):
    def test_show_result(self):
        for result, line in ((("did",), "did"), (("refused",), "refused"), (("yes",), "yes"), (("no",), "no"), (("said", ()), "said"),
                             (("said", (("a", -3), ("b", 10 ** 9))), "said a -3 b 1000000000"), (("now", "wet", ()), "now wet"),
                             (("now", "wet", (("a", 0),)), "now wet a 0"), (("ranges", (("a", None, 3), ("b", -2, None), ("c", None, None))), "ranges a - 3 b -2 - c - -")):
            self.assertEqual(runs.show_result(result), line)

    def test_run_lines(self):
        draw = random.Random(3)
        for sheet in open_sheets(draw, 40):
            commands = random_run(draw, sheet, 6)
            text = show_commands(commands)
            self.assertEqual(runs.run_lines(sheet, text), tuple([runs.show_result(result) for result in runs.run_commands(sheet, commands)]))
        self.assertEqual(runs.run_lines(SHEET, "\n  \n"), ())
        for value in ODD:
            if not isinstance(value, str):
                with self.assertRaises(InvalidText, msg=told(value)) as caught:
                    runs.run_lines(SHEET, value)
                self.assertEqual((caught.exception.line, caught.exception.at), (-1, -1))
        with self.assertRaises(InvalidText) as caught:
            runs.run_lines(SHEET, "now\n\ncome 0 1")
        self.assertEqual((caught.exception.line, caught.exception.at), (2, 0))


class Point83(unittest.TestCase):
    def test_papers(self):
        draw = random.Random(4)
        denied = {}
        for sheet in open_sheets(draw, 200):
            commands = random_run(draw, sheet, 10)
            answers = runs.run_with_papers(sheet, commands)
            self.assertEqual(tuple([result for result, _ in answers]), runs.run_commands(sheet, commands))
            for at, (command, (result, paper)) in enumerate(zip(commands, answers)):
                present = runs.sheet_of_run(sheet, commands[:at], [result for result, _ in answers[:at]])
                web = present.web
                if result != ("no",):
                    self.assertIsNone(paper)
                    continue
                kind = command[0]
                if kind == "bear":
                    places = ("0", *web.quantities)
                    rule = (command[2], places.index(command[3]), places.index(command[4]), command[5])
                    wider = sheet_after(present, ("rule", command[1], rule))
                    self.assertIs(is_attack(wider.web, present.state, present.said, paper), True)
                else:
                    values = tuple([dict(command[2])[name] for name in web.quantities])
                    end = web.states.index(command[1]) if kind == "hold" else web.moves[command[1]][2]
                    if isinstance(paper, tuple):
                        kind = "rule"
                        self.assertEqual(paper[0], "rule")
                        self.assertIn(paper[1], broken_rules(web, command[1], present.said, values))
                    else:
                        self.assertIs(is_attack(web, end, values, paper), True)
                denied[kind] = denied.get(kind, 0) + 1
        self.assertEqual(sorted(denied), ["bear", "hold", "may", "rule"])
        self.assertGreater(min(denied.values()), 2, denied)

    def test_great(self):
        names = ("a", "b", "c", "d", "e", "f")
        rules = tuple([("rise", at, at, 0) for at in range(1, 7)] + [("now", at, 0, -1000) for at in range(1, 7)] + [("now", at, at % 6 + 1, -900) for at in range(1, 7)])
        web = Web(names, STATES, tuple([("m", at % 8, (at + 1) % 8, rules) for at in range(40)]))
        sheet = Sheet(web, 0, (-10 ** 8,) * 6)
        self.assertIs(is_sheet(sheet), True)
        commands = []
        for at in range(60):
            commands.append((("wish", at // 3 % 8, tuple([(name, at * 10 ** 4) for name in names])), ("bear", at % 40, "rise", "a", "b", at),
                             ("hold", "p", tuple([(name, 10 ** 6) for name in names])))[at % 3])
        results = runs.run_commands(sheet, tuple(commands))
        self.assertEqual(len(results), 60)
        self.assertEqual([result[0] for result in results[::3]], ["said"] * 20)


if __name__ == "__main__":
    unittest.main()
