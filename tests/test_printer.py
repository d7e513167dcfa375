import unittest

from heldalways.printer import show_run, show_script, show_values, show_web
from heldalways.webs import Web
from helping import NAMES, STATES

WEB = Web(("level", "price"), ("low", "top"), (
    ("fill", 0, 1, (("rise", 1, 1, 1), ("now", 1, 0, -5), ("rise", 2, 2, 0), ("fall", 2, 2, 0))),))
BARE = Web((), ("a", "b"), (("m", 0, 1, ()), ("n", 1, 1, (("now", 0, 0, 3),))))


class Point14(unittest.TestCase):
    def rule(self, rule, text):
        web = Web(("x", "y"), ("a",), (("m", 0, 0, (rule,)),))
        self.assertEqual(show_web(web), f"x y / a\nm a a: {text}")

    def test_example(self):
        self.assertEqual(show_web(WEB), "level price / low top\n"
                         "fill low top: level' >= level + 1, level' <= 5, price' >= price, price' <= price")

    def test_rules(self):
        for rule, text in (
                (("rise", 1, 2, 7), "y' >= x + 7"), (("rise", 1, 2, -7), "y' >= x - 7"), (("rise", 1, 2, 0), "y' >= x"),
                (("rise", 2, 2, 1), "y' >= y + 1"), (("fall", 1, 2, 7), "y' <= x - 7"), (("fall", 1, 2, -7), "y' <= x + 7"),
                (("fall", 2, 1, 0), "x' <= y"), (("now", 1, 2, 7), "y' >= x' + 7"), (("now", 2, 1, -7), "x' >= y' - 7"),
                (("now", 1, 2, 0), "y' >= x'"), (("rise", 2, 0, 7), "y <= -7"), (("rise", 2, 0, -7), "y <= 7"),
                (("rise", 2, 0, 0), "y <= 0"), (("fall", 2, 0, 7), "y >= 7"), (("fall", 2, 0, -7), "y >= -7"),
                (("fall", 2, 0, 0), "y >= 0"), (("now", 2, 0, 7), "y' <= -7"), (("now", 2, 0, -7), "y' <= 7"),
                (("now", 2, 0, 0), "y' <= 0"), (("now", 0, 2, 7), "y' >= 7"), (("now", 0, 2, -7), "y' >= -7"),
                (("now", 0, 2, 0), "y' >= 0"), (("now", 0, 1, 2), "x' >= 2"), (("now", 1, 0, 2), "x' <= -2"),
                (("fall", 1, 0, 2), "x >= 2"), (("rise", 1, 0, 2), "x <= -2"), (("now", 0, 0, 7), "0 >= 7"), (("now", 0, 0, -7), "0 >= -7"),
                (("now", 0, 0, 0), "0 >= 0"), (("rise", 1, 1, 10 ** 6), "x' >= x + 1000000")):
            self.rule(rule, text)

    def test_rules_in_plain_form(self):
        for rule, text in (
                (("now", 2, 2, 5), "0 >= 5"), (("rise", 0, 0, 5), "0 >= 5"), (("fall", 0, 0, -5), "0 >= -5"),
                (("rise", 0, 2, 5), "y' >= 5"), (("fall", 0, 2, 5), "y' <= -5"), (("fall", 0, 2, -5), "y' <= 5")):
            self.rule(rule, text)

    def test_webs(self):
        self.assertEqual(show_web(BARE), "/ a b\nm a b\nn b b: 0 >= 3")
        self.assertEqual(show_web(Web(("x",), ("a",), ())), "x / a")
        many = Web(NAMES, STATES, (("go", 7, 0, (("now", 6, 1, 2),) * 3), ("go", 0, 7, ())))
        self.assertEqual(show_web(many), "a b c d e f / p q r s t u v w\n"
                         "go w p: a' >= f' + 2, a' >= f' + 2, a' >= f' + 2\ngo p w")

    def test_values(self):
        self.assertEqual(show_values(WEB, (3, 0)), "level 3, price 0")
        self.assertEqual(show_values(WEB, (-10 ** 9, 10 ** 9)), "level -1000000000, price 1000000000")
        self.assertEqual(show_values(BARE, ()), "")

    def test_runs(self):
        self.assertEqual(show_run(WEB, ((0, (3, 0)), ((0, (9, -1)),))), "low: level 3, price 0\n0: level 9, price -1")
        self.assertEqual(show_run(WEB, ((1, (0, 1)), ())), "top: level 0, price 1")
        self.assertEqual(show_run(BARE, ((0, ()), ((0, ()), (1, ()), (1, ())))), "a\n0\n1\n1")

    def test_scripts(self):
        self.assertEqual(show_script(()), "")
        self.assertEqual(show_script((0,)), "0")
        self.assertEqual(show_script((0, 12, 3)), "0 12 3")

    def test_great(self):
        web = Web(NAMES, STATES, tuple([("m", at % 8, 0, tuple([("rise", 1 + by % 6, 6, -10 ** 6) for by in range(30)]))
                                        for at in range(40)]))
        rows = show_web(web).split("\n")
        self.assertEqual((len(rows), len(rows[40].split(","))), (41, 30))
        self.assertEqual(len(show_run(web, ((0, (-10 ** 9,) * 6), ((0, (10 ** 9,) * 6),) * 100)).split("\n")), 101)


if __name__ == "__main__":
    unittest.main()
