import random
import unittest

from heldalways.commands import is_command, read_commands, show_command, show_commands
from heldalways.errors import InvalidText
from odd import ODD, STRANGE, resized, spoiled, told

MOST = 10 ** 6
RIGHT = (
    (("come", 0), "come 0"), (("come", 39), "come 39"),
    (("wish", 3, ()), "wish 3"), (("wish", 0, (("level", 9),)), "wish 0 level 9"),
    (("wish", 39, (("a", -MOST), ("a", MOST), ("bcdefg", 0))), "wish 39 a -1000000 a 1000000 bcdefg 0"),
    (("rule", 0, "rise", "a", "0", 1000), "rule 0 rise a 0 1000"),
    (("rule", 39, "fall", "0", "0", -1000), "rule 39 fall 0 0 -1000"),
    (("rule", 1, "now", "rise", "now", 0), "rule 1 now rise now 0"),
    (("ease", 39, 29), "ease 39 29"), (("ease", 0, 0), "ease 0 0"),
    (("add", "m", "p", "q"), "add m p q"), (("bar", 5), "bar 5"), (("state", "abcdef"), "state abcdef"),
    (("quantity", "x", -5), "quantity x -5"), (("quantity", "x", MOST), "quantity x 1000000"),
    (("leave", "x"), "leave x"), (("now",), "now"), (("may", 2, ()), "may 2"),
    (("may", 2, (("x", 1), ("y", -2))), "may 2 x 1 y -2"), (("bear", 0, "now", "0", "0", 1000), "bear 0 now 0 0 1000"), (("bear", 7, "fall", "x", "y", -3), "bear 7 fall x y -3"), (("bear", 0, "rise", "a", "b", -1000), "bear 0 rise a b -1000"),
    (("range", 4), "range 4"), (("hold", "p", ()), "hold p"), (("hold", "p", (("x", 4),)), "hold p x 4"),
)


class Point79(unittest.TestCase):
    def test_right(self):
        for command, _ in RIGHT:
            self.assertIs(is_command(command), True, command)

    def test_wrong(self):
        for value in (
                ("come",), ("come", 40), ("come", -1), ("come", 0, 0), ("come", True), ("come", "0"), ("go", 0), ("Come", 0),
                ("wish", 0), ("wish", 40, ()), ("wish", 0, (("x", MOST + 1),)), ("wish", 0, (("x", -MOST - 1),)),
                ("wish", 0, (("0", 1),)), ("wish", 0, [("x", 1)]), ("wish", 0, (["x", 1],)), ("wish", 0, (("x",),)),
                ("wish", 0, (("x", 1, 2),)), ("wish", 0, ("x", 1)), ("wish", 0, (("x", True),)), ("wish", 0, "", ()),
                ("rule", 0, "rise", "a", "0", 1001), ("rule", 0, "rise", "a", "0", -1001), ("rule", 40, "rise", "a", "0", 0),
                ("rule", 0, "up", "a", "0", 0), ("rule", 0, "rise", "1", "0", 0), ("rule", 0, "rise", "a", 0, 0),
                ("rule", 0, "rise", "a", "00", 0), ("rule", 0, "rise", "a", "", 0), ("rule", 0, "rise", "a", "0"),
                ("rule", 0, "rise", "A", "0", 0), ("ease", 0, 30), ("ease", 0, -1), ("ease", 40, 0), ("ease", 0),
                ("add", "m", "p"), ("add", "m", "p", "q", "r"), ("add", "m", 0, 0), ("add", "m", "p", "0"), ("bar", 40), ("bar",),
                ("state",), ("state", "abcdefg"), ("state", ""), ("state", "0"), ("quantity", "x"), ("quantity", "x", MOST + 1),
                ("quantity", "x", -MOST - 1), ("quantity", "0", 1), ("leave", "x", "y"), ("leave", "0"), ("now", 0), ("now", ()),
                ("may", 2), ("may", "2", ()), ("bear", 0, "now", "x", "y", 2000),
                ("bear", 0, "up", "x", "y", 2), ("bear", 0, "now", "1", "y", 2), ("bear", 0, "now", "x", 0, 2), ("bear", 40, "now", "x", "y", 2),
                ("add", "0", "p", "q"), ("add", "m", "0", "q"), ("hold", "p", [("x", 1)]), ("may", 2, (("x", 10 ** 7),)), ("range", 40), ("range",), ("hold", "p"),
                ("hold", 0, ()), ("hold", "0", ()), ("hold", "p", (("x", None),)), (), ("",), (None,), "now", ["now"], b"now"):
            self.assertIs(is_command(value), False, told(value))
        for value in ODD:
            self.assertIs(is_command(value), False, told(value))

    def test_spoiled_anywhere(self):
        for command, _ in RIGHT:
            for value in spoiled(command, STRANGE + [None, 10 ** 400, "A"]):
                self.assertIs(is_command(value), False, told(value))
            # Fewer pairs are the only thing that may lack.
            fewer = (*command[:-1], command[-1][:-1]) if isinstance(command[-1], tuple) and command[-1] else ("now",)
            for value in resized(command):
                self.assertIs(is_command(value), told(value) == told(fewer), told(value))


class Point80(unittest.TestCase):
    def wrong(self, line, text):
        with self.assertRaises(InvalidText, msg=told(text)) as caught:
            read_commands(text)
        self.assertEqual((caught.exception.line, caught.exception.at), (line, 0), told(text))

    def test_each(self):
        for command, line in RIGHT:
            self.assertEqual(show_command(command), line)
            self.assertEqual(read_commands(line), (command,))
            self.assertEqual(read_commands(f"\n  {line.replace(' ', '   ')}  \n\n   \n"), (command,))

    def test_many(self):
        commands = tuple([command for command, _ in RIGHT])
        text = "\n".join([line for _, line in RIGHT])
        self.assertEqual(show_commands(commands), text)
        self.assertEqual(read_commands(text), commands)
        self.assertEqual(show_commands(()), "")
        self.assertEqual(show_commands((("now",),)), "now")
        for text in ("", " ", "\n", "  \n \n"):
            self.assertEqual(read_commands(text), ())
        self.assertEqual(len(read_commands("now\n" * 1000)), 1000)

    def test_wrong_lines(self):
        for line in ("come", "come x", "come 40", "come -1", "come 00", "come 01", "come -0", "come +1", "come 1 2", "come 1x",
                     "come 1.", "COME 1", "come1", "stay", "wish", "wish x", "wish 0 x", "wish 0 x 1 y", "wish 0 1 x",
                     "wish 0 x -0", "wish 0 x 00", "wish 0 x 1000001", "wish 0 x -1000001", "wish 0 x 10000000",
                     "wish 0 x 00000001", "wish 0 x - 1", "wish 0 x --1", "wish 0 x 1-", "wish 0 abcdefg 1", "wish 0 0 1",
                     "wish 0 x y", "wish x 1", "rule 0 rise a b", "rule 0 rise a b 1 2", "rule 0 rise a 1 1", "rule 0 up a b 1",
                     "rule 0 rise a b 1001", "rule 0 rise a 00 1", "rule 0 rise a -0 1", "ease 0 30", "ease 0", "ease 0 1 2",
                     "add m p", "add m p q r", "add m 0 1", "bar", "bar p", "state", "state 0", "state p q", "state P",
                     "quantity x", "quantity x y", "quantity 1 1", "quantity x 1 1", "leave", "leave 0", "now 0", "now now", "may",
                     "bear 0 rise a b", "range", "range 40", "hold", "hold 0", "hold p x", "hold p x 1 y", "come 0;", "'", "/",
                     "come\t0", "\tnow", "now\t", "now\r", "come \u0661", "come \u00b2", "now\x0b", "\u00a0now"):
            self.wrong(0, line)
            self.wrong(2, f"now\n\n{line}\nnow\n{line}")
            self.wrong(1, f"  \n {line} ")

    def test_first_wrong_line(self):
        self.wrong(3, "now\n\ncome 1\ncome\ncome 2\nstay")

    def test_no_string(self):
        for value in STRANGE + [None, 0, 1, (), ("now",), b"now"]:
            with self.assertRaises(InvalidText, msg=told(value)) as caught:
                read_commands(value)
            self.assertEqual((caught.exception.line, caught.exception.at), (-1, -1))

    def test_long_numerals(self):
        self.wrong(0, "come " + "9" * 10000)
        self.wrong(0, "wish 0 x -" + "9" * 10000)
        self.wrong(0, "wish 0 x " + "0" * 10000)
        self.wrong(0, "x" * 10000)
        self.assertEqual(read_commands("wish 0 x -1000000"), (("wish", 0, (("x", -MOST),)),))

    def test_read_again(self):
        draw = random.Random(1)
        commands = []
        for _ in range(2000):
            command = draw.choice(RIGHT)[0]
            parts = [draw.choice((part, draw.randrange(-1200, 1200), draw.randrange(40))) if isinstance(part, int) else part
                     for part in command]
            if isinstance(parts[-1], tuple):
                parts[-1] = tuple([(draw.choice("abc"), draw.randint(-MOST, MOST)) for _ in range(draw.randrange(9))])
            if is_command(tuple(parts)):
                commands.append(tuple(parts))
        self.assertGreater(len(commands), 1000)
        self.assertEqual(read_commands(show_commands(tuple(commands))), tuple(commands))


if __name__ == "__main__":
    unittest.main()
