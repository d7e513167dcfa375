import random
import re
import unittest

from heldalways.lexer import marks_in


class Point10(unittest.TestCase):
    def check(self, text, marks):
        self.assertEqual(marks_in(text), marks, text)

    def test_runs(self):
        self.check("", ())
        self.check("   ", ())
        self.check("abc", ((0, 0, "abc"),))
        self.check("abc12de", ((0, 0, "abc"), (0, 3, "12"), (0, 5, "de")))
        self.check("007 az09", ((0, 0, "007"), (0, 4, "az"), (0, 6, "09")))
        self.check("a b", ((0, 0, "a"), (0, 2, "b")))

    def test_relations(self):
        self.check(">=<=", ((0, 0, ">="), (0, 2, "<=")))
        self.check("> = < =", ((0, 0, ">"), (0, 2, "="), (0, 4, "<"), (0, 6, "=")))
        self.check(">>==", ((0, 0, ">"), (0, 1, ">="), (0, 3, "=")))
        self.check("=>", ((0, 0, "="), (0, 1, ">")))
        self.check("<", ((0, 0, "<"),))
        self.check("<>", ((0, 0, "<"), (0, 1, ">")))
        self.check("<\n=", ((0, 0, "<"), (0, 1, "\n"), (1, 0, "=")))

    def test_lines(self):
        self.check("\n", ((0, 0, "\n"),))
        self.check(" \n\n a", ((0, 1, "\n"), (1, 0, "\n"), (2, 1, "a")))
        self.check("a\nb\n", ((0, 0, "a"), (0, 1, "\n"), (1, 0, "b"), (1, 1, "\n")))

    def test_single_signs(self):
        for code in range(33, 127):
            sign = chr(code)
            self.check(sign, ((0, 0, sign),))
            if not sign.isdigit() and not sign.islower():
                self.check(sign + sign, ((0, 0, sign), (0, 1, sign)))
        self.check("Ab", ((0, 0, "A"), (0, 1, "b")))
        self.check("x' , --1", ((0, 0, "x"), (0, 1, "'"), (0, 3, ","), (0, 5, "-"), (0, 6, "-"), (0, 7, "1")))

    def test_against_another_way(self):
        draw = random.Random(1)
        for _ in range(500):
            text = "".join([draw.choice("ab19 0z<>=='\n\n,:-Q") for _ in range(draw.randrange(30))])
            found = []
            for line, row in enumerate(text.split("\n")):
                parts = re.finditer("[a-z]+|[0-9]+|[<>]=|[^ ]", row)
                found += [(line, part.start(), part.group()) for part in parts]
                found.append((line, len(row), "\n"))
            self.check(text, tuple(found[:-1]))

    def test_long_texts(self):
        self.assertEqual(len(marks_in("ab 1\n" * 20000)), 60000)
        self.check("a" * 100000, ((0, 0, "a" * 100000),))


if __name__ == "__main__":
    unittest.main()
