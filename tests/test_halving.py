import unittest

from heldalways import halving


class Halving(unittest.TestCase):
    def test_all_small_ranges(self):
        for low in (-7, 0, 3):
            for high in range(low, low + 40):
                for edge in range(low, high + 1):
                    self.assertEqual(halving.least_from(low, high, lambda number: number >= edge), edge)
                    self.assertEqual(halving.greatest_up_to(low, high, lambda number: number <= edge), edge)

    def test_few_trials(self):
        for high in (10 ** 6, 2 * 10 ** 6):
            for edge in (0, 1, 2, 5, 77, 12345, high // 2, high - 1, high):
                asked = []
                self.assertEqual(halving.least_from(0, high, lambda number: asked.append(number) or number >= edge), edge)
                self.assertLess(len(asked), 4 + 2 * edge.bit_length())
                self.assertEqual(len(set(asked)), len(asked))
                asked = []
                self.assertEqual(halving.greatest_up_to(0, high, lambda number: asked.append(number) or number <= edge), edge)
                self.assertLess(len(asked), 4 + 2 * edge.bit_length())
                self.assertEqual(len(set(asked)), len(asked))
                self.assertTrue(min(asked) >= 0 and max(asked) <= high)


if __name__ == "__main__":
    unittest.main()
