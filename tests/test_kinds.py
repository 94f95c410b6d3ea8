"""Promise [23]: cells of every kind, and pairs of them, beside told ones."""

import unittest
from itertools import product
from random import Random

from sentparts.cells import compared, is_cell, kinds_of, pairs_of_kinds
from sentparts.ways import Ways

TOLD_TEXTS = [
    [], ["x"], ["x", "Xy"], ["abcd", "aBce"], ["AbCd ", "abzD"], ["mNoP", "MnOq"], ["a", "b"], ["zZ", "Zz "], ["", " "],
    ["Aaaa", "zzzz"], ["ba", "b"],
]
TOLD_NUMBERS = [[], [5], [80], [-15, 99995], [100000, -100000], [0, 10]]


def views(text):
    """A text as it stands, without its blanks at the end, and both in lower case."""
    return [text, text.rstrip(" "), text.lower(), text.lower().rstrip(" ")]


def look(text, told):
    """How a text compares with told ones, and with itself, in all ways in which a store or a step can see it."""
    own = views(text)
    found = [own[0] == each for each in own[1:]] + [own[1] == ""]
    for kept, trimmed, low, low_trimmed in map(views, told):
        pairs = [(own[0], kept), (own[1], kept), (own[1], trimmed), (own[2], kept), (own[3], kept), (own[3], trimmed)]
        pairs += [(own[2], low), (own[3], low), (own[3], low_trimmed)]
        found += [compared(one, other) for one, other in pairs]
    return tuple(found)


def pair_look(one, other, told):
    """The looks of two texts, and how they compare in all ways."""
    both = [compared(mine, yours) for mine, yours in zip(views(one), views(other))]
    return look(one, told), look(other, told), tuple(both)


class Texts(unittest.TestCase):
    def some_text(self, maker, told):
        """A text that begins as a told one, perhaps in another case."""
        word = maker.choice([*told, "", "k"]).rstrip(" ")
        start = "".join(maker.choice([sign, sign, sign.swapcase()]) for sign in word[:maker.randint(0, len(word))])
        tail = "".join(maker.choice("aAbBmMnNyYzZ") for _ in range(maker.choice([0, 0, 1, 1, 2, 3])))
        return start + tail + " " * maker.choice([0, 0, 0, 1, 2, 3])

    def test_each_kind_is_there(self):
        for told in TOLD_TEXTS:
            maker = Random(str(told))
            cells = kinds_of("text", told)
            self.assertIn(None, cells)
            self.assertTrue(all(is_cell(cell, "text") for cell in cells))
            looks = {look(cell, told) for cell in cells[1:]}
            for _ in range(1500):
                text = self.some_text(maker, told)
                self.assertIn(look(text, told), looks, (text, told))

    def test_each_kind_of_pairs_is_there(self):
        for told in TOLD_TEXTS:
            maker = Random(str(told))
            cells = kinds_of("text", told)
            pairs = pairs_of_kinds("text", told)
            self.assertLessEqual({cell for pair in pairs for cell in pair}, set(cells))
            for cell in cells:
                self.assertLessEqual({(cell, None), (None, cell)}, set(pairs))
            looks = {pair_look(one, other, told) for one, other in pairs if one is not None and other is not None}
            for _ in range(1500):
                one = self.some_text(maker, told)
                other = maker.choice([self.some_text(maker, told), one.swapcase(), one.rstrip(" "), one.lower()])
                self.assertIn(pair_look(one, other, told), looks, (one, other, told))

    def test_sizes(self):
        for told in TOLD_TEXTS:
            longest = max([0, *[len(text.rstrip(" ")) for text in told]])
            blanks = max([0, *[len(text) - len(text.rstrip(" ")) for text in told]])
            for cell in kinds_of("text", told)[1:]:
                self.assertLessEqual(len(cell.rstrip(" ")), longest + 2)
                self.assertLessEqual(len(cell) - len(cell.rstrip(" ")), blanks + 2)


class Numbers(unittest.TestCase):
    STORES = [Ways(unit=unit, halves=halves) for unit in (2, 5, 10) for halves in ("up", "even", "cut")]

    def look(self, numbers, told):
        """How numbers compare with told ones and with one another, where they are rounded once or twice."""
        found = []
        for far, home in product(self.STORES, self.STORES):
            seen = [home.rounded(far.rounded(number)) for number in numbers]
            found += [compared(one, home.rounded(each)) for one in seen for each in told]
            found.append(compared(seen[0], seen[-1]))
        rests = [store.rounded(number) - number for store in self.STORES for number in numbers]
        return tuple(found + rests)

    def test_each_kind_of_numbers_and_pairs_is_there(self):
        for told in TOLD_NUMBERS:
            maker = Random(str(told))
            cells = kinds_of("number", told)
            self.assertIsNone(cells[0])
            self.assertEqual(cells[1:], sorted(set(cells[1:])))
            pairs = pairs_of_kinds("number", told)
            self.assertLessEqual({cell for pair in pairs for cell in pair}, set(cells))
            self.assertLessEqual({(None, None), (None, cells[1]), (cells[1], None)}, set(pairs))
            singles = {self.look([cell], told) for cell in cells[1:]}
            middles = [0, *told, 300, -300, 200000, -200000]
            for _ in range(60):
                number = maker.choice(middles) + maker.randint(-150, 150)
                self.assertIn(self.look([number], told), singles, (number, told))

    def test_numbers_that_are_near_one_another(self):
        for told in ([], [80]):
            pairs = [pair for pair in pairs_of_kinds("number", told) if None not in pair]
            looks = {self.look(pair, told) for pair in pairs if abs(pair[0] - pair[1]) < 25}
            maker = Random(1)
            for _ in range(150):
                one = maker.choice([0, *told, 500, -500]) + maker.randint(-120, 120)
                other = one + maker.randint(-24, 24)
                self.assertIn(self.look([one, other], told), looks, (one, other, told))

    def test_only_numbers_are_there(self):
        for told in ([10**6], [-10**6], [999990, -999990]):
            for cell in kinds_of("number", told)[1:]:
                self.assertTrue(is_cell(cell, "number"))
            for pair in pairs_of_kinds("number", told):
                self.assertTrue(all(is_cell(cell, "number") for cell in pair))


if __name__ == "__main__":
    unittest.main()
