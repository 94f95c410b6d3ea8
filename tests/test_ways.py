"""Promises [5] to [8]: the ways of a store."""

import inspect
import unittest
from itertools import combinations, product

from sentparts.errors import InvalidText, InvalidWays
from sentparts.tables import Table
from sentparts.ways import Ways
from tests.values import CHOICES, all_ways, any_values, is_among

NAMES = list(CHOICES)
DEFAULTS = {
    "case": "exact", "blanks": "kept", "empty": "text", "lacking": "unknown", "last": False, "unit": 1, "halves": "even"
}
OTHERS = {
    "case": "folded", "blanks": "dropped", "empty": "lacks", "lacking": "alike", "last": True, "unit": 10, "halves": "cut"
}
TEXTS = ["", " ", "   ", " " * 10, "a", "A", "a ", "A ", "a  ", "aB", "AB", "ab", "Ab ", "b", "B", "Z", "z", "aBcDeFgHiJ"]


def rules_of(ways):
    return {name: getattr(ways, name) for name in NAMES}


class Making(unittest.TestCase):
    def assert_invalid(self, word, make):
        with self.assertRaises(InvalidWays) as caught:
            make()
        self.assertEqual(caught.exception.word, word)

    def test_defaults(self):
        self.assertEqual(rules_of(Ways()), DEFAULTS)
        self.assertIs(Ways().last, False)

    def test_each_right_choice_is_kept_by_place_and_by_name(self):
        for told in product(*CHOICES.values()):
            by_place = rules_of(Ways(*told))
            by_name = rules_of(Ways(**dict(zip(NAMES, told))))
            self.assertEqual(list(by_place.values()), list(told))
            self.assertEqual(by_name, by_place)
            self.assertIs(by_place["last"], told[4])

    def test_parameters(self):
        parameters = inspect.signature(Ways).parameters
        self.assertEqual(list(parameters), NAMES)
        self.assertEqual({name: each.default for name, each in parameters.items()}, DEFAULTS)

    def test_each_wrong_value_alone(self):
        for name, choices in CHOICES.items():
            for value in any_values():
                with self.subTest(name, value=str(value)[:20] if not isinstance(value, int) else value.__class__):
                    if is_among(value, choices):
                        self.assertEqual(rules_of(Ways(**{name: value})), {**DEFAULTS, name: value})
                    else:
                        self.assert_invalid(name, lambda: Ways(**{name: value}))

    def test_the_choices_of_one_rule_are_wrong_for_another(self):
        for name, choices in CHOICES.items():
            for other in NAMES:
                for value in CHOICES[other]:
                    if not is_among(value, choices):
                        self.assert_invalid(name, lambda: Ways(**{name: value}))

    def test_bool_for_integer_and_integer_for_bool(self):
        self.assert_invalid("unit", lambda: Ways(unit=True))
        self.assert_invalid("unit", lambda: Ways(unit=False))
        self.assert_invalid("last", lambda: Ways(last=0))
        self.assert_invalid("last", lambda: Ways(last=1))

    def test_units_near_to_the_right_ones(self):
        for unit in [0, -1, -2, -5, -10, 3, 4, 6, 7, 8, 9, 11, 20, 100]:
            self.assert_invalid("unit", lambda: Ways(unit=unit))

    def test_words_near_to_the_right_ones(self):
        for name, choices in CHOICES.items():
            for choice in choices:
                if isinstance(choice, str):
                    for near in [choice.upper(), choice.title(), choice[:-1], choice + " ", " " + choice, choice + "s"]:
                        self.assert_invalid(name, lambda: Ways(**{name: near}))

    def test_the_first_wrong_rule_is_told(self):
        for count in range(1, 8):
            for wrong in combinations(NAMES, count):
                for value in (None, [], "?", -1, Ways()):
                    told = {name: value for name in reversed(wrong)}
                    self.assert_invalid(wrong[0], lambda: Ways(**told))
                    self.assert_invalid(wrong[0], lambda: Ways().but(**told))


class But(unittest.TestCase):
    def test_each_rule_alone(self):
        for ways in (Ways(), Ways(**OTHERS)):
            for name, choices in CHOICES.items():
                for choice in choices:
                    with self.subTest(name, choice=choice):
                        self.assertEqual(rules_of(ways.but(**{name: choice})), {**rules_of(ways), name: choice})

    def test_some_and_all_rules(self):
        for count in range(8):
            for names in combinations(NAMES, count):
                told = {name: OTHERS[name] for name in names}
                ways = Ways(halves="up", unit=5)
                self.assertEqual(rules_of(ways.but(**told)), {**rules_of(ways), **told})
                self.assertEqual(rules_of(ways), {**DEFAULTS, "halves": "up", "unit": 5})

    def test_none_passed_is_a_wrong_rule(self):
        for name in NAMES:
            with self.assertRaises(InvalidWays) as caught:
                Ways().but(**{name: None})
            self.assertEqual(caught.exception.word, name)

    def test_wrong_rules(self):
        ways = Ways(**OTHERS)
        for name, choices in CHOICES.items():
            for value in any_values():
                if not is_among(value, choices):
                    with self.assertRaises(InvalidWays) as caught:
                        ways.but(**{name: value})
                    self.assertEqual(caught.exception.word, name)
        self.assertEqual(rules_of(ways), OTHERS)

    def test_right_rules_before_a_wrong_one(self):
        with self.assertRaises(InvalidWays) as caught:
            Ways().but(halves="odd", case="folded", unit=True, last=True)
        self.assertEqual(caught.exception.word, "unit")

    def test_its_parameters_are_keyword_only(self):
        parameters = list(inspect.signature(Ways.but).parameters.values())[1:]
        self.assertEqual([each.name for each in parameters], NAMES)
        self.assertEqual({each.kind for each in parameters}, {inspect.Parameter.KEYWORD_ONLY})
        with self.assertRaises(TypeError):
            Ways().but("folded")


class Comparing(unittest.TestCase):
    def test_equal_if_all_seven_are(self):
        everything = [rules_of(ways) for ways in all_ways()]
        for ways in (Ways(), Ways(**OTHERS), Ways(lacking="unlike", unit=2)):
            for rules in everything:
                self.assertIs(ways == Ways(**rules), rules_of(ways) == rules)
                self.assertIs(ways != Ways(**rules), rules_of(ways) != rules)

    def test_equal_to_nothing_of_another_class(self):
        for value in any_values():
            if not isinstance(value, Ways):
                self.assertIs(Ways() == value, False)
                self.assertIs(value == Ways(), False)
                self.assertIs(Ways() != value, True)
        self.assertIs(Ways() == str(Ways()), False)
        self.assertIs(Ways() == tuple(DEFAULTS.values()), False)


class Texts(unittest.TestCase):
    def assert_unreadable(self, text):
        with self.subTest(text):
            with self.assertRaises(InvalidText) as caught:
                Ways.read(text)
            self.assertEqual(caught.exception.at, 0)

    def test_text(self):
        self.assertEqual(str(Ways()), "exact kept text unknown first 1 even")
        self.assertEqual(str(Ways(**OTHERS)), "folded dropped lacks alike last 10 cut")
        self.assertEqual(str(Ways(lacking="unlike", unit=5, halves="up")), "exact kept text unlike first 5 up")

    def test_each_form_is_read(self):
        words = [*list(CHOICES.values())[:4], ["first", "last"], ["1", "2", "5", "10"], CHOICES["halves"]]
        for ways, told in zip(all_ways(), product(*words), strict=True):
            text = " ".join(told)
            self.assertEqual(str(ways), text)
            self.assertEqual(rules_of(Ways.read(text)), rules_of(ways))
            self.assertIs(Ways.read(text).last, ways.last)
            self.assertIsInstance(Ways.read(text), Ways)

    def test_by_name(self):
        self.assertEqual(Ways.read(text="exact kept text unknown last 1 even"), Ways(last=True))

    def test_strings_that_are_near(self):
        words = "exact kept text unknown first 1 even".split(" ")
        self.assert_unreadable("")
        self.assert_unreadable(" ")
        for at, word in enumerate(words):
            wrong = [word + " ", " " + word, "", word + "x", word + "\n", "\n" + word, word + " " + word]
            for near in [*wrong, "True", "False", "0", "01", "+1", "-1", "1.0", "3", "20", "\uff11", "none", "-"]:
                self.assert_unreadable(" ".join([*words[:at], near, *words[at + 1:]]))
            if word != "1":
                self.assert_unreadable(" ".join([*words[:at], word.upper(), *words[at + 1:]]))
            self.assert_unreadable(" ".join(words[:at] + words[at + 1:]))
        self.assert_unreadable("\t".join(words))
        self.assert_unreadable("\n".join(words))
        self.assert_unreadable(", ".join(words))
        self.assert_unreadable(" ".join(reversed(words)))
        self.assert_unreadable(" ".join(words + words))

    def test_words_at_the_place_of_others(self):
        words = "exact kept text unknown first 1 even".split(" ")
        for at, word in enumerate(words):
            for other in range(7):
                if other != at:
                    self.assert_unreadable(" ".join([*words[:other], word, *words[other + 1:]]))


class Rounding(unittest.TestCase):
    def multiple(self, number, unit, halves):
        """The multiple, found by looking at all that are near."""
        times = number // unit
        near = [(times + step) * unit for step in range(-2, 4)]
        if halves == "cut":
            near = [each for each in near if abs(each) <= abs(number)]
        least = min(abs(each - number) for each in near)
        best = [each for each in near if abs(each - number) == least]
        if halves == "up":
            return max(best)
        if halves == "even" and len(best) > 1:
            best = [each for each in best if each // unit % 2 == 0]
        self.assertEqual(len(best), 1)
        return best[0]

    def test_all_units_and_halves(self):
        numbers = [*range(-62, 63), *range(-10**6, -10**6 + 30), *range(10**6 - 29, 10**6 + 1)]
        for unit, halves in product(CHOICES["unit"], CHOICES["halves"]):
            ways = Ways(unit=unit, halves=halves)
            for number in numbers:
                with self.subTest(unit=unit, halves=halves, number=number):
                    self.assertEqual(ways.rounded(number), self.multiple(number, unit, halves))
                    self.assertIs(ways.rounded(number).__class__, int)

    def test_midway_for_ten(self):
        numbers = [-25, -15, -5, 5, 15, 25]
        found = {halves: [Ways(unit=10, halves=halves).rounded(n) for n in numbers] for halves in CHOICES["halves"]}
        self.assertEqual(found["up"], [-20, -10, 0, 10, 20, 30])
        self.assertEqual(found["even"], [-20, -20, 0, 0, 20, 20])
        self.assertEqual(found["cut"], [-20, -10, 0, 0, 10, 20])

    def test_midway_for_two(self):
        numbers = [-3, -1, 0, 1, 3, 5]
        found = {halves: [Ways(unit=2, halves=halves).rounded(n) for n in numbers] for halves in CHOICES["halves"]}
        self.assertEqual(found["up"], [-2, 0, 0, 2, 4, 6])
        self.assertEqual(found["even"], [-4, 0, 0, 0, 4, 4])
        self.assertEqual(found["cut"], [-2, 0, 0, 0, 2, 4])

    def test_what_is_not_midway(self):
        numbers = [-19, -16, -14, -11, -9, -6, -4, -1, 1, 4, 6, 9, 11, 14, 16, 19]
        nearest = [-20, -20, -10, -10, -10, -10, 0, 0, 0, 0, 10, 10, 10, 10, 20, 20]
        inward = [-10, -10, -10, -10, 0, 0, 0, 0, 0, 0, 0, 0, 10, 10, 10, 10]
        self.assertEqual([Ways(unit=10, halves="up").rounded(n) for n in numbers], nearest)
        self.assertEqual([Ways(unit=10, halves="even").rounded(n) for n in numbers], nearest)
        self.assertEqual([Ways(unit=10, halves="cut").rounded(n) for n in numbers], inward)

    def test_the_other_rules_do_not_count(self):
        for ways in all_ways():
            plain = Ways(unit=ways.unit, halves=ways.halves)
            for number in (-15, -7, -3, 0, 3, 7, 15):
                self.assertEqual(ways.rounded(number=number), plain.rounded(number))


class Seeing(unittest.TestCase):
    def expected(self, ways, cell):
        if cell is None:
            return None
        if isinstance(cell, int):
            return ways.rounded(cell)
        while ways.blanks == "dropped" and cell[-1:] == " ":
            cell = cell[:-1]
        if ways.case == "folded":
            cell = "".join(sign.lower() for sign in cell)
        return None if cell == "" and ways.empty == "lacks" else cell

    def test_all_ways(self):
        for ways in all_ways():
            for cell in [None, *TEXTS, -15, -1, 0, 1, 5, 10**6]:
                with self.subTest(ways=str(ways), cell=cell):
                    self.assertEqual(ways.seen(cell), self.expected(ways, cell))

    def test_texts(self):
        self.assertEqual([Ways().seen(text) for text in TEXTS], TEXTS)
        cells = ["", "  ", "Ab  ", "aB"]
        self.assertEqual([Ways(case="folded").seen(cell) for cell in cells], ["", "  ", "ab  ", "ab"])
        self.assertEqual([Ways(blanks="dropped").seen(cell) for cell in cells], ["", "", "Ab", "aB"])
        self.assertEqual([Ways(empty="lacks").seen(cell) for cell in cells], [None, "  ", "Ab  ", "aB"])
        both = Ways(blanks="dropped", empty="lacks")
        self.assertEqual([both.seen(cell) for cell in cells], [None, None, "Ab", "aB"])
        self.assertEqual([both.but(case="folded").seen(cell) for cell in cells], [None, None, "ab", "ab"])

    def test_numbers(self):
        self.assertEqual([Ways().seen(number) for number in (-7, 0, 7)], [-7, 0, 7])
        self.assertEqual([Ways(unit=5).seen(cell=number) for number in (-7, 0, 7, 8)], [-5, 0, 5, 10])
        self.assertEqual(Ways(empty="lacks").seen(0), 0)

    def test_none(self):
        self.assertEqual({ways.seen(None) for ways in all_ways()}, {None})


class Meeting(unittest.TestCase):
    """Two cells at a store."""

    def pairs(self):
        texts = [None, *TEXTS]
        numbers = [None, -10**6, -15, -11, -10, -6, -5, -1, 0, 1, 2, 3, 5, 6, 14, 15, 16, 25, 10**6]
        return [*product(texts, texts), *product(numbers, numbers)]

    def rank(self, ways, cell):
        seen = ways.seen(cell)
        if seen is None:
            return (2 if ways.last else 0, 0)
        return (1, seen)

    def test_alike(self):
        for ways in all_ways():
            for one, other in self.pairs():
                self.assertIs(ways.alike(one, other), self.rank(ways, one) == self.rank(ways, other))

    def test_ahead(self):
        for ways in all_ways():
            for one, other in self.pairs():
                self.assertIs(ways.ahead(one, other), self.rank(ways, one) < self.rank(ways, other))

    def assert_order(self, ways, groups):
        """Cells of one group are alike, and ahead of those of later groups."""
        told = [(at, cell) for at, group in enumerate(groups) for cell in group]
        for (at, one), (behind, other) in product(told, told):
            with self.subTest(ways=str(ways), one=one, other=other):
                self.assertIs(ways.alike(one=one, other=other), at == behind)
                self.assertIs(ways.ahead(one=one, other=other), at < behind)

    def test_orders_of_texts(self):
        self.assert_order(Ways(), [[None], [""], [" "], ["B"], ["a"], ["a "], ["ab"], ["b"]])
        self.assert_order(Ways(case="folded"), [[None], [""], [" "], ["a", "A"], ["a ", "A "], ["ab", "aB"], ["B", "b"]])
        self.assert_order(Ways(blanks="dropped"), [[None], ["", " ", "  "], ["B", "B "], ["a", "a "], ["ab"]])
        self.assert_order(Ways(empty="lacks"), [[None, ""], [" "], ["B"], ["a"]])
        self.assert_order(Ways(empty="lacks", blanks="dropped"), [[None, "", " "], ["B"], ["a", "a  "]])
        self.assert_order(Ways(last=True), [[""], [" "], ["B"], ["a"], [None]])
        self.assert_order(Ways(last=True, empty="lacks", blanks="dropped"), [["B", "B "], ["a"], [None, "", "  "]])

    def test_orders_of_numbers(self):
        self.assert_order(Ways(), [[None], [-10], [-9], [-1], [0], [1], [9], [10]])
        self.assert_order(Ways(unit=10), [[None], [-20, -15], [-10, -6], [-5, 0, 5], [6, 14], [15, 25]])
        self.assert_order(Ways(unit=10, halves="up", last=True), [[-10, -15], [-5, 0, 4], [5, 14], [15], [None]])
        self.assert_order(Ways(unit=10, halves="cut"), [[None], [-10, -19], [-9, 0, 9], [10, 19]])

    def test_how_tests_take_lacking_cells_does_not_count(self):
        for lacking in CHOICES["lacking"]:
            self.assert_order(Ways(lacking=lacking, empty="lacks"), [[None, ""], ["a"]])


if __name__ == "__main__":
    unittest.main()
