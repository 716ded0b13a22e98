"""The examples of the document, as they stand there.

They are gone through in their order, and a name that an example does not define is that of the nearest one before it.
"""

import ast
import unittest

from guardwords import errors
from tests.support import Case

LETTERS = """
>>> from guardwords.letters import compared, is_letter, kind_at, part_at, words_compared
>>> integers = ("integers",)
>>> colours = ("names", ("red", "blue"))
>>> tagged = ("pair", colours, ("maybe", integers))
>>> (is_letter(tagged, ("pair", "red", ("none",))), is_letter(tagged, ("pair", "red", 4)), is_letter(integers, True))
(True, False, False)
>>> (compared(integers, -2, 3), compared(colours, "blue", "red"), words_compared(integers, (5,), (0, 0)))
(-1, 1, -1)
>>> (kind_at(tagged, ("second", "some")), kind_at(tagged, ("some",)), part_at(("pair", "red", ("some", 7)), ("second", "some")))
(('integers',), None, 7)
>>> (part_at(("pair", "red", ("none",)), ("second", "some")), part_at(("case", 1, "red"), (0,)), part_at("red", ()))
(None, None, 'red')
>>> compared(colours, "red", "green")
raises BadLetter
"""

CONDITIONS = """
>>> from guardwords.conditions import check_condition, meets
>>> odd_red = ("and", ("first", ("is", "red")), ("second", ("some", ("mod", 2, 1))))
>>> (meets(tagged, odd_red, ("pair", "red", ("some", -3))), meets(tagged, odd_red, ("pair", "red", ("none",))))
(True, False)
>>> check_condition(tagged, ("or", ("true",), ("first", ("is", "green"))))
raises BadCondition
"""

SETS = """
>>> from guardwords.sets import common, condition_of, holds, letter_at, letters_before, letters_of, next_letter, projected, remaining, size, united
>>> letters_of(integers, ("or", ("mod", 3, 1), ("=", 2)))
('integers', (-1, (False, True, False)), (1, 2), (3, (False, True, False)))
>>> numbered = ("pair", colours, integers)
>>> some_pairs = letters_of(numbered, ("or", ("first", ("is", "red")), ("second", ("=", 0))))
>>> some_pairs[1][0]
(('names', ('red',)), ('integers', (-1, (True,)), (), (0, (True,))))
>>> some_pairs[1][1]
(('names', ('blue',)), ('integers', (-1, (False,)), (0,), (1, (False,))))
>>> evens = letters_of(integers, ("mod", 2, 0))
>>> (size(integers, evens), letter_at(integers, evens, 4), next_letter(integers, evens, 3), letters_before(integers, evens, -2))
(None, -4, 4, 2)
>>> (remaining(integers, evens), holds(integers, evens, 10))
(('integers', (-1, (True, False)), (), (0, (False, True))), True)
>>> projected(numbered, common(numbered, some_pairs, letters_of(numbered, ("first", ("is", "blue")))), ("second",))
('integers', (-1, (False,)), (0,), (1, (False,)))
>>> (letters_before(numbered, some_pairs, ("pair", "red", -2)), letters_before(numbered, some_pairs, ("pair", "blue", 5)))
(4, None)
>>> letter_at(numbered, remaining(numbered, some_pairs), 2)
('pair', 'blue', 2)
"""

EXAMPLES = (("letters", LETTERS), ("conditions", CONDITIONS), ("sets", SETS))


def questions(text):
    """The pairs of a line of an example and what stands below it."""
    told = []
    for line in text.strip().splitlines():
        if line.startswith(">>> "):
            told.append((line[4:], []))
        else:
            told[-1][1].append(line)
    return [(line, " ".join(below)) for line, below in told]


class Examples(Case):
    def check(self, line, below, names):
        if below.startswith("raises "):
            with self.refuses(getattr(errors, below[7:])):
                exec(line, names)
        elif below:
            self.same(eval(line, names), ast.literal_eval(below))
        elif isinstance(ast.parse(line).body[0], ast.Expr):
            self.assertIsNone(eval(line, names))
        else:
            exec(line, names)

    def test_examples(self):
        names = {}
        for name, text in EXAMPLES:
            for line, below in questions(text):
                with self.subTest(example=name, line=line):
                    self.check(line, below, names)

    def test_each_example_is_gone_through(self):
        counts = {name: len(questions(text)) for name, text in EXAMPLES}
        self.assertEqual(counts, {"letters": 9, "conditions": 4, "sets": 12})


if __name__ == "__main__":
    unittest.main()
