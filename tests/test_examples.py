"""The examples of the document, as they stand there.

They are gone through in their order, and a name that an example does not define is that of the nearest one before it.
"""

import ast
import unittest

from guardwords import errors
from tests.support import Case

WORDS_OF_THE_DOCUMENT = """
>>> from guardwords.comparing import compare
>>> from guardwords.machines import takes
>>> from guardwords.solver import first_letter
>>> integers = ("integers",)
>>> even = ("mod", 2, 0)
>>> small = ("<", 0)
>>> bad = ("and", ("not", even), ("not", small))
>>> first_letter(integers, bad)
1
>>> all_good = (integers, 1, (0,), (0,), ((0, ("or", even, small), 0),))
>>> no_bad = (integers, 2, (0,), (0,), ((0, ("not", bad), 0), (0, bad, 1)))
>>> last_even = (integers, 2, (0,), (1,), ((0, ("true",), 0), (0, even, 1)))
>>> (compare(all_good, no_bad), compare(all_good, last_even), takes(last_even, (7, -3, 4)))
(None, (), True)
"""

LETTERS = """
>>> from guardwords.letters import compared, is_letter, kind_at, part_at, words_compared
>>> integers = ("integers",)
>>> colours = ("names", ("red", "blue"))
>>> tagged = ("pair", colours, ("maybe", integers))
>>> (is_letter(tagged, ("pair", "red", ("none",))), is_letter(tagged, ("pair", "red", 4)), is_letter(integers, True))
(True, False, False)
>>> (compared(integers, -2, 3), compared(colours, "blue", "red"), words_compared(integers, (5,), (0, 0)))
(-1, 1, -1)
>>> (kind_at(tagged, ("second", "some")), kind_at(tagged, ("some",)), part_at(("pair", "red", ("some", 7)), ("second", "some")))
(('integers',), None, 7)
>>> (part_at(("pair", "red", ("none",)), ("second", "some")), part_at(("case", 1, "red"), (0,)), part_at("red", ()))
(None, None, 'red')
>>> compared(colours, "red", "green")
raises BadLetter
"""

CONDITIONS = """
>>> from guardwords.conditions import check_condition, meets
>>> odd_red = ("and", ("first", ("is", "red")), ("second", ("some", ("mod", 2, 1))))
>>> (meets(tagged, odd_red, ("pair", "red", ("some", -3))), meets(tagged, odd_red, ("pair", "red", ("none",))))
(True, False)
>>> check_condition(tagged, ("or", ("true",), ("first", ("is", "green"))))
raises BadCondition
"""

SETS = """
>>> from guardwords.sets import common, condition_of, holds, letter_at, letters_before, letters_of, next_letter, projected, remaining, size, united
>>> letters_of(integers, ("or", ("mod", 3, 1), ("=", 2)))
('integers', (-1, (False, True, False)), (1, 2), (3, (False, True, False)))
>>> numbered = ("pair", colours, integers)
>>> some_pairs = letters_of(numbered, ("or", ("first", ("is", "red")), ("second", ("=", 0))))
>>> some_pairs[1][0]
(('names', ('red',)), ('integers', (-1, (True,)), (), (0, (True,))))
>>> some_pairs[1][1]
(('names', ('blue',)), ('integers', (-1, (False,)), (0,), (1, (False,))))
>>> evens = letters_of(integers, ("mod", 2, 0))
>>> (size(integers, evens), letter_at(integers, evens, 4), next_letter(integers, evens, 3), letters_before(integers, evens, -2))
(None, -4, 4, 2)
>>> (remaining(integers, evens), holds(integers, evens, 10))
(('integers', (-1, (True, False)), (), (0, (False, True))), True)
>>> projected(numbered, common(numbered, some_pairs, letters_of(numbered, ("first", ("is", "blue")))), ("second",))
('integers', (-1, (False,)), (0,), (1, (False,)))
>>> (letters_before(numbered, some_pairs, ("pair", "red", -2)), letters_before(numbered, some_pairs, ("pair", "blue", 5)))
(4, None)
>>> letter_at(numbered, remaining(numbered, some_pairs), 2)
('pair', 'blue', 2)
"""

SOLVER = """
>>> from guardwords.solver import classes, differing, first_letter, implies, together, twin
>>> even = ("mod", 2, 0)
>>> small = ("<", 0)
>>> (first_letter(integers, ("and", (">", 4), ("mod", 3, 1))), first_letter(integers, ("and", even, ("mod", 4, 1))))
(7, None)
>>> (implies(integers, ("mod", 4, 2), even), differing(integers, even, ("mod", 4, 0)), differing(integers, small, ("not", (">", -1))))
(True, 2, None)
>>> classes(integers, (even, small))[2]
((False, True), ('integers', (-1, (True, False)), (), (0, (False,))))
>>> tuple(truths for truths, letters in classes(integers, (even, small)))
((True, False), (False, False), (False, True), (True, True))
>>> (together(integers, ((">", 4), ("<", 9), even)), together(integers, ((">", 4), ("<", 9), even, ("mod", 4, 3))))
((6, None), (None, (2, 3)))
>>> (twin(integers, ("and", ("<", 5), ("mod", 3, 1)), 1000), twin(integers, ("and", ("<", 5), ("mod", 3, 1)), -1000))
(7, -7)
>>> first_letter(integers, ("is", "red"))
raises BadCondition
"""

MACHINES = """
>>> from guardwords.machines import check_machine, first_word, is_trap, states_behind, takes, trap, undetermined
>>> last_even = (integers, 2, (0,), (1,), ((0, ("true",), 0), (0, even, 1)))
>>> (states_behind(last_even, (7, -4)), takes(last_even, (7, -4)), takes(last_even, (10 ** 29 + 1,)), first_word(last_even))
((0, 1), True, False, (0,))
>>> (undetermined(last_even), trap(last_even))
(('letter', 0, 0), None)
>>> nothing = (integers, 2, (0,), (1,), ((0, small, 0), (0, ("and", even, ("mod", 4, 1)), 1)))
>>> (first_word(nothing), trap(nothing), is_trap(nothing, (0, 1)), undetermined(nothing))
(None, (0,), False, ('letter', 0, 0))
>>> parity = (integers, 2, (0,), (0,), ((0, even, 0), (0, ("not", even), 1), (1, even, 1), (1, ("not", even), 0)))
>>> (undetermined(parity), takes(parity, (1, 2, -1)))
(None, True)
>>> takes(last_even, (2, "red"))
raises BadLetter
>>> check_machine((integers, 1, (0,), (0,), ((0, ("first", even), 0),)))
raises BadCondition
"""

FORMS = """
>>> from guardwords.forms import determined, first_words, holds_against, least, partings
>>> least(last_even)[:4]
(('integers',), 2, (0,), (1,))
>>> least(last_even)[4][0]
(0, ('in', ('integers', (-1, (True, False)), (), (0, (False, True)))), 0)
>>> tuple((i, j) for i, condition, j in least(last_even)[4])
((0, 0), (0, 1), (1, 0), (1, 1))
>>> (first_words(last_even), partings(last_even))
(((), (0,)), (((),), ()))
>>> least(all_good) == least(no_bad)
True
>>> (first_words(all_good), partings(all_good), holds_against(all_good, ((2,), (3, 4)), (((),), ())))
(((), (1,)), (((),), ()), True)
>>> (determined(nothing)[1], least(nothing)[1], least(nothing)[3])
(2, 1, ())
"""

COMPARING = """
>>> from guardwords.comparing import closes, compare, links, links_close, table, within
>>> (compare(all_good, no_bad), compare(last_even, parity), within(all_good, parity), within(nothing, parity))
(None, (), (-1,), None)
>>> table(all_good, no_bad)
(((0,), (0,)), ((), (1,)), ((), ()))
>>> (closes(all_good, no_bad, (((), ()), ((), (1,)), ((0,), (0,)))), closes(all_good, no_bad, (((0,), (0,)), ((), (1,)))))
(True, False)
>>> tick = ("names", ("a",))
>>> two = (tick, 2, (0,), (0, 1), ((0, ("true",), 1), (1, ("true",), 0)))
>>> three = (tick, 3, (0,), (0, 1, 2), ((0, ("true",), 1), (1, ("true",), 2), (2, ("true",), 0)))
>>> (len(table(two, three)), links(two, three))
(6, (((0,), (0,)), ((1,), (1,)), ((0,), (2,)), ((1,), (0,))))
>>> (links_close(two, three, links(two, three)), links_close(two, three, links(two, three)[:3]))
(True, False)
>>> compare(last_even, two)
raises OtherKinds
"""

RUNS = """
>>> from guardwords.runs import first_run, split_closes, split_table, two_runs, ways
>>> (ways(last_even, (4, 6)), first_run(last_even, (4, 6)), first_run(last_even, (3,)), two_runs(last_even))
(1, (0, 0, 1), None, None)
>>> (split_table(last_even), split_closes(last_even, ((0, 1),)), split_closes(last_even, ()))
(((0, 1),), True, False)
>>> some_even = (integers, 2, (0,), (1,), ((0, ("true",), 0), (0, even, 1), (1, ("true",), 1)))
>>> (two_runs(some_even), ways(some_even, (0, 0)), first_run(some_even, (0, 0)), split_table(some_even))
((0, 0), 2, (0, 0, 1), ((0, 1), (1, 1)))
>>> split_closes(some_even, ((0, 1), (1, 1)))
False
"""

JOINING = """
>>> from guardwords.joining import backwards, both_take, followed, not_taken, one_takes, repeated
>>> one_even = (integers, 2, (0,), (1,), ((0, even, 1),))
>>> (first_word(both_take(last_even, not_taken(parity))), first_word(not_taken(one_takes(all_good, last_even))))
((1, 0), (1,))
>>> (takes(repeated(one_even), ()), takes(repeated(one_even), (2, 4)), takes(followed(last_even, one_even), (3, 2, 8)))
(True, True, True)
>>> (takes(backwards(last_even), (2, 3)), takes(backwards(last_even), (3, 2)))
(True, False)
"""

CONTINUING = """
>>> from guardwords.continuing import beginnings, each_rest, rest, some_rest, verdict
>>> (verdict(all_good, (2, -3)), verdict(all_good, (2, 3)), verdict(some_even, (5,)), verdict(some_even, (5, 6)))
(((), (1,)), (None, ()), ((0,), ()), ((), None))
>>> (takes(rest(last_even, (3,)), ()), takes(rest(last_even, (2,)), ()), first_word(rest(last_even, (3,))))
(False, True, (0,))
>>> (takes(some_rest(one_even, parity), (1,)), takes(each_rest(one_even, parity), ()), takes(each_rest(all_good, parity), ()))
(False, True, False)
>>> (takes(beginnings(one_even), ()), takes(beginnings(one_even), (2,)), takes(beginnings(one_even), (3,)))
(True, True, False)
"""

ACTIONS = """
>>> from guardwords.actions import action, actions, context, letter_classes, mergings, reset_word, turning_word
>>> from guardwords.sets import letter_at
>>> odd = ("not", even)
>>> guarded = (integers, 2, (0,), (0, 1), ((0, even, 0), (0, odd, 1), (1, ("not", small), 1)))
>>> (action(last_even, (3, 4)), action(parity, (1,)), action(guarded, ()))
((1, 1), (1, 0), (0, 1, 2))
>>> actions(last_even)
(((), (0, 1)), ((0,), (1, 1)), ((1,), (0, 0)))
>>> (context(last_even, (2,), (3,)), context(last_even, (2, 5), (3,)), context(guarded, (-2,), (2,)))
(((), ()), None, ((1,), ()))
>>> tuple(letter_at(integers, letters, 0) for letters in letter_classes(guarded))
(0, 1, -1, -2)
>>> (turning_word(parity), turning_word(last_even), turning_word(guarded))
((1,), None, None)
>>> (mergings(last_even), mergings(parity), reset_word(parity), reset_word(guarded))
((((0,),), ()), ((None,), ()), None, (1, -1))
"""

COUNTING = """
>>> from guardwords.counting import count, first_of_length, is_endless, lengths, next_word, word_at, words, words_before
>>> spelled = (colours, 2, (0,), (0, 1), ((0, ("is", "red"), 1), (1, ("true",), 0)))
>>> (count(spelled, 0), count(spelled, 3), count(last_even, 2), count(nothing, 2), is_endless(spelled), is_endless(one_even))
(1, 2, None, 0, True, True)
>>> tuple(words(spelled, many=4))
((), ('red',), ('red', 'red'), ('red', 'blue'))
>>> (word_at(last_even, 3), word_at(nothing, 0), first_of_length(last_even, 3))
((4,), None, (0, 0, 0))
>>> (next_word(spelled, ("red", "blue")), next_word(last_even, (1, 1)), words_before(spelled, ("blue", "red")), words_before(last_even, (0, 0)))
(('red', 'red', 'red'), (1, 2), 4, None)
>>> third = (tick, 3, (0,), (1,), ((0, ("true",), 1), (1, ("true",), 2), (2, ("true",), 0)))
>>> (lengths(third), lengths(one_even))
(('integers', (-1, (False,)), (), (0, (False, True, False))), ('integers', (-1, (False,)), (1,), (2, (False,))))
"""

GROWTH = """
>>> from guardwords.growth import degree, doubling
>>> letters_ab = ("names", ("a", "b"))
>>> sorted_words = (letters_ab, 2, (0,), (0, 1), ((0, ("is", "a"), 0), (0, ("is", "b"), 1), (1, ("is", "b"), 1)))
>>> (degree(sorted_words), doubling(sorted_words), degree(three), degree(nothing))
(1, None, 0, 0)
>>> (degree(spelled), doubling(spelled))
(None, ((), ('red', 'red'), ('red', 'blue'), ()))
>>> (degree(one_even), doubling(one_even), doubling(last_even))
(None, None, ((), (1,), (-1,), (0,)))
"""

EXPRESSIONS = """
>>> from guardwords.expressions import check_expression, derivative, derivatives, expression_classes, means, same_meaning, to_expression, to_machine
>>> good = ("star", ("or", ("letter", even), ("letter", small)))
>>> (means(integers, good, (2, -1)), means(integers, good, (2, 1)), to_machine(integers, good) == least(all_good))
(True, False, True)
>>> derivative(integers, ("then", ("letter", even), ("star", ("letter", small))), 4)
('then', ('empty',), ('star', ('letter', ('<', 0))))
>>> derivative(integers, ("then", ("star", ("letter", even)), ("letter", small)), 4)
('or', ('then', ('then', ('empty',), ('star', ('letter', ('mod', 2, 0)))), ('letter', ('<', 0))), ('void',))
>>> derivatives(integers, ("letter", even))
(((), ('letter', ('mod', 2, 0))), ((0,), ('empty',)), ((1,), ('void',)))
>>> (same_meaning(integers, good, ("star", ("letter", even))), same_meaning(integers, ("not", ("void",)), ("star", ("letter", ("true",)))))
((-1,), None)
>>> (len(expression_classes(integers, good)), means(integers, to_expression(last_even), (3, 4)))
(4, True)
>>> check_expression(integers, ("and", ("void",), ("letter", ("is", "a"))))
raises BadCondition
"""

EQUATIONS = """
>>> from guardwords.equations import first_failure, greatest_solution, least_solution, second_solution
>>> one_way = (((("letter", even),), ("empty",)),)
>>> open_way = (((("star", ("letter", even)),), ("empty",)),)
>>> (second_solution(integers, one_way), second_solution(integers, open_way))
(None, (0, (1,)))
>>> (same_meaning(integers, least_solution(integers, open_way)[0], ("star", ("letter", even))), first_failure(integers, one_way, (("empty",),)))
(None, (0, (0,)))
>>> (means(integers, greatest_solution(integers, open_way)[0], (1, 3)), first_failure(integers, open_way, (("not", ("void",)),)))
(True, None)
"""

TERMS = """
>>> from guardwords.conditions import meets
>>> from guardwords.solver import first_letter
>>> from guardwords.terms import before, check_term, given_letters, gives, is_plain, put_behind, there
>>> shift = ("pair", ("read", ("first",)), ("plus", ("second",), 3))
>>> inner = ("read", ("second", "some"))
>>> (gives(shift, ("pair", "red", 4)), gives(inner, ("pair", "red", ("some", 2))), gives(inner, ("pair", "red", ("none",))))
(('pair', 'red', 7), 2, None)
>>> first_letter(tagged, there(tagged, inner))
('pair', 'red', ('some', 0))
>>> small_rest = before(numbered, integers, ("minus", ("second",), 5), (">", 2))
>>> (meets(numbered, small_rest, ("pair", "red", 2)), meets(numbered, small_rest, ("pair", "red", 3)))
(True, False)
>>> (gives(put_behind(shift, ("read", ("second",))), ("pair", "blue", 1)), put_behind(("case", 0, ("read", ())), ("read", (1,))))
(4, None)
>>> stamped = ("pair", ("always", "red"), ("plus", (), 1))
>>> (is_plain(shift), is_plain(stamped), given_letters(integers, numbered, stamped, even)[1][0][1])
(False, True, ('integers', (-1, (True, False)), (), (0, (False, True))))
>>> check_term(integers, numbered, ("pair", ("read", ()), ("read", ())))
raises BadTerm
"""

PARTING = """
>>> from guardwords.parting import constant, part
>>> doubled = ("pair", integers, integers)
>>> (part(integers, ("true",), integers, ("read", ()), ("minus", (), 0)), part(integers, ("=", 0), integers, ("read", ()), ("minus", (), 0)))
(1, None)
>>> part(doubled, ("true",), integers, ("read", ("first",)), ("read", ("second",)))
('pair', 0, 1)
>>> part(doubled, ("second", ("=", 0)), integers, ("read", ("first",)), ("plus", ("second",), 0))
('pair', 1, 0)
>>> (constant(integers, ("=", 4), integers, ("plus", (), 1)), constant(integers, even, integers, ("plus", (), 1)), constant(integers, ("false",), integers, ("always", 3)))
(5, None, None)
"""

TRANSLATIONS = """
>>> from guardwords.translations import behind, check_translation, domain, image, inverse, restricted, results, source
>>> marked = (integers, numbered, 2, (0,), ((0, ()), (1, (("pair", "blue", 0),))), ((0, even, (stamped,), 0), (0, odd, (), 1)))
>>> (results(marked, (4,)), results(marked, (4, 3)), results(marked, (3, 4)))
(((('pair', 'red', 5),),), ((('pair', 'red', 5), ('pair', 'blue', 0)),), ())
>>> (takes(domain(marked), (4, 3)), takes(domain(marked), (3, 4)), results(restricted(marked, last_even), (4, 3)))
(True, False, ())
>>> seconds = (numbered, integers, 1, (0,), ((0, ()),), ((0, ("true",), (("read", ("second",)),), 0),))
>>> (results(behind(marked, seconds), (4, -2, 1)), first_word(inverse(seconds, last_even)))
(((5, -1, 0),), (('pair', 'red', 0),))
>>> (takes(image(marked, last_even), (("pair", "red", 5),)), takes(image(marked, last_even), (("pair", "red", 4),)), source(marked, last_even, (("pair", "red", 5),)))
(True, False, (4,))
>>> twin_letters = (integers, integers, 1, (0,), ((0, ()),), ((0, ("true",), (("read", ()), ("read", ())), 0),))
>>> image(twin_letters, last_even)
raises NotPlain
>>> check_translation((tagged, integers, 1, (0,), ((0, ()),), ((0, ("first", ("is", "red")), (inner,), 0),)))
raises Unread
"""

AGREEMENT = """
>>> from guardwords.agreement import check_delays, delays, double_steps, ends_together
>>> late = (integers, integers, 2, (0,), ((1, (7,)),), ((0, ("=", 7), (), 1), (1, ("=", 7), (("read", ()),), 1)))
>>> soon = (integers, integers, 2, (0,), ((1, ()),), ((0, even, (("read", ()),), 1), (0, odd, (("always", 7),), 1), (1, ("true",), (("read", ()),), 1)))
>>> (results(late, (7, 7)), results(soon, (7, 7)), double_steps(late, soon, 0, 0), ends_together(late, soon, 0, 0), ends_together(late, soon, 0, 1))
(((7, 7),), ((7, 7),), ((0, 1, 7),), (7,), (7,))
>>> delays(late, soon)
(((0, 0, (0, ())), (1, 1, (1, (7,)))), ())
>>> (check_delays(late, soon, (((1, 1, (1, (7,))), (0, 0, (0, ()))), ())), check_delays(late, soon, (((0, 0, (0, ())),), ((1, 1),))))
(True, False)
>>> held = (integers, integers, 2, (0,), ((1, ()),), ((0, ("true",), (), 1), (1, even, (("read", ()),), 1)))
>>> evens_only = (integers, integers, 1, (0,), ((0, ()),), ((0, even, (("read", ()),), 0),))
>>> (delays(held, held), delays(held, soon), delays(late, evens_only))
((((0, 0, (0, ())), (1, 1, (0, ()))), ()), None, ((), ((0, 0),)))
"""

DIFFERENCES = """
>>> from guardwords.differences import disagreement, same, second_result
>>> (disagreement(late, soon), disagreement(held, soon), second_result(held), same(late, soon))
(None, (0,), None, (0,))
>>> guess = (integers, integers, 1, (0,), ((0, ()),), ((0, even, (("read", ()),), 0), (0, (">", 3), (("always", 4),), 0)))
>>> (second_result(guess), results(guess, (6,)), disagreement(guess, guess))
((6,), ((4,), (6,)), (6,))
>>> same(late, guess)
raises NotSingle
"""

LEADING = """
>>> from guardwords.leading import check_lead, lead_table, leads, safe
>>> odd_seconds = (numbered, 1, (0,), (0,), ((0, ("second", odd), 0),))
>>> (leads(marked, last_even, odd_seconds), leads(marked, parity, odd_seconds), lead_table(marked, last_even, odd_seconds))
(None, None, ((0, 0, (0,)), (0, 1, (0,)), (1, 0, (0,))))
>>> (leads(marked, one_even, odd_seconds), leads(marked, not_taken(parity), odd_seconds), takes(safe(marked, odd_seconds), (2, 3)))
(None, (1,), False)
>>> check_lead(marked, last_even, odd_seconds, ((0, 0, (0,)), (0, 1, (0,))))
False
"""

WRITING = """
>>> from guardwords.writing import certain, doubt, written
>>> (certain(late, ()), certain(late, (7, 7)), certain(late, (3,)), certain(soon, ()), certain(soon, (3,)))
((7,), (7, 7), None, (), (7,))
>>> (doubt(soon, ()), doubt(soon, (3,)))
((((0,), (0,)), ((1,), (7,))), (((3,), (7,)), None))
>>> (tuple(written(late, (7, 7))), tuple(written(late, (7, 3))))
(((7,), (), (7,)), ((7,), ()))
"""

DESKS = """
>>> from guardwords.desks import Desk
>>> desk = Desk()
>>> desk.put("good", ("machine", all_good))
>>> desk.put("rest", ("other", "good"))
>>> desk.put("mark", ("translation", marked))
>>> desk.put("kept", ("restricted", "mark", "good"))
>>> (desk.least("rest") == least(not_taken(all_good)), desk.role("kept")[3], desk.weight("kept"), desk.users("good"))
(True, True, 3, ('kept', 'rest'))
>>> (desk.results("kept", (4, 3)), desk.results("kept", (4, -3)), desk.takes("rest", (4, 3)))
((), ((('pair', 'red', 5), ('pair', 'blue', 0)),), True)
>>> desk.put("good", ("expression", integers, ("star", ("letter", even))))
>>> (desk.compare("good", "rest"), desk.results("kept", (4, -3)), desk.least("good") == least(all_good))
((), (), False)
>>> desk.put("good", ("domain", "kept"))
raises Circle
>>> desk.put("good", ("translation", marked))
raises InUse
>>> desk.put("deep", ("both", "rest", "mark"))
raises WrongUse
>>> (desk.undo(many=2), tuple(desk), len(desk), "kept" in desk)
(('good', 'kept'), ('good', 'mark', 'rest'), 3, False)
>>> (desk.log[2][:2], desk.takes("good", (-3,)))
(('put', 'mark'), True)
>>> desk.drop("good")
raises InUse
"""

EXAMPLES = (("words_of_the_document", WORDS_OF_THE_DOCUMENT),
            ("letters", LETTERS),
            ("conditions", CONDITIONS),
            ("sets", SETS),
            ("solver", SOLVER),
            ("machines", MACHINES),
            ("forms", FORMS),
            ("comparing", COMPARING),
            ("runs", RUNS),
            ("joining", JOINING),
            ("continuing", CONTINUING),
            ("actions", ACTIONS),
            ("counting", COUNTING),
            ("growth", GROWTH),
            ("expressions", EXPRESSIONS),
            ("equations", EQUATIONS),
            ("terms", TERMS),
            ("parting", PARTING),
            ("translations", TRANSLATIONS),
            ("agreement", AGREEMENT),
            ("differences", DIFFERENCES),
            ("leading", LEADING),
            ("writing", WRITING),
            ("desks", DESKS))


def questions(text):
    """The pairs of a line of an example and what stands below it."""
    told = []
    for line in text.strip().splitlines():
        if line.startswith(">>> "):
            told.append((line[4:], []))
        else:
            told[-1][1].append(line)
    return [(line, " ".join(below)) for line, below in told]


class Examples(Case):
    def check(self, line, below, names):
        if below.startswith("raises "):
            with self.refuses(getattr(errors, below[7:])):
                exec(line, names)
        elif below:
            self.same(eval(line, names), ast.literal_eval(below))
        elif isinstance(ast.parse(line).body[0], ast.Expr):
            self.assertIsNone(eval(line, names))
        else:
            exec(line, names)

    def test_examples(self):
        names = {}
        for name, text in EXAMPLES:
            for line, below in questions(text):
                with self.subTest(example=name, line=line):
                    self.check(line, below, names)

    def test_each_example_is_gone_through(self):
        counts = {name: len(questions(text)) for name, text in EXAMPLES}
        self.assertEqual(counts, {
            "words_of_the_document": 12, "letters": 9, "conditions": 4, "sets": 12, "solver": 10, "machines": 10, "forms": 8,
            "comparing": 10, "runs": 6, "joining": 5, "continuing": 5, "actions": 10, "counting": 8, "growth": 6,
            "expressions": 9, "equations": 6, "terms": 13, "parting": 6, "translations": 10, "agreement": 9,
            "differences": 5, "leading": 5, "writing": 4, "desks": 16,
        })


if __name__ == "__main__":
    unittest.main()
