"""Expressions: the words that they mean, their derivatives, and the machines that take the same words."""

from guardwords.books import Book
from guardwords.conditions import check_conditions, is_met
from guardwords.dividing import Division
from guardwords.eliminating import expression_of
from guardwords.forming import machine_of
from guardwords.letters import check_letter, check_word
from guardwords.meaning import Meanings, first_difference
from guardwords.phrases import conditions_in, folded
from guardwords.walking import walker_of


def check_expression(kind, expression):
    """Raise BadCondition if the expression does not fit the kind."""
    check_conditions(kind, conditions_in(expression))


def means(kind, expression, word):
    """Whether the expression means the word."""
    check_expression(kind, expression)
    check_word(kind, word)
    places = folded(expression, lambda inner, rows: _places(inner, rows, word))
    return (places[0] >> len(word)) & 1 == 1


def _places(expression, rows, word):
    """For each place in the word the places to which words lead from it that the expression means.

    The places are told by the bits of a number; rows has the same for each part of the expression.
    """
    many = len(word)
    head = expression[0]
    if head == "void":
        return [0] * (many + 1)
    if head == "empty":
        return [1 << at for at in range(many + 1)]
    if head == "letter":
        return [2 << at if is_met(expression[1], letter) else 0 for at, letter in enumerate(word)] + [0]
    if head == "not":
        # All places from this one on, without those to which the part leads.
        return [((2 << many) - (1 << at)) ^ row for at, row in enumerate(rows[0])]
    if head == "or":
        return [one | other for one, other in zip(rows[0], rows[1])]
    if head == "and":
        return [one & other for one, other in zip(rows[0], rows[1])]
    if head == "then":
        return [_onward(row, rows[1]) for row in rows[0]]
    return _repeated(rows[0])


def _onward(row, rows):
    """The places to which the rows lead from the places of one row."""
    told = 0
    for at, behind in enumerate(rows):
        if (row >> at) & 1 == 1:
            told = told | behind
    return told


def _repeated(rows):
    """The places to which any number of words lead, from the last place to the first one."""
    many = len(rows)
    told = [0] * many
    for at in range(many - 1, -1, -1):
        # What leads on without letters does not lead anywhere else.
        told[at] = (1 << at) | _onward(rows[at], [0] * (at + 1) + told[at + 1:])
    return told


def derivative(kind, expression, letter):
    """The derivative of the expression by the letter."""
    check_expression(kind, expression)
    check_letter(kind, letter)
    book = Book()
    return book.told[book.derivative(book.enter(expression), letter)]


def expression_classes(kind, expression):
    """The letter sets of the classes of the expression, in the order of their first letters."""
    check_expression(kind, expression)
    division = Division(kind, conditions_in(expression))
    many = len(division.firsts)
    return tuple([division.letters_in([other == number for other in range(many)]) for number in range(many)])


def derivatives(kind, expression):
    """For each set of words that a derivative means the first word for it, and the derivative by this word."""
    check_expression(kind, expression)
    meanings = Meanings(kind, [expression])
    book = meanings.book
    number = meanings.numbers[0]
    numbers = {(): number}
    found = []
    for word in meanings.form(number).words:
        if word != ():
            # Without its last letter a first word is the first word for another set.
            numbers[word] = book.derivative(numbers[word[:-1]], word[-1])
        found.append((word, book.told[numbers[word]]))
    return tuple(found)


def to_machine(kind, expression):
    """The least form of the machines that take the words that the expression means."""
    check_expression(kind, expression)
    meanings = Meanings(kind, [expression])
    return machine_of(meanings.form(meanings.numbers[0]))


def to_expression(machine):
    """An expression that means the words that the machine takes."""
    return expression_of(walker_of(machine))


def same_meaning(kind, first, second):
    """The first word that exactly one of the expressions means, or None if they mean the same words."""
    check_expression(kind, first)
    check_expression(kind, second)
    meanings = Meanings(kind, [first, second])
    one, other = meanings.numbers
    return first_difference(meanings.form(one), meanings.form(other))
