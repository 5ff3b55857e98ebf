"""Which expressions and which books may stand for one another in all places (points 70 to 76)."""

from withinbooks.checks import check_book, check_count, check_expression, check_room
from withinbooks.classes import Classes, generators_among, kind_number, made_of, parting_expression
from withinbooks.errors import InvalidBook, InvalidExpression
from withinbooks.expressions import expression_with, has_jobs_of, has_place, ledger_number
from withinbooks.ledgers import CardLedger
from withinbooks.manuals import Manual, check_manual
from withinbooks.paths import all_jobs, all_rooms
from withinbooks.shapes import has_book_form, has_card_form, has_expression_form, has_word_form, is_ascending
from withinbooks.shapes import is_count, is_tuple_of
from withinbooks.spendings import coin_jobs, least_between, least_parting
from withinbooks.tables import is_table
from withinbooks.words import new_words


def _is_open(value):
    return has_expression_form(value, True) and has_place(value)


def is_open(value):
    """Whether any object is an expression with places."""
    return _is_open(value)


def put_in(frame, expression):
    """An expression with places with another expression in each of them."""
    if not _is_open(frame):
        raise InvalidExpression(frame)
    check_expression(expression, False)
    return expression_with(frame, expression)


def _check_two_expressions(manual, one, other):
    check_manual(manual)
    jobs = all_jobs(manual)
    for expression in [one, other]:
        if not has_expression_form(expression, False) or not has_jobs_of(expression, jobs):
            raise InvalidExpression(expression)


def _class_in(classes, expression):
    return classes.class_of[ledger_number(classes.ledger, expression)]


def are_even(manual, one, other):
    """Whether two expressions are of one kind in every expression with places."""
    _check_two_expressions(manual, one, other)
    classes = Classes(manual)
    return _class_in(classes, one) == _class_in(classes, other)


def class_table(manual):
    """The class table with the least table's cards that has as few classes as can be."""
    check_manual(manual)
    return Classes(manual).cards_by_class()


def is_class_table(manual, value):
    """Whether any object is a class table of a manual."""
    check_manual(manual)
    if not isinstance(value, list) or not all([isinstance(cards, list) for cards in value]):
        return False
    held = [card for cards in value for card in cards]
    return _is_table_of(manual, held) and _are_classes(manual, value)


def _is_table_of(manual, cards):
    """Whether some objects, sorted if they are cards, are a table."""
    size = len(all_rooms(manual))
    return all([has_card_form(card, size) for card in cards]) and is_table(manual, sorted(cards))


def _are_classes(manual, value):
    """Whether the lists of cards that make up a table are classes of a class table."""
    if not all([cards and is_ascending(cards) for cards in value]):
        return False
    ledger = CardLedger(manual)
    class_of = {}
    for place, cards in enumerate(value):
        for card in cards:
            class_of[ledger.enter_told(card)] = place
    generators = generators_among(ledger, all_jobs(manual), list(class_of))
    told = {}
    for number, place in class_of.items():
        made = made_of(ledger, generators, number)
        if not all([other in class_of for other in made]):
            return False
        key = (kind_number(ledger, number), [class_of[other] for other in made])
        if told.setdefault(place, key) != key:
            return False
    return True


def parting_frame(manual, one, other):
    """An expression with places, and as few jobs as can be, that tells two expressions apart, or None."""
    _check_two_expressions(manual, one, other)
    classes = Classes(manual)
    return parting_expression(classes, _class_in(classes, one), _class_in(classes, other))


def is_parting_frame(manual, one, other, value):
    """Whether any object is an expression with places, of the manual's jobs, that tells two expressions apart."""
    _check_two_expressions(manual, one, other)
    classes = Classes(manual)
    if not _is_open(value) or not has_jobs_of(value, classes.jobs):
        return False
    ledger = classes.ledger
    kinds = [kind_number(ledger, ledger_number(ledger, expression_with(value, put))) for put in [one, other]]
    return kinds[0] != kinds[1]


def need_between(manual, book, room, goal, ahead, behind):
    """The least purse for a part between two rooms that does a book, with coins spent ahead and behind, or None."""
    check_manual(manual)
    check_book(book)
    check_room(manual, room)
    check_room(manual, goal)
    check_count(ahead)
    check_count(behind)
    return least_between(manual, book, room, goal, ahead, behind)


def _check_two_books(manual, one, other):
    check_manual(manual)
    jobs = all_jobs(manual)
    for book in [one, other]:
        if not has_book_form(book) or not book or not all([job in jobs for job in book]):
            raise InvalidBook(book)


def are_same(manual, one, other):
    """Whether two books have one need in every greater manual, whatever books stand ahead and behind."""
    _check_two_books(manual, one, other)
    return least_parting(manual, one, other) is None


def parting_spendings(manual, one, other):
    """A tuple (room, ahead, goal, behind) for which two books need unlike purses, with the fewest coins, or None."""
    _check_two_books(manual, one, other)
    return least_parting(manual, one, other)


def is_parting_spendings(manual, one, other, value):
    """Whether any object is such a tuple as parting_spendings returns."""
    _check_two_books(manual, one, other)
    if not is_tuple_of(value, 4) or not is_count(value[1]) or not is_count(value[3]):
        return False
    rooms = all_rooms(manual)
    if not all([has_word_form(room) and room in rooms for room in [value[0], value[2]]]):
        return False
    least = least_parting(manual, one, other)
    if least is None or value[1] + value[3] != least[1] + least[3]:
        return False
    room, ahead, goal, behind = value
    need = least_between(manual, one, room, goal, ahead, behind)
    return need != least_between(manual, other, room, goal, ahead, behind)


def shown_by(manual, room, ahead, goal, behind):
    """A tuple of a greater manual and books ahead and behind with which each book needs what need_between tells."""
    check_manual(manual)
    check_room(manual, room)
    check_count(ahead)
    check_room(manual, goal)
    check_count(behind)
    first, last = new_words(all_rooms(manual), 2)
    enter, leave, three, one = new_words(all_jobs(manual), 4)
    manners = [(first, enter, room, ("coins", 0)), (goal, leave, last, ("coins", 0))]
    for place in [first, last]:
        manners = manners + [(place, three, place, ("coins", 3)), (place, one, place, ("coins", 1))]
    greater = Manual(manual.manners() + manners, manual.beginnings() + [first], manual.ends() + [last])
    return (greater, coin_jobs(ahead, three, one) + [enter], [leave] + coin_jobs(behind, three, one))
