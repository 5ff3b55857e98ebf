"""Clerks who do books job by job, without foresight (points 77 to 84)."""

from withinbooks.board_tables import ClerkTable, is_any_clerk_table, is_any_outside_plan, is_any_plan_against
from withinbooks.boards import Boards, coins_behind
from withinbooks.checks import check_book, check_count
from withinbooks.coin_games import any_clerk_table, any_plan_against, least_unseen
from withinbooks.crowds import crowd_of, is_done
from withinbooks.errors import InvalidCount, InvalidRule, InvalidTable
from withinbooks.fixed_clerks import SpoilWalk, rule_choices
from withinbooks.manuals import check_manual, struck
from withinbooks.outside_plans import any_outside_plan
from withinbooks.paths import all_jobs
from withinbooks.purses import coins_left
from withinbooks.shapes import has_manner_form, is_count
from withinbooks.walks import shortest_book

MOST_AHEAD = 2


def _check_ahead(value):
    if not is_count(value) or value > MOST_AHEAD:
        raise InvalidCount(value)


def _check_manual_and_ahead(manual, ahead):
    check_manual(manual)
    _check_ahead(ahead)


def _check_clerk_asked(manual, purse, ahead):
    check_manual(manual)
    check_count(purse)
    _check_ahead(ahead)


def could_be(manual, book):
    """The ascending list of the rooms in which somebody can be behind the jobs of a book."""
    check_manual(manual)
    check_book(book)
    return list(crowd_of(struck(manual), book))


def clerk_table(manual, purse, ahead):
    """A clerk's table for a purse, None if there is none."""
    _check_clerk_asked(manual, purse, ahead)
    return any_clerk_table(manual, purse, ahead)


def is_clerk_table(manual, purse, ahead, value):
    """Whether any object is a clerk's table for a purse."""
    _check_clerk_asked(manual, purse, ahead)
    return is_any_clerk_table(manual, purse, ahead, value)


def unseen_purse(manual, ahead):
    """The least purse for which there is a clerk's table, None if there is one for no purse."""
    _check_manual_and_ahead(manual, ahead)
    return least_unseen(manual, ahead)


def purses_ahead(manual, most):
    """The list of what unseen_purse returns for 0, 1 and so on jobs seen ahead."""
    _check_manual_and_ahead(manual, most)
    return [least_unseen(manual, ahead) for ahead in range(most + 1)]


def outside_plan(manual, ahead):
    """An outside's plan, None if there is none."""
    _check_manual_and_ahead(manual, ahead)
    return any_outside_plan(manual, ahead)


def is_outside_plan(manual, ahead, value):
    """Whether any object is an outside's plan."""
    _check_manual_and_ahead(manual, ahead)
    return is_any_outside_plan(manual, ahead, value)


def plan_against(manual, purse, ahead):
    """A plan against a purse, None if there is none."""
    _check_clerk_asked(manual, purse, ahead)
    return any_plan_against(manual, purse, ahead)


def is_plan_against(manual, purse, ahead, value):
    """Whether any object is a plan against a purse."""
    _check_clerk_asked(manual, purse, ahead)
    return is_any_plan_against(manual, purse, ahead, value)


def followed(manual, purse, ahead, table, book):
    """The way that a clerk goes by a table, None if the book cannot be done."""
    _check_clerk_asked(manual, purse, ahead)
    if not is_any_clerk_table(manual, purse, ahead, table):
        raise InvalidTable(table)
    check_book(book)
    if not is_done(manual, book):
        return None
    boards = Boards(manual, ahead)
    held = ClerkTable(boards, purse, table)
    board, coins, way = boards.first(), purse, []
    for job in book:
        manner, effect, other = [move for move in boards.moves(board, job) if held.lets(move, coins)][0]
        board, coins = other, coins_left(effect, coins, purse)
        if manner is not None:
            way.append(manner)
    return way + [row for row in boards.last_rows(board) if coins_behind(row, coins, purse) is not None][0]


def _check_rule(manual, rule):
    choices = rule_choices(manual)
    if not isinstance(rule, dict) or len(rule) != len(choices) or not all([key in choices for key in rule]):
        raise InvalidRule(rule)
    if not all([has_manner_form(manner) and manner in choices[key] for key, manner in rule.items()]):
        raise InvalidRule(rule)


def spoiling_book(manual, purse, rule):
    """A shortest book that can be done and that a clerk with a rule does not do with a purse, or None."""
    check_manual(manual)
    check_count(purse)
    _check_rule(manual, rule)
    return shortest_book(SpoilWalk(manual, purse, rule), all_jobs(manual))
