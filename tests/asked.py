"""Every function of the interface that has landed, by module, with its arguments."""

from tests.arguments import (
    ABOVE_PURSE, ACTION, AHEAD, AT, BEGINNINGS, BEHIND, BOOK, BOOK_TEXT, CALM, CARD, CARD_PAIRS, CARDS, CHANGE, CHANGE_FORM,
    CHANGE_TEXT, CHANGES, CLERK_PURSE, CLERK_TABLE, EDITIONS, EFFECT, ELDER, ELDER_CALM, ENDS, ENTERED, EXPRESSION,
    EXPRESSION_TEXT, FILLING, FRAME, FULL, FULL_ONE, GOAL, GROWING, HOUSE, HOUSE_CHANGES, HOUSE_PURSE, JOB, LEAST_CARD,
    LEFT, LOG, LOT_OF_JOBS, LOW_PURSE, MANNER, MANNERS, MANUAL, MANUAL_TEXT, MANUALS, MANY, MARK, MENDED_BOOK, MENDING,
    MOST_AHEAD, MOST_PURSE, MOST_UNLIKE, MOVES, NEWER, NUMBER, ONE, ONE_CARD, OPEN_EXPRESSION, OTHER, OTHER_BOOK,
    OTHER_CARD, OTHER_EFFECT, OTHER_EXPRESSION, OTHER_MARK, OTHER_ROOM, OWN_BOOK, OWN_EXPRESSION, PAIRS_TEXT, PLACES,
    PLAYED, PURSE, REST_PURSE, ROOM, RULE, SCRIPT, SCRIPT_TEXT, SECOND_PURSE, SEEN_AHEAD, SIZE, SPENDING, SPENT_AHEAD,
    SPENT_BEHIND, SPOT, STEP_PURSE, STOPS, STRAY, TABLE_TEXT, VALUE, WAY, WIDER, WRITING_NUMBER)
from withinbooks import (
    agains, blame, books, bounds, cards, ceilings, clerks, cutting, doing, exchange, house, made, manuals, mending, papers,
    rests, scripts, tables, within)

FUNCTIONS = {
    "manuals": {
        "is_word": [VALUE], "is_effect": [VALUE], "is_manner": [VALUE],
        "worth_at": [EFFECT, AHEAD, BEHIND], "beats": [EFFECT, OTHER_EFFECT],
        "parting_sides": [EFFECT, OTHER_EFFECT], "are_parting_sides": [EFFECT, OTHER_EFFECT, VALUE],
        "Manual": [MANNERS, BEGINNINGS, ENDS], "rooms_of": [MANUAL], "jobs_of": [MANUAL],
        "manners_at": [MANUAL, ROOM, JOB], "changed": [MANUAL, CHANGE], "changed_by": [MANUAL, CHANGES],
        "told_changes": [ELDER, NEWER], "are_changes": [ELDER, NEWER, VALUE], "struck": [MANUAL],
        "trimmed": [MANUAL], "used_way": [MANUAL, MANNER], "is_used_way": [MANUAL, MANNER, VALUE],
        "lean": [MANUAL], "cover_of": [ELDER, NEWER], "is_cover": [ELDER, NEWER, VALUE], "is_covered": [ELDER, NEWER],
    },
    "books": {
        "is_book": [VALUE], "is_way": [MANUAL, BOOK, VALUE], "stretches": [MANUAL, WAY], "need_of": [MANUAL, BOOK],
        "least_way": [MANUAL, BOOK], "is_least_way": [MANUAL, BOOK, VALUE], "paper_of": [MANUAL, BOOK, LOW_PURSE],
        "is_paper": [MANUAL, BOOK, PURSE, VALUE], "dry_at": [MANUAL, BOOK, PURSE],
        "fewest_fills": [MANUAL, BOOK, PURSE], "few_way": [MANUAL, BOOK, PURSE],
        "is_few_way": [MANUAL, BOOK, PURSE, VALUE],
    },
    "doing": {
        "does": [MANUAL, BOOK], "rooms_after": [MANUAL, BOOK], "shortest_done": [MANUAL],
        "is_shortest_done": [MANUAL, VALUE], "missed": [ELDER, NEWER], "is_missed": [ELDER, NEWER, VALUE],
        "do_alike": [ONE, OTHER], "doing_table": [ELDER, NEWER], "is_doing_table": [ELDER, NEWER, VALUE],
        "many_done": [MANUAL, SIZE], "done_book": [MANUAL, SIZE, NUMBER], "done_place": [MANUAL, BOOK],
        "growth": [MANUAL],
    },
    "cards": {
        "card_of": [MANUAL, BOOK], "cards_behind": [MANUAL, ONE_CARD, OTHER_CARD], "is_better": [MARK, OTHER_MARK],
        "is_card": [MANUAL, VALUE], "is_best_part": [MANUAL, BOOK, ROOM, OTHER_ROOM, VALUE],
        "marks_behind": [MARK, OTHER_MARK], "best_part": [MANUAL, BOOK, ROOM, OTHER_ROOM], "value_of": [MANUAL, CARD],
    },
    "agains": {
        "again": [MANUAL, CARD], "expression_card": [MANUAL, EXPRESSION], "is_expression": [VALUE],
        "is_steady": [MANUAL, CARD], "jobs_in": [OPEN_EXPRESSION], "kind_of": [MANUAL, EXPRESSION],
        "nesting": [OPEN_EXPRESSION], "shows_growth": [MANUAL, EXPRESSION, WRITING_NUMBER],
        "steady_power": [MANUAL, CARD], "written": [MANUALS, EXPRESSION, WRITING_NUMBER],
        "written_size": [MANUALS, EXPRESSION, WRITING_NUMBER],
    },
    "tables": {
        "calm_table": [MANUAL], "expression_for": [MANUAL, LEAST_CARD], "growing": [MANUAL], "growth_nesting": [MANUAL],
        "is_calm_table": [MANUAL, VALUE], "is_expression_for": [MANUAL, LEAST_CARD, VALUE],
        "is_growing": [MANUAL, VALUE], "is_table": [MANUAL, VALUE], "least_table": [MANUAL], "one_purse": [MANUAL],
        "table_growth": [MANUAL],
    },
    "rests": {
        "harder_book": [MANUAL, REST_PURSE], "hardest_book": [MANUAL], "is_harder_book": [MANUAL, REST_PURSE, VALUE],
        "is_hardest_book": [MANUAL, VALUE], "is_rest_table": [MANUAL, REST_PURSE, VALUE], "least_purse": [MANUAL],
        "rest_list": [MANUAL, REST_PURSE], "rest_table": [MANUAL, REST_PURSE],
        "rests_behind": [MANUAL, REST_PURSE, LEFT, JOB], "rests_of": [MANUAL, REST_PURSE, BOOK],
    },
    "ceilings": {
        "book_above": [MANUAL, GROWING, ABOVE_PURSE], "ceiling": [MANUAL, EXPRESSION],
        "is_book_above": [MANUAL, GROWING, ABOVE_PURSE, VALUE], "is_book_of": [MANUAL, EXPRESSION, BOOK],
        "is_top_book": [MANUAL, EXPRESSION, VALUE], "top_book": [MANUAL, EXPRESSION],
    },
    "within": {
        "least_pairs": [ELDER, NEWER], "is_pair_table": [ELDER, NEWER, VALUE], "bad_pairs": [ELDER, STRAY],
        "is_within": [ELDER, NEWER], "escape": [ELDER, STRAY], "escape_size": [ELDER, STRAY],
        "is_escape": [ELDER, STRAY, VALUE], "are_alike": [ONE, OTHER], "freed": [MANUAL], "within_along": [EDITIONS],
    },
    "bounds": {
        "unserved_book": [ELDER, STRAY, REST_PURSE, SECOND_PURSE],
        "is_unserved_book": [ELDER, STRAY, REST_PURSE, SECOND_PURSE, VALUE], "bound_at": [ELDER, NEWER, REST_PURSE],
        "hardest_at": [ELDER, NEWER, REST_PURSE], "is_hardest_at": [ELDER, NEWER, REST_PURSE, VALUE],
        "outrun": [ELDER, STRAY, STEP_PURSE], "is_outrun": [ELDER, STRAY, STEP_PURSE, VALUE],
        "never_more": [ELDER_CALM, NEWER], "more_book": [ELDER_CALM, STRAY], "is_more_book": [ELDER_CALM, STRAY, VALUE],
    },
    "blame": {
        "over_jobs": [MANUAL, LOT_OF_JOBS], "blamed_jobs": [ELDER, STRAY], "safe_jobs": [ELDER, STRAY],
        "blame_escapes": [ELDER, STRAY], "are_blame_escapes": [ELDER, STRAY, VALUE], "made_free": [MANUAL, SPENDING],
        "made_filling": [MANUAL, SPENDING], "cures": [ELDER, STRAY], "fill_cures": [ELDER, STRAY],
        "emptied": [MANUAL, FILLING], "spare_fills": [ELDER, NEWER], "needed_fills": [ELDER, NEWER],
        "lot_edition": [ELDER, MOVES, PLACES], "straying_lots": [ELDER, MOVES], "staying_lots": [ELDER, MOVES],
    },
    "exchange": {
        "are_even": [MANUAL, OWN_EXPRESSION, OTHER_EXPRESSION], "are_same": [MANUAL, OWN_BOOK, OTHER_BOOK],
        "class_table": [MANUAL], "is_class_table": [MANUAL, VALUE], "is_open": [VALUE],
        "is_parting_frame": [MANUAL, OWN_EXPRESSION, OTHER_EXPRESSION, VALUE],
        "is_parting_spendings": [MANUAL, OWN_BOOK, OTHER_BOOK, VALUE],
        "need_between": [MANUAL, BOOK, ROOM, GOAL, AHEAD, BEHIND],
        "parting_frame": [MANUAL, OWN_EXPRESSION, OTHER_EXPRESSION],
        "parting_spendings": [MANUAL, OWN_BOOK, OTHER_BOOK], "put_in": [FRAME, EXPRESSION],
        "shown_by": [MANUAL, ROOM, SPENT_AHEAD, GOAL, SPENT_BEHIND],
    },
    "clerks": {
        "could_be": [MANUAL, BOOK], "clerk_table": [CALM, CLERK_PURSE, SEEN_AHEAD],
        "is_clerk_table": [MANUAL, CLERK_PURSE, SEEN_AHEAD, VALUE], "unseen_purse": [MANUAL, SEEN_AHEAD],
        "purses_ahead": [MANUAL, MOST_AHEAD], "outside_plan": [MANUAL, SEEN_AHEAD],
        "is_outside_plan": [MANUAL, SEEN_AHEAD, VALUE], "plan_against": [MANUAL, CLERK_PURSE, SEEN_AHEAD],
        "is_plan_against": [MANUAL, CLERK_PURSE, SEEN_AHEAD, VALUE],
        "followed": [CALM, CLERK_PURSE, SEEN_AHEAD, CLERK_TABLE, BOOK], "spoiling_book": [MANUAL, CLERK_PURSE, RULE],
    },
    "made": {
        "either_of": [ONE, OTHER], "followed_by": [FULL_ONE, OTHER], "repeated": [FULL], "begun": [MANUAL],
        "mirrored": [MANUAL], "limited_to": [MANUAL, OTHER], "unlike_book": [ONE, OTHER, MOST_UNLIKE],
    },
    "cutting": {
        "many_pieces": [MANUAL, BOOK], "is_cuttable": [MANUAL, BOOK], "fewest_pieces": [MANUAL, BOOK],
        "are_fewest_pieces": [MANUAL, BOOK, VALUE], "may_cut": [MANUAL, BOOK], "must_cut": [MANUAL, BOOK],
        "cuts": [MANUAL], "most_pieces": [MANUAL], "uncut": [MANUAL, MANY], "is_uncut": [MANUAL, MANY, VALUE],
        "cuts_within": [ELDER, NEWER],
    },
    "mending": {
        "mended_by": [MENDED_BOOK, MENDING], "corrections": [MANUAL, STOPS, BOOK], "best_mending": [MANUAL, STOPS, BOOK],
        "is_best_mending": [MANUAL, STOPS, BOOK, VALUE], "mends": [ELDER, NEWER, STOPS],
        "most_corrections": [ELDER, NEWER, STOPS], "unmended": [ELDER, NEWER, STOPS, MANY],
        "is_unmended": [ELDER, NEWER, STOPS, MANY, VALUE], "unmendable": [ELDER, NEWER, STOPS],
        "is_unmendable": [ELDER, NEWER, STOPS, VALUE],
    },
    "house": {"House": [MANUAL, HOUSE_PURSE], "replayed": [HOUSE, LOG]},
    "scripts": {
        "play": [HOUSE, SCRIPT], "script_text": [SCRIPT], "read_script": [SCRIPT_TEXT],
        "end_of": [MANUAL, HOUSE_PURSE, PLAYED], "shortened": [MANUAL, HOUSE_PURSE, PLAYED],
    },
    "papers": {
        "manual_text": [MANUAL], "read_manual": [MANUAL_TEXT], "change_text": [CHANGE_FORM], "read_change": [CHANGE_TEXT],
        "book_text": [BOOK], "read_book": [BOOK_TEXT], "expression_text": [OPEN_EXPRESSION],
        "read_expression": [EXPRESSION_TEXT], "table_text": [CARDS], "read_table": [TABLE_TEXT],
        "pairs_text": [CARD_PAIRS], "read_pairs": [PAIRS_TEXT],
    },
}
# The methods of a house, with their arguments.
METHODS = {
    "manual": [], "purse": [], "promises": [], "broken": [], "broken_book": [AT], "is_broken_book": [AT, VALUE],
    "first_promise": [BOOK], "enter": [ENTERED], "go_on": [SPOT, ENTERED], "close": [SPOT], "spots": [], "book": [SPOT],
    "need": [SPOT], "best_way": [SPOT], "is_best_way": [SPOT, VALUE], "lost": [], "price": [HOUSE_CHANGES],
    "change": [HOUSE_CHANGES, MOST_PURSE], "force": [HOUSE_CHANGES], "widen": [WIDER], "least": [], "tighten": [],
    "undo": [], "redo": [], "trial": [], "attempt": [ACTION], "copy": [], "log": [],
}
MODULES = {"manuals": manuals, "books": books, "doing": doing, "cards": cards, "agains": agains, "tables": tables,
           "rests": rests, "ceilings": ceilings, "within": within, "bounds": bounds, "blame": blame,
           "exchange": exchange, "clerks": clerks, "made": made, "cutting": cutting, "mending": mending, "house": house,
           "scripts": scripts, "papers": papers}


def all_functions():
    """Each function with its name and its arguments."""
    return [(name, getattr(MODULES[module], name), arguments)
            for module, rows in FUNCTIONS.items() for name, arguments in rows.items()]
