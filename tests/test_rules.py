"""Points 1 to 3: what holds for every function of the interface."""

import inspect
import unittest

from tests.anything import odd_objects, same, spoil, twin
from tests.arguments import MISFITS, asked_house, odd_right_values, right_values, second_manual, wrong_values
from tests.asked import METHODS, all_functions
from tests.plain_house import house_told
from withinbooks.errors import InvalidChange, PurseError
from withinbooks.house import House
from withinbooks.manuals import Manual, changed_by


def told(value):
    """What can be compared by same: a manual is told by its three lists."""
    if isinstance(value, Manual):
        return ["manual", value.manners(), value.beginnings(), value.ends()]
    if isinstance(value, House):
        return ["house"] + house_told(value)
    if isinstance(value, (list, tuple)):
        return type(value)([told(thing) for thing in value])
    return value


class RulesTest(unittest.TestCase):
    def refused(self, function, arguments, error, value):
        with self.assertRaises(error) as caught:
            function(*arguments)
        self.assertIs(type(caught.exception), error)
        self.assertIs(caught.exception.value, value)

    def test_names_of_parameters(self):
        for name, function, arguments in all_functions():
            names = [parameter for parameter in inspect.signature(function).parameters]
            self.assertEqual(names, [asked["name"] for asked in arguments], name)
            by_name = dict(zip(names, right_values(arguments)))
            self.assertTrue(same(told(function(**by_name)), told(function(*right_values(arguments)))), name)

    def test_each_wrong_argument_is_refused(self):
        for name, function, arguments in all_functions():
            for at, asked in enumerate(arguments):
                if asked["error"] is None:
                    continue
                for wrong in wrong_values(asked):
                    passed = right_values(arguments)
                    passed[at] = wrong
                    with self.subTest(name=name, at=at, wrong=repr(wrong)[:200]):
                        self.refused(function, passed, asked["error"], wrong)

    def test_the_first_of_two_wrong_arguments_is_refused(self):
        for name, function, arguments in all_functions():
            for later in range(1, len(arguments)):
                for first in range(later):
                    self.refuse_both(name, function, arguments, first, later)

    def refuse_both(self, name, function, arguments, first, later):
        ahead = wrong_values(arguments[first])
        behind = odd_objects()
        if arguments[later]["error"] is not None:
            behind = wrong_values(arguments[later])
        for at, wrong in enumerate(ahead):
            passed = right_values(arguments)
            passed[first] = wrong
            passed[later] = behind[at * 7 % len(behind)]
            with self.subTest(name=name, first=first, later=later, wrong=repr(wrong)[:200]):
                self.refused(function, passed, arguments[first]["error"], wrong)

    def test_right_odd_objects_are_taken(self):
        for name, function, arguments in all_functions():
            for at, asked in enumerate(arguments):
                if asked["error"] is None:
                    continue
                for value in odd_right_values(asked):
                    passed = right_values(arguments)
                    passed[at] = value
                    with self.subTest(name=name, at=at, value=repr(value)[:200]):
                        self.not_refused(function, passed, asked["error"], value)

    def not_refused(self, function, passed, error, value):
        """Another argument, or a change in a list, may be refused: it may not fit this one."""
        try:
            function(*passed)
        except PurseError as caught:
            self.assertFalse(type(caught) is error and caught.value is value)

    def test_judging_takes_any_object(self):
        for name, function, arguments in all_functions():
            if arguments[-1]["error"] is None:
                for value in odd_objects():
                    kept = told(value)
                    with self.subTest(name=name, value=repr(value)[:200]):
                        self.assertIs(type(function(*(right_values(arguments[:-1]) + [value]))), bool)
                        self.assertTrue(same(told(value), kept) or not isinstance(value, (list, tuple, Manual)))

    def test_the_first_change_that_does_not_fit_is_told(self):
        for misfit in MISFITS:
            changes = [("start", "out"), ("unstart", "out"), misfit, ("unstart", "nowhere")]
            self.refused(changed_by, [second_manual(), changes], InvalidChange, changes[2])
        changes = [("start", "pit"), ("start", "pit")]
        self.refused(changed_by, [second_manual(), changes], InvalidChange, changes[1])

    def test_arguments_are_not_changed(self):
        for name, function, arguments in all_functions():
            passed = right_values(arguments)
            kept = [told(twin(value)) for value in passed]
            function(*passed)
            self.assertTrue(all(same(told(one), two) for one, two in zip(passed, kept)), name)

    def test_results_are_new_and_equal(self):
        for name, function, arguments in all_functions():
            passed = right_values(arguments)
            first = function(*passed)
            kept = told(twin(first))
            spoil(first)
            if isinstance(first, Manual):
                for part in [first.manners(), first.beginnings(), first.ends()]:
                    part.clear()
            self.assertTrue(same(told(function(*passed)), kept), name)
            self.assertTrue(same(told(function(*[twin(value) for value in passed])), kept), name)

    def test_a_manual_keeps_nothing_of_the_lists_that_it_was_made_of(self):
        stay = ("in", "rest", "in", ("coins", 0))
        manners, rooms = [stay], ["in"]
        manual = Manual(manners, rooms, rooms)
        manners.clear()
        rooms.append("out")
        self.assertEqual([manual.manners(), manual.beginnings(), manual.ends()], [[stay], ["in"], ["in"]])
        for part in [manual.manners(), manual.beginnings(), manual.ends()]:
            part.clear()
        self.assertEqual([manual.manners(), manual.beginnings(), manual.ends()], [[stay], ["in"], ["in"]])


class MethodsTest(unittest.TestCase):
    """What holds for every method of a house."""

    def refused(self, name, passed, error, value):
        house = asked_house()
        kept = house_told(house)
        with self.assertRaises(error) as caught:
            getattr(house, name)(*passed)
        self.assertIs(type(caught.exception), error)
        self.assertIs(caught.exception.value, value)
        self.assertEqual(house_told(house), kept)

    def test_names_of_parameters(self):
        for name, arguments in METHODS.items():
            names = list(inspect.signature(getattr(House, name)).parameters)
            self.assertEqual(names, ["self"] + [asked["name"] for asked in arguments])
            if name in ["trial", "attempt"]:
                continue
            by_name = {asked["name"]: asked["right"]() for asked in arguments}
            result = getattr(asked_house(), name)(**by_name)
            self.assertTrue(same(told(result), told(getattr(asked_house(), name)(*right_values(arguments)))), name)

    def test_wrong_arguments(self):
        for name, arguments in METHODS.items():
            for at, asked in enumerate(arguments):
                for wrong in wrong_values(asked) if asked["error"] else []:
                    passed = right_values(arguments)
                    passed[at] = wrong
                    with self.subTest(name=name, at=at, wrong=repr(wrong)[:200]):
                        self.refused(name, passed, asked["error"], wrong)

    def test_the_first_of_two_wrong_arguments_is_refused(self):
        for name, arguments in METHODS.items():
            for at, wrong in enumerate(wrong_values(arguments[0]) if len(arguments) == 2 else []):
                behind = odd_objects() if arguments[1]["error"] is None else wrong_values(arguments[1])
                with self.subTest(name=name, wrong=repr(wrong)[:200]):
                    self.refused(name, [wrong, behind[at * 7 % len(behind)]], arguments[0]["error"], wrong)

    def test_right_odd_objects_are_taken(self):
        for name, arguments in METHODS.items():
            for at, asked in enumerate(arguments):
                for value in odd_right_values(asked) if asked["error"] else []:
                    passed = right_values(arguments)
                    passed[at] = value
                    try:
                        getattr(asked_house(), name)(*passed)
                    except PurseError as caught:
                        self.assertFalse(type(caught) is asked["error"] and caught.value is value, (name, value))

    def test_judging_takes_any_object(self):
        for name in ["is_broken_book", "is_best_way"]:
            for value in odd_objects():
                self.assertIs(type(getattr(asked_house(), name)(0, value)), bool)

    def test_results_are_new_and_arguments_unchanged(self):
        for name, arguments in METHODS.items():
            if name in ["trial", "attempt"]:
                continue
            passed = right_values(arguments)
            kept = [told(twin(value)) for value in passed]
            house = asked_house()
            first = getattr(house, name)(*passed)
            result, after = told(twin(first)), house_told(house)
            self.assertTrue(same([told(value) for value in passed], kept), name)
            spoil(first)
            spoil(passed)
            self.assertEqual(house_told(house), after)
            self.assertTrue(same(told(getattr(asked_house(), name)(*right_values(arguments))), result), name)


if __name__ == "__main__":
    unittest.main()
