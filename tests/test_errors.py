"""The refusals of countveil.errors."""

import inspect
import unittest

from countveil import errors

PLAIN = (
    "Clash NoBack NoBase NoBook NoCodes NoCosts NoFigure NoGuards NoHistory NoKnown NoLeast NoLine NoLots NoMarket "
    "NoNumber NoPattern NoPlace NoPlan NoRecord NoRelease NoRight NoRules NoSeries NoSort NoStep NoTable NoTables "
    "NoTime NoTitle NoWay NoWeights NoWhat NoYear TooDeep TooGreat TooMany"
).split()

BEARING = {
    "Fixed": {"places": [0, 3]},
    "NoDeed": {"at": 2},
    "NoSheet": {"wrong": ("hidden", 1)},
    "NoText": {"row": 3, "at": 17},
    "NotClean": {"number": 5},
}


def made(name):
    """One refusal of each name."""
    refused = getattr(errors, name)
    return refused(**BEARING[name]) if name in BEARING else refused()


class Refusals(unittest.TestCase):
    def test_all_are_listed_and_no_others(self):
        found = [name for name, thing in vars(errors).items() if inspect.isclass(thing)]
        self.assertEqual(sorted(found), sorted([*PLAIN, *BEARING, "CountError"]))

    def test_each_is_defined_in_the_file(self):
        for name in [*PLAIN, *BEARING, "CountError"]:
            self.assertEqual(getattr(errors, name).__module__, "countveil.errors", name)

    def test_count_error_is_straight_under_value_error(self):
        self.assertEqual(errors.CountError.__bases__, (ValueError,))

    def test_each_is_straight_under_count_error(self):
        for name in [*PLAIN, *BEARING]:
            self.assertEqual(getattr(errors, name).__bases__, (errors.CountError,), name)

    def test_each_is_a_count_error_a_value_error_and_none_of_the_others(self):
        names = [*PLAIN, *BEARING]
        for name in names:
            refused = made(name)
            self.assertIsInstance(refused, errors.CountError)
            self.assertIsInstance(refused, ValueError)
            for other in names:
                self.assertEqual(isinstance(refused, getattr(errors, other)), other == name, (name, other))

    def test_plain_ones_are_made_of_nothing_or_of_a_text(self):
        for name in [*PLAIN, "CountError"]:
            refused = getattr(errors, name)
            self.assertEqual(str(refused()), "")
            self.assertEqual(str(refused("why so")), "why so")

    def test_plain_ones_are_caught_by_their_names(self):
        for name in [*PLAIN, "CountError"]:
            refused = getattr(errors, name)
            with self.assertRaises(refused):
                raise refused("why so")

    def test_values_by_places(self):
        for name, values in BEARING.items():
            refused = getattr(errors, name)(*values.values())
            for field, value in values.items():
                self.assertEqual(getattr(refused, field), value)

    def test_values_by_names(self):
        for name, values in BEARING.items():
            refused = getattr(errors, name)(**dict(reversed(list(values.items()))))
            for field, value in values.items():
                self.assertEqual(getattr(refused, field), value)

    def test_row_and_at_are_not_exchanged(self):
        by_places = errors.NoText(1, 2)
        self.assertEqual((by_places.row, by_places.at), (1, 2))
        by_names = errors.NoText(at=2, row=1)
        self.assertEqual((by_names.row, by_names.at), (1, 2))

    def test_two_refusals_bear_their_own_values(self):
        one, other = errors.NoText(1, 2), errors.NoText(3, 4)
        self.assertEqual((one.row, one.at, other.row, other.at), (1, 2, 3, 4))

    def test_values_are_needed(self):
        for name in BEARING:
            with self.assertRaises(TypeError):
                getattr(errors, name)()


if __name__ == "__main__":
    unittest.main()
