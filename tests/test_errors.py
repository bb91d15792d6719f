import unittest

from nightsoff import errors

FIELDS = {
    "NightsError": {
        "NoNight": ["night"], "NoPerson": ["person"], "NamedTwice": ["person"],
        "BadNumber": ["place", "number"], "TooLong": ["count"],
        "WrongLength": ["found", "wanted"], "BadRest": ["rest"],
        "BadComing": ["person", "coming"], "BadPlan": ["fault"], "BadCover": ["fault"],
        "NotPossible": ["reason", "cover"], "NotWatched": ["end"],
        "NoWorld": ["reason", "person", "cover"], "NotFalling": ["place"],
        "UnlikeSums": ["one", "other"], "EmptyWeek": [], "ZeroBottom": [],
        "BadLine": ["line", "word", "why"],
        "DraftError": None, "DeskError": None, "HistoryError": None, "BookError": None,
    },
    "DraftError": {
        "TooEarly": ["night", "person"], "TooSoon": ["night", "person", "other"],
        "TooMany": ["night", "count"], "NotThere": ["night", "person"],
    },
    "DeskError": {
        "DeskOver": ["last"], "NoneLeft": ["person"], "WrongCount": ["found", "wanted"],
        "NotRight": ["level"], "PastNight": ["night"], "TooFew": ["person", "least"],
        "BadMode": ["word"],
    },
    "HistoryError": {"NothingToUndo": [], "NothingToRedo": []},
    "BookError": {
        "BadName": ["name"], "UnknownName": ["name"], "KnownName": ["name"],
        "NoRecord": ["number"],
    },
}


class Errors(unittest.TestCase):
    def test_base_class(self):
        self.assertEqual(errors.NightsError.__bases__, (ValueError,))

    def test_base_classes(self):
        for base, names in FIELDS.items():
            for name in names:
                with self.subTest(name):
                    self.assertEqual(getattr(errors, name).__bases__, (getattr(errors, base),))

    def test_fields_in_order(self):
        for names in FIELDS.values():
            for name, fields in names.items():
                if fields is not None:
                    values = [f"value {index}" for index in range(len(fields))]
                    error = getattr(errors, name)(*values)
                    with self.subTest(name):
                        self.assertEqual(vars(error), dict(zip(fields, values)))

    def test_nothing_else_is_there(self):
        found = {name for name, value in vars(errors).items() if isinstance(value, type)}
        named = {name for names in FIELDS.values() for name in names}
        self.assertEqual(found, named | {"NightsError"})

    def test_long_numbers_can_be_told(self):
        error = errors.BadNumber(0, 10 ** 5000)
        self.assertEqual(error.number, 10 ** 5000)
        self.assertTrue(str(error))
