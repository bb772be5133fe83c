"""What holds where nothing else is told."""

import unittest

from figuretexts import options


class Options(unittest.TestCase):
    def test_each_name_has_its_value(self):
        told = {
            "POINT": ".", "GROUP": ",", "SIZES": (3,), "LEAST": 1, "MINUS": ("-", ""), "PLUS": ("+", ""),
            "FIGURES": "0123456789", "BETWEEN": "~", "ABOUT": "@", "PLACES": (0, 2), "WAY": "half even",
            "SIGNS": "minus", "UNIT": ("", ""),
            "WAYS": ("up", "down", "high", "low", "half up", "half down", "half even", "half odd"),
        }
        for name, value in told.items():
            self.assertEqual(getattr(options, name), value, name)
            self.assertIs(getattr(options, name).__class__, value.__class__, name)
