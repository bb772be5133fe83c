"""What holds where nothing else is told."""

POINT = "."
GROUP = ","
SIZES = (3,)
LEAST = 1
MINUS = ("-", "")
PLUS = ("+", "")
FIGURES = "0123456789"
BETWEEN = "~"
ABOUT = "@"
PLACES = (0, 2)
WAY = "half even"
SIGNS = "minus"
UNIT = ("", "")
WAYS = ("up", "down", "high", "low", "half up", "half down", "half even", "half odd")
