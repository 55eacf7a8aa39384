"""[5]: the errors."""

import unittest

from waitless import errors
from waitless.errors import HandError

PLAIN = """BadBag BadBlocks BadCells BadChain BadChoice BadCorner BadCount BadCourse BadCutting BadFace BadFading BadFamily
BadFull BadGuests BadHand BadHands BadHost BadInput BadKnown BadLooks BadLoop BadMany BadMarks BadMoment BadMost BadOrder
BadOther BadPair BadPaper BadPapers BadPicks BadPlace BadPlaces BadPlain BadPoint BadPosition BadRenaming BadRounds
BadRow BadSets BadSights BadSize BadSurface BadTable BadTask BadTies BadTop BadValues BadView BadViews BadWay BadWeaving
Crossed Enough NoRefutation NoTable NotClosed NotEnough NotSlim OtherCount""".split()
TOLD = {"BadAnswer": "corner", "BadNumber": "corner", "BadPush": "at", "BadSaying": "hand", "BadText": "line",
        "TooMany": "most", "Undrawn": "paper"}


class Errors(unittest.TestCase):
    def test_all_are_there(self):
        own = {name for name in dir(errors) if not name.startswith("_")}
        self.assertEqual(own, set(PLAIN) | set(TOLD) | {"HandError"})

    def test_all_are_directly_below(self):
        self.assertEqual(HandError.__bases__, (ValueError,))
        for name in PLAIN + list(TOLD):
            self.assertEqual(getattr(errors, name).__bases__, (HandError,))

    def test_texts(self):
        for name in PLAIN + ["HandError"]:
            made = getattr(errors, name)("any text")
            self.assertEqual(str(made), "any text")
            self.assertIsInstance(made, HandError)
            with self.assertRaises(HandError):
                raise getattr(errors, name)("")

    def test_attributes(self):
        held = []
        nested = ()
        for _ in range(50000):
            nested = (nested,)
        for name, attribute in TOLD.items():
            kind = getattr(errors, name)
            for value in (None, True, 0, 6000, "text", (0, ((0, 1),)), [1], {}, held, nested, kind):
                for made in (kind(value), kind(**{attribute: value})):
                    self.assertIs(getattr(made, attribute), value)
                    self.assertIsInstance(str(made), str)
                    with self.assertRaises(ValueError):
                        raise made


if __name__ == "__main__":
    unittest.main()
