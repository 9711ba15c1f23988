"""The error classes: what stands under what, and their arguments."""
import unittest

from beatfabric import errors

TOLD = {
    "FabricError": (ValueError, None),
    "BadText": (errors.FabricError, "at"),
    "DesignError": (errors.FabricError, None),
    "CheckError": (errors.FabricError, None),
    "LimitError": (errors.FabricError, None),
    "Held": (errors.FabricError, "name"),
    "BadStream": (errors.FabricError, "reason"),
    "Looped": (errors.FabricError, "place"),
    "Unlike": (errors.FabricError, ""),
    "BadNumber": (errors.DesignError, "value"),
    "Unknown": (errors.DesignError, "name"),
    "Twice": (errors.DesignError, "name"),
    "BadUse": (errors.DesignError, "name"),
    "BadWidth": (errors.CheckError, "name"),
    "TwoDrivers": (errors.CheckError, "name"),
    "Undriven": (errors.CheckError, "name"),
    "Ring": (errors.CheckError, "names"),
    "TooLarge": (errors.LimitError, "part"),
    "TooMany": (errors.LimitError, "part"),
    "NotRoutable": (errors.LimitError, ""),
}
SAMPLES = {"at": 3, "value": 256, "name": "a.b", "reason": "length", "place": (1, 2), "names": ("a", "b"),
           "part": "flat"}


class ErrorsTest(unittest.TestCase):
    def test_all_classes(self):
        for name, (above, _) in TOLD.items():
            kind = getattr(errors, name)
            self.assertEqual(kind.__bases__, (above,), name)
            self.assertTrue(issubclass(kind, ValueError))

    def test_arguments(self):
        for name, (_, attribute) in TOLD.items():
            kind = getattr(errors, name)
            if attribute is None:
                continue
            error = kind(SAMPLES[attribute]) if attribute else kind()
            if attribute:
                self.assertEqual(getattr(error, attribute), SAMPLES[attribute])
            self.assertIsInstance(str(error), str)

    def test_keywords(self):
        for name, (_, attribute) in TOLD.items():
            if attribute:
                error = getattr(errors, name)(**{attribute: SAMPLES[attribute]})
                self.assertEqual(vars(error), {attribute: SAMPLES[attribute]})


if __name__ == "__main__":
    unittest.main()
