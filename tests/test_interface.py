"""Names, arguments, defaults and files of the interface's landed parts."""

import inspect
import unittest

from sayloom import boards, errors, rows

FUNCTIONS = {
    boards: {
        "is_name": "(thing)",
        "is_board": "(thing)",
        "hands_of": "(board)",
        "weak_of": "(board)",
        "reach": "(board, place, *, without=None, faults=True)",
    },
    rows: {
        "is_row": "(board, thing)",
        "place_behind": "(board, row)",
        "is_faultless": "(board, row)",
        "view_of": "(board, row, hand)",
        "views_of": "(board, row)",
        "row_to": "(board, place, *, without=None, faults=True)",
    },
}
BEARERS = {"NoText": "(at)", "NoHand": "(hand)", "NoPlace": "(place)", "Empty": "(sayer, hearer)",
           "Full": "(sayer, hearer)"}


class TestInterface(unittest.TestCase):
    def test_functions_are_taken_as_written_and_defined_in_their_files(self):
        for file, functions in FUNCTIONS.items():
            for name, arguments in functions.items():
                with self.subTest(name=name):
                    told = getattr(file, name)
                    self.assertEqual(str(inspect.signature(told)), arguments)
                    self.assertEqual(told.__module__, file.__name__)

    def test_errors_are_made_of_what_they_bear(self):
        for name, arguments in BEARERS.items():
            with self.subTest(name=name):
                self.assertEqual(str(inspect.signature(getattr(errors, name))), arguments)


if __name__ == "__main__":
    unittest.main()
