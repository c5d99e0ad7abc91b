"""Names, arguments, defaults and files of the interface's landed parts."""

import inspect
import unittest

from sayloom import (
    boards, covers, desk, editions, ends, errors, halls, house, keeps, made, making, net, over, rows, stands, stuck, texts,
    watchers, ways,
)

FUNCTIONS = {
    boards: {
        "is_name": "(thing)",
        "is_board": "(thing)",
        "hands_of": "(board)",
        "weak_of": "(board)",
        "reach": "(board, place, *, without=None, faults=True)",
    },
    rows: {
        "is_row": "(board, thing)",
        "place_behind": "(board, row)",
        "is_faultless": "(board, row)",
        "view_of": "(board, row, hand)",
        "views_of": "(board, row)",
        "row_to": "(board, place, *, without=None, faults=True)",
    },
    texts: {
        "read_talk": "(text, *, most=40)",
        "points": "(text, *, most=40)",
        "in_order": "(board)",
        "talk_text": "(board)",
    },
    ends: {
        "is_end": "(thing)",
        "end_behind": "(end, view, *, start=0)",
        "events_at": "(end, state)",
        "is_done": "(end, state)",
        "least_end": "(end)",
        "unlike_view": "(end, other)",
    },
    keeps: {
        "keeps": "(end, other)",
        "shows_keeps": "(end, other, thing)",
    },
    made: {
        "places_behind": "(board, hand, view)",
        "made_end": "(board, hand)",
        "sets_of": "(board, hand)",
        "view_to": "(board, hand, state)",
    },
    stuck: {
        "held_back": "(board, row, hand, *, at=0)",
        "shows_stuck": "(board, thing)",
    },
    making: {
        "made": "(board)",
        "is_let": "(board)",
        "stuck_paper": "(board, hand, *, kinds=('ends', 'fault', 'mixed', 'race', 'says'))",
        "stuck_kinds": "(board, hand)",
    },
    halls: {
        "are_ends": "(thing)",
        "hall_behind": "(ends, log, *, room=None, weak=())",
        "fault_in": "(ends, log, *, room=None, weak=())",
    },
    covers: {
        "is_run": "(board, thing)",
        "events_of": "(board, run)",
        "covers": "(board, run, row)",
        "row_of": "(board, run)",
        "least_row": "(board, run, *, most=4000)",
        "run_of": "(board, paper)",
    },
    ways: {
        "waits": "(board)",
        "shows_waits": "(board, thing)",
        "way_on": "(board, hall, *, hand)",
        "ways_on": "(board, hall)",
        "settled": "(board, hall)",
        "shows_way": "(hall, thing, *, hand)",
        "shows_settled": "(board, hall, thing)",
    },
    stands: {
        "begin_stand": "(ends)",
        "stand_of": "(hall)",
        "is_stand": "(ends, thing, *, room=1, weak=())",
        "deeds_at": "(ends, stand, *, room=1, weak=())",
        "stand_behind": "(ends, stand, deed, *, room=1, weak=())",
        "awaited": "(ends, stand, *, hand, room=1, weak=())",
        "walked": "(ends, *, room=1, weak=(), most=1000)",
        "many_stands": "(ends, *, room=1, weak=(), most=1000)",
        "shows_walked": "(ends, thing, *, room=1, weak=())",
        "shows_run": "(ends, thing, *, room=1, weak=())",
    },
    over: {
        "way_over": "(board, net, *, hand)",
        "shows_way_over": "(net, thing, *, hand)",
    },
    editions: {
        "are_editions": "(thing)",
        "mix_ends": "(editions, mix)",
        "mix_weak": "(editions, mix)",
        "meets": "(editions, mix, *, room=1, most=1000)",
        "shows_meets": "(editions, mix, thing, *, room=1)",
        "come_to": "(editions, *, room=1, most=1000)",
        "order_of": "(editions, *, room=1, most=1000)",
        "shows_order": "(editions, thing, *, room=1)",
    },
}
HALL = {
    "__init__": "(self, ends, *, room=None, weak=())",
    "say": "(self, hand, hearer, word)",
    "hear": "(self, hand, sayer)",
    "fall": "(self, hand)",
    "do": "(self, deed)",
    "all_of": "(self, deeds)",
    "back": "(self)",
    "can_do": "(self)",
    "state_of": "(self, hand)",
    "is_done": "(self, hand)",
    "view_of": "(self, hand)",
    "road": "(self, sayer, hearer)",
    "views": "(self)",
    "fallen": "(self)",
    "under_way": "(self)",
    "log": "(self)",
    "counts": "(self)",
    "twin": "(self)",
    "__eq__": "(self, other)",
    "__len__": "(self)",
    "__str__": "(self)",
    "__repr__": "(self)",
}
NET = {
    "__init__": "(self, ends, *, weak=())",
    "do": "(self, deed)",
    "all_of": "(self, deeds)",
    "can_do": "(self)",
    "copies": "(self)",
    "under_way": "(self)",
    "state_of": "(self, hand)",
    "is_done": "(self, hand)",
    "view_of": "(self, hand)",
    "fallen": "(self)",
    "marks": "(self)",
    "log": "(self)",
    "counts": "(self)",
    "twin": "(self)",
    "__eq__": "(self, other)",
    "__len__": "(self)",
    "__repr__": "(self)",
}
WATCHER = {
    "__init__": "(self, board)",
    "tell": "(self, hand, event)",
    "told": "(self, hand)",
    "next_of": "(self, hand)",
    "wrongs": "(self)",
    "waits": "(self)",
    "log": "(self)",
    "row": "(self)",
    "is_right": "(self)",
    "__eq__": "(self, other)",
    "__len__": "(self)",
    "__str__": "(self)",
}
HOUSE = {
    "__init__": "(self, board, *, room=1)",
    "publish": "(self, board)",
    "change": "(self, hand)",
    "begin": "(self)",
    "do": "(self, deed)",
    "end": "(self)",
    "drop": "(self)",
    "all_of": "(self, deeds)",
    "back": "(self)",
    "drive": "(self, choose, *, most=200)",
    "editions": "(self)",
    "mix": "(self)",
    "is_on": "(self)",
    "is_busy": "(self)",
    "can_do": "(self)",
    "can_change": "(self)",
    "bar": "(self, hand)",
    "way_on": "(self, hand)",
    "log": "(self)",
    "views": "(self)",
    "runs": "(self)",
    "book": "(self)",
    "twin": "(self)",
    "__eq__": "(self, other)",
    "__len__": "(self)",
    "__str__": "(self)",
    "__repr__": "(self)",
}
DESK = {
    "__init__": "(self, *, room=1)",
    "say": "(self, line)",
    "house": "(self)",
    "counts": "(self)",
    "__len__": "(self)",
    "__repr__": "(self)",
}
CLASSES = {
    (halls, "Hall"): HALL,
    (net, "Net"): NET,
    (watchers, "Watcher"): WATCHER,
    (house, "House"): HOUSE,
    (desk, "Desk"): DESK,
}
VALUES = {
    boards: {"FAULT": "!", "MOST_PLACES": 40},
    texts: {"MOST": 40},
    ends: {"BEGIN": 0},
    made: {"MOST_STATES": 100},
    stuck: {"KINDS": ("ends", "fault", "mixed", "race", "says")},
    covers: {"MOST_LOOKS": 4000},
    stands: {"ROOM": 1, "MOST_STANDS": 1000},
    house: {"MOST_DEEDS": 200},
}
BEARERS = {"NoText": "(at)", "NoHand": "(hand)", "NoPlace": "(place)", "Empty": "(sayer, hearer)",
           "Full": "(sayer, hearer)"}


class TestInterface(unittest.TestCase):
    def test_functions_are_taken_as_written_and_defined_in_their_files(self):
        for file, functions in FUNCTIONS.items():
            for name, arguments in functions.items():
                with self.subTest(name=name):
                    told = getattr(file, name)
                    self.assertEqual(str(inspect.signature(told)), arguments)
                    self.assertEqual(told.__module__, file.__name__)

    def test_the_methods_of_classes_are_their_own(self):
        for (file, name), methods in CLASSES.items():
            told = getattr(file, name)
            self.assertEqual(told.__module__, file.__name__)
            for method, arguments in methods.items():
                with self.subTest(name=name, method=method):
                    self.assertEqual(str(inspect.signature(vars(told)[method])), arguments)

    def test_values(self):
        for file, values in VALUES.items():
            for name, value in values.items():
                self.assertEqual((name, getattr(file, name)), (name, value))

    def test_errors_are_made_of_what_they_bear(self):
        for name, arguments in BEARERS.items():
            with self.subTest(name=name):
                self.assertEqual(str(inspect.signature(getattr(errors, name))), arguments)


if __name__ == "__main__":
    unittest.main()
