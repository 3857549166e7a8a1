"""The interface at the end of the document: names, arguments and the files in which they are defined."""

import importlib
import inspect
import unittest

from keptandsaid.audiences import Audience
from keptandsaid.desk import Desk
from keptandsaid.nets import Net
from keptandsaid.places import Places
from keptandsaid.talks import Talk

FUNCTIONS = {
    "fields": {"is_field": ("p",), "inverse_of": ("p", "a")},
    "matrices": {
        "is_matrix": ("value", "p", "columns"),
        "reduced_rows": ("p", "rows"),
        "rank_of": ("p", "rows"),
        "in_span": ("p", "rows", "row"),
        "sum_to": ("p", "rows", "row"),
        "zero_rows": ("p", "rows", "columns"),
        "products": ("p", "rows", "word"),
    },
    "rings": {
        "is_ring": ("net", "value"),
        "some_ring": ("net",),
        "parts_of": ("net",),
        "can_order": ("net", "lot"),
    },
    "nettexts": {"write_net": ("net",), "read_net": ("text",)},
    "tellings": {"first_unserved": ("audience", "telling"), "decoder_of": ("audience", "telling", "listener")},
    "stores": {
        "first_unkept": ("audience", "store"),
        "told_without": ("p", "store", "lot"),
        "least_spread": ("p", "store"),
    },
    "least": {
        "said_least": ("audience",),
        "least_telling": ("audience",),
        "kept_most": ("audience",),
        "greatest_keeping": ("audience",),
    },
    "books": {"book_of": ("audience", "r"), "book_holds": ("audience", "r", "book")},
    "ladders": {"ladder_holds": ("audience", "ladder"), "lot_ladder": ("net", "p", "lot")},
    "netbounds": {
        "ringless_lot": ("net",),
        "rings_apart": ("net",),
        "friend_lots": ("net",),
        "telling_by_rings": ("net", "p", "rings"),
        "telling_by_friends": ("net", "p", "lots"),
    },
    "making": {
        "beside_audiences": ("one", "other"),
        "one_way_audiences": ("one", "other"),
        "nets_beside": ("one", "other"),
        "nets_one_way": ("one", "other"),
        "nets_joined": ("one", "other"),
        "blocks_of": ("net", "p", "many"),
        "relettered_audience": ("audience", "matrix"),
    },
    "words": {
        "every_word": ("net", "q"),
        "excluding_place": ("net", "q", "one", "other"),
        "first_clash": ("net", "q", "words"),
        "shifted_words": ("net", "q", "words", "by"),
    },
    "broadcasts": {
        "first_wrong": ("net", "q", "signals"),
        "decoded_letter": ("net", "q", "signals", "place", "signal", "letters"),
        "signals_of": ("net", "p", "telling"),
    },
    "greatest": {
        "greatest_store": ("net", "q"),
        "all_exclude": ("net", "q", "words"),
        "ringless_words": ("net", "q", "lot"),
    },
    "greedy": {"greedy_broadcast": ("net", "q", "words"), "told_row": ("total", "words")},
    "places": {"comes_back": ("net", "lot"), "alike_outside": ("net", "q", "words", "lot")},
    "audiencetexts": {"write_audience": ("audience",), "read_audience": ("text",)},
    "booktexts": {"write_book": ("book",), "read_book": ("p", "size", "text")},
    "histories": {"board_paper": ("board",), "paper_holds": ("text",), "paper_end": ("text",)},
    "desk": {"replayed_desk": ("net", "lines")},
}

CLASSES = {
    "errors": {
        "SayError": {},
        "InvalidNumber": {"__init__": ("value",)},
        "InvalidMatrix": {"__init__": ("value",)},
        "InvalidAudience": {"__init__": ("part", "place")},
        "InvalidNet": {"__init__": ("part", "place")},
        "InvalidLot": {"__init__": ("value",)},
        "InvalidWord": {"__init__": ("value",)},
        "InvalidWords": {"__init__": ("value",)},
        "InvalidSignals": {"__init__": ("value",)},
        "InvalidLosses": {"__init__": ("value",)},
        "InvalidDeed": {"__init__": ("value",)},
        "InvalidText": {"__init__": ("text", "at")},
        "InvalidLine": {"__init__": ("line", "at")},
        "UnknownWord": {"__init__": ("word",)},
        "TooMany": {"__init__": ("what",)},
        "Undefined": {"__init__": ("what",)},
        "NothingToUndo": {"__init__": ("word",)},
    },
    "audiences": {
        "Audience": {
            "__init__": ("p", "size", "listeners"),
            "__eq__": ("other",),
            "knowing": ("listener", "rows"),
            "without_listener": ("listener",),
        },
    },
    "nets": {
        "Net": {
            "__init__": ("size", "arcs"),
            "__eq__": ("other",),
            "audience": ("p",),
            "turned": (),
            "with_arc": ("i", "j"),
            "without_arc": ("i", "j"),
            "without_place": ("i",),
            "within": ("lot",),
            "renamed": ("order",),
        },
    },
    "talks": {
        "Talk": {
            "__init__": ("audience", "word"),
            "say": (),
            "hear": ("losses",),
            "lacking": (),
            "heard": ("listener",),
            "got": ("listener",),
        },
    },
    "places": {
        "Places": {
            "__init__": ("net", "q", "words"),
            "put": ("word",),
            "lose": ("lot",),
            "remake": (),
        },
    },
    "boards": {
        "Board": {
            "__init__": ("p", "size"),
            "audience": (),
            "said": (),
            "telling": (),
            "book": (),
            "deed": ("deed",),
            "undo": (),
            "redo": (),
            "done": (),
        },
    },
    "desk": {"Desk": {"__init__": ("net",), "run": ("line",)}},
}

# A made object of each class that has attributes, and these.
MADE = [
    (Audience(2, 1, ()), ("p", "size", "listeners")),
    (Net(1, ()), ("size", "arcs", "knows")),
    (Talk(Audience(2, 1, ()), (0,)), ("spoken", "ended")),
    (Places(Net(1, ()), 2, ((0,),)), ("letters",)),
    (Desk(Net(1, ())), ("net", "prime", "lines")),
]


def named_in(module, name):
    return getattr(importlib.import_module("keptandsaid." + module), name)


class Interface(unittest.TestCase):
    def test_functions(self):
        for module, functions in FUNCTIONS.items():
            for name, parameters in functions.items():
                found = named_in(module, name)
                self.assertTrue(inspect.isfunction(found), name)
                self.assertEqual(found.__module__, "keptandsaid." + module)
                self.assertEqual(tuple(inspect.signature(found).parameters), parameters, name)

    def test_classes(self):
        for module, classes in CLASSES.items():
            for name, methods in classes.items():
                found = named_in(module, name)
                self.assertTrue(inspect.isclass(found), name)
                self.assertEqual(found.__module__, "keptandsaid." + module)
                for method, parameters in methods.items():
                    self.assertIn(method, vars(found), name)
                    self.assertEqual(tuple(inspect.signature(vars(found)[method]).parameters)[1:], parameters, name)

    def test_attributes(self):
        for made, attributes in MADE:
            for attribute in attributes:
                self.assertIn(attribute, vars(made))


if __name__ == "__main__":
    unittest.main()
