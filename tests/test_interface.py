"""The interface: names, arguments, and where each is defined."""

import importlib
import inspect
import unittest

FUNCTIONS = {
    "listing": {"write_joins": ("joins",), "read_joins": ("text",)},
    "plain": {
        "letters_of": ("joins", "text"), "cut": ("joins", "text"), "text_of_row": ("joins", "row"),
        "join_all": ("joins", "row", "rank"), "staged": ("joins", "row", "many"), "split": ("joins", "row", "many"),
        "history": ("joins", "text"),
    },
    "learning": {
        "neighbors": ("joins", "corpus"), "learn": ("alphabet", "corpus", "many"), "sizes": ("joins", "corpus"),
        "corpus_of": ("joins",),
    },
    "pairs": {
        "right_spine": ("joins", "piece"), "left_spine": ("joins", "piece"), "crossing": ("joins", "left", "right"),
        "side_by_side": ("joins", "left", "right"),
    },
    "judges": {"is_cut": ("joins", "row"), "reason": ("joins", "row"), "judge": ("joins", "text", "row")},
    "tails": {"tails": ("joins", "text"), "chain": ("joins", "row_of_tails")},
    "pages": {"glued": ("joins", "left", "right"), "cut_in_parts": ("joins", "texts")},
    "counting": {
        "count_cuts": ("joins", "many"), "number_of_cut": ("joins", "row"), "cut_of_number": ("joins", "many", "number"),
        "texts_by_pieces": ("joins", "many"), "count_ways": ("joins", "text"), "ways": ("joins", "text"),
        "way_of_number": ("joins", "text", "number"), "number_of_way": ("joins", "row"),
    },
    "extremes": {"fewest": ("joins", "many"), "most": ("joins", "many")},
    "likeness": {"parting_text": ("joins", "other")},
    "patterns": {
        "machine_of": ("alphabet", "pattern"), "least": ("machine",), "both": ("machine", "other"),
        "either": ("machine", "other"), "but": ("machine", "other"),
    },
    "masks": {
        "lets": ("joins", "machine", "row"), "may_end": ("joins", "machine", "row"),
        "shortest_end": ("joins", "machine", "row"),
    },
    "models": {"model_of": ("joins", "corpus")},
    "covers": {"covers": ("model", "text"), "begins": ("model", "text"), "next_signs": ("model", "text")},
    "conditions": {"chance_of_machine": ("model", "machine"), "next_pieces": ("model", "machine", "row")},
    "healing": {"healed": ("joins", "machine", "text")},
    "searching": {"places_of": ("joins", "row", "text")},
}

CLASSES = {
    "errors": {
        "JoinError": {}, "InvalidAlphabet": {"__init__": ("alphabet",)}, "NotProper": {"__init__": ("rank",)},
        "NoPiece": {"__init__": ("piece",)}, "UnknownSign": {"__init__": ("sign", "at")},
        "InvalidText": {"__init__": ("text", "at")}, "InvalidNumber": {"__init__": ("number",)},
        "NotCut": {"__init__": ("row",)}, "InvalidModel": {"__init__": ("last",)}, "NoChance": {"__init__": ("text",)},
    },
    "joinlists": {
        "Joins": {
            "__init__": ("alphabet", "pairs"), "text_of": ("piece",), "parts_of": ("piece",), "rank_of": ("left", "right"),
            "piece_of": ("text",), "first": ("many",), "__len__": (), "__iter__": (), "__eq__": ("other",),
        },
    },
    "streams": {"Stream": {"__init__": ("joins",), "feed": ("text",), "finish": ()}},
    "pages": {
        "Page": {
            "__init__": ("joins", "text"), "content": (), "cut_row": (), "put_in": ("at", "text"), "take_out": ("at", "many"),
            "undo": (), "redo": (), "__len__": (),
        },
    },
    "grammars": {
        "Machine": {
            "__init__": ("alphabet", "start", "ends", "steps"), "after": ("state", "text"), "takes": ("text",),
            "__eq__": ("other",),
        },
    },
    "shares": {
        "Share": {
            "__init__": ("over", "under"), "__add__": ("other",), "__sub__": ("other",), "__mul__": ("other",),
            "__eq__": ("other",), "is_below": ("other",), "written": (),
        },
    },
    "models": {
        "Model": {
            "__init__": ("joins", "table"), "chance_of_begin": ("row",), "chance_of_row": ("row",), "chance_of_text": ("text",),
            "table": (),
        },
    },
    "tokenizers": {
        "Tokenizer": {
            "__init__": ("joins", "marks"), "numbers_of": ("text",), "spans": ("text",), "text_of": ("numbers",),
            "is_encoding": ("numbers",),
        },
    },
    "codestreams": {"CodeStream": {"__init__": ("tokenizer",), "feed": ("text",), "finish": ()}},
    "learners": {
        "Learner": {
            "__init__": ("alphabet", "corpus"), "step": (), "list_so_far": (), "totals": (), "read": ("text", "count"),
        },
    },
}

PROPERTIES = {
    "joinlists": {"Joins": ("pieces",)}, "streams": {"Stream": ("told", "waiting")}, "tokenizers": {"Tokenizer": ("size",)},
    "codestreams": {"CodeStream": ("told", "waiting")},
}


class Interface(unittest.TestCase):
    def test_functions(self):
        for name, functions in FUNCTIONS.items():
            module = importlib.import_module(f"rankedjoins.{name}")
            for function, parameters in functions.items():
                found = getattr(module, function)
                self.assertEqual(found.__module__, module.__name__, function)
                self.assertEqual(tuple(inspect.signature(found).parameters), parameters, function)

    def test_classes(self):
        for name, classes in CLASSES.items():
            module = importlib.import_module(f"rankedjoins.{name}")
            for class_name, methods in classes.items():
                found = getattr(module, class_name)
                self.assertEqual(found.__module__, module.__name__, class_name)
                for method, parameters in methods.items():
                    self.assertIn(method, found.__dict__, class_name)
                    self.assertEqual(tuple(inspect.signature(found.__dict__[method]).parameters)[1:], parameters, method)

    def test_properties(self):
        for name, classes in PROPERTIES.items():
            module = importlib.import_module(f"rankedjoins.{name}")
            for class_name, properties in classes.items():
                for found in properties:
                    self.assertIsInstance(getattr(module, class_name).__dict__[found], property, found)


if __name__ == "__main__":
    unittest.main()
