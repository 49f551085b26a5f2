"""The interface of the document: each name in its file, each method in its class, each parameter by its name."""

import importlib
import inspect
import unittest

FILES = {
    "errors": """BankError BadSet BadRule BadUnit BadTile BadNumber BadLog BadMemory BadText BadCommand BadName NoName NoMember
        Nothing TooMany""",
    "verdicts": "Verdict", "checks": "is_integer is_within is_number is_name", "members": "words_to", "normal": "normal_form",
    "sets": "NumberSet", "rules": "Rule", "distances": "distance distances is_distance Meets Never meeting_starts",
    "look_distances": "shows_distance",
    "units": "meeting free_strides is_free first_clash unit every_free Free Clash", "look_units": "shows_unit",
    "look_tiles": "shows_clear", "tiles": "Pattern clear Clear Jam free_pitches next_pitch", "worst": "shared Shared worst",
    "look_worst": "shows_shared",
    "compared": "Told Split Same Parted Freer Less tells same_banks freer first_unlike order",
    "look_compared": "shows_tells shows_same shows_freer", "look_made": "shows_padding shows_weights",
    "made": "first_padding Padded Unpadded first_weights Weighted Unweighted fewest_banks",
    "seen": "Log Shape fitting surely told_back Found shows_found", "memory": "Served Memory",
    "texts": "setting_text log_text unit_text", "reader": "read_setting read_log read_unit", "desk": "Desk",
}
METHODS = {
    ("sets", "NumberSet"): """MOST states within solved none every of between multiples read least greatest is_endless next_from
        count members __contains__ __getitem__ __iter__ __str__ __eq__ __or__ __and__ __sub__ __xor__ __invert__""",
    ("rules", "Rule"): """banks weight classes class_of next_class added less parts bank_of cut is_cut modulo xor padded read
        __call__ __mul__ __add__ __neg__ __lshift__ __str__ __eq__""",
    ("tiles", "Pattern"): """strided tiled gaps read __len__ __iter__ __contains__ __or__ __le__ __add__ __eq__ __str__""",
    ("seen", "Log"): "first_against __add__ __len__ __iter__ __eq__", ("seen", "Shape"): "__iter__ __contains__ __eq__",
    ("memory", "Memory"): """store load load_unit sweep lanes clock rule swap words undo trial tried twin __len__ __getitem__
        __setitem__ __iter__""",
    ("desk", "Desk"): "say run all_rules all_memories trial tried __call__ __len__",
}
PARAMETERS = {
    ("look_compared", "shows_tells"): "one, other, value", ("look_compared", "shows_same"): "one, other, value",
    ("look_compared", "shows_freer"): "one, other, lanes, value, starts=None, limit=2000",
    ("made", "first_padding"): "banks, every, *patterns", ("made", "first_weights"): "banks, places, *patterns",
    ("made", "fewest_banks"): "*patterns", ("made", "Padded"): "pad, jams, papers", ("made", "Unpadded"): "jams",
    ("made", "Weighted"): "weights, papers", ("made", "Unweighted"): "tree",
    ("look_made", "shows_padding"): "banks, every, patterns, value",
    ("look_made", "shows_weights"): "banks, places, patterns, value", ("seen", "Log"): "*entries",
    ("seen", "Shape"): "moduli, ahead, turn", ("seen", "fitting"): "shape, log", ("seen", "surely"): "shape, log, first, second",
    ("seen", "told_back"): "shape, ask", ("seen", "Found"): "rule, log", ("seen", "shows_found"): "shape, value",
    ("memory", "Served"): "loaded, ticks", ("memory", "Memory"): "rule, lanes=4", ("texts", "setting_text"): "rule, lanes, starts=None",
    ("texts", "log_text"): "log", ("texts", "unit_text"): "value", ("reader", "read_setting"): "text", ("reader", "read_log"): "text",
    ("reader", "read_unit"): "text", ("desk", "Desk"): "",
}


class InterfaceTest(unittest.TestCase):
    def test_names_in_their_files(self):
        for file, names in FILES.items():
            module = importlib.import_module("lanebanks." + file)
            for name in names.split():
                self.assertEqual(getattr(module, name).__module__, "lanebanks." + file)

    def test_methods_in_their_classes(self):
        for (file, name), methods in METHODS.items():
            kind = getattr(importlib.import_module("lanebanks." + file), name)
            for method in methods.split():
                self.assertIn(method, vars(kind), (name, method))

    def test_parameters(self):
        for (file, name), wanted in PARAMETERS.items():
            value = getattr(importlib.import_module("lanebanks." + file), name)
            self.assertEqual(str(inspect.signature(value)), f"({wanted})", name)


if __name__ == "__main__":
    unittest.main()
