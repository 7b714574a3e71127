"""Promise [3] and the interface: each name where it is listed, with the parameters that are listed."""

import importlib
import inspect
import unittest

from tests.support import STAYS

INTERFACE = {
    "complexes": {
        "added": "number other", "subtracted": "number other", "product": "number other", "conjugate": "number",
        "norm": "number", "quarter_form": "number", "quotient": "number other", "common_divisor": "numbers",
        "root_of": "number",
    },
    "places": {
        "place_of": "number other", "is_place": "value", "sum_of": "place other", "difference_of": "place other",
        "product_of": "place other", "quotient_of": "place other", "distance_of": "place other",
    },
    "rounds": {
        "round_of": "row", "value_at": "row place", "side_of": "row place", "round_through": "first second third",
        "middle_of": "circle", "radius_of": "circle", "shared": "circle other", "crossing": "circle other",
        "touching_place": "circle other", "mirrored_place": "circle place", "mirrored_round": "circle other",
    },
    "maps": {
        "map_of": "is_mirrored first second third fourth", "is_map": "value", "led_place": "chart place",
        "led_round": "chart circle", "after": "chart other", "back": "chart", "mirror_in": "circle",
        "is_straight": "chart circle",
    },
    "triples": {
        "plain_through": "sources goals", "mirrored_through": "sources goals",
        "ratio_of_four": "first second third fourth", "on_one_round": "first second third fourth",
    },
    "kinds": {
        "kind_of": "chart", "trace_ratio": "chart", "return_of": "chart", "staying": "chart", "staying_places": "chart",
        "power_of": "chart many", "place_after": "chart place many",
    },
    "arms": {
        "is_cell": "value", "is_arm": "value", "cell_map": "cell", "arm_map": "arm", "lets": "arm place",
        "pen_of": "arm place", "pins_of": "arm place",
    },
    "lots": {
        "Lot": "tree", "holds": "lot place", "both": "lot other", "either": "lot other", "less": "lot other", "rest": "lot",
        "disc_tree": "pole square", "ring_tree": "pole ring",
    },
    "meetings": {
        "meetings": "circle other", "meeting_place": "circle other sign", "side_at": "row circle other sign", "signs_for": "rounds",
    },
    "inside": {
        "is_empty": "lot", "has_near_place": "lot", "lies_inside": "lot other", "is_same": "lot other", "is_open_somewhere": "lot",
        "is_bounded": "lot", "fields_of": "lot", "any_place": "lot", "parting_place": "lot other", "stretches": "circle lot",
    },
    "reach": {
        "row_back": "chart row", "reach_lot": "arm", "first_bar": "arm place", "reaches_nothing": "arm", "reaches_lot": "arm lot",
        "reaches_round": "arm circle", "reaches_all": "arm other", "same_reach": "arm other", "parting_reach": "arm other",
    },
    "arcs": {
        "is_arc": "value", "arc_round": "arc", "arc_holds": "arc place", "led_arc": "chart arc", "arc_meets_round": "arc circle",
        "arcs_share": "arc other", "arc_lies_in": "arc lot", "reaches_arc": "arm arc",
    },
    "curves": {
        "is_curve": "value", "is_closed": "curve", "is_simple": "curve", "led_curve": "chart curve", "curve_lies_in": "curve lot",
        "reaches_curve": "arm curve", "is_on": "curve place", "parts": "curve place other",
    },
    "alike": {
        "agreement": "chart other", "agree_on": "chart other circle", "mirror_round": "chart", "agree_at": "arm other place",
        "alike_together": "arm other", "alike": "arm other", "draw_alike": "arm other curve", "parting_drawing": "arm other",
    },
    "pencils": {
        "pencil_kind": "circle other", "in_pencil": "circle other third", "pencil_round": "circle other place",
        "upright_round": "circle other place", "common_places": "circle other", "count_exchanging": "circle other",
        "exchanging": "circle other", "keeps_round": "chart circle", "kept_rows": "chart way", "any_kept": "chart way",
    },
    "chains": {
        "chain_count": "circle other", "is_link": "circle other third", "are_neighbours": "circle other link next_link",
        "next_links": "circle other link", "links_on": "circle other link many",
    },
    "readback": {
        "fits": "chart tests", "crossed": "tests", "freedom": "tests hand", "hands": "tests", "fitting": "tests hand",
        "bar": "tests hand", "settled": "tests hand place", "settled_round": "tests hand circle", "is_pinned": "tests hand",
        "needed": "tests hand",
    },
    "singles": {
        "mirroring": "row", "row_of_cell": "cell", "cell_of_row": "row ring", "row_fits": "row tests", "rows_freedom": "tests",
        "rows_base": "tests", "fitting_row": "tests", "settled_image": "tests place", "cells_that_fit": "tests",
    },
    "fewest": {
        "is_true": "chart", "fewest_cells": "chart kinds", "least_arm": "chart kinds ring", "factor_of": "chart",
    },
    "stock": {
        "product_of_powers": "stock exponents", "is_made": "stock ratio", "exponents_for": "stock ratio", "scale_for": "stock ratio",
        "makes_all": "stock other", "needed_ratios": "stock", "independent": "stock", "is_size_made": "stock size",
        "stock_arm": "stock pole ratio ring",
    },
    "pens": {
        "stage_map": "arm stage other", "are_copies": "arm stage other", "copy_size": "arm stage other", "straight_place": "chart",
        "straight_twice": "chart other",
    },
    "pins": {
        "part_of": "arm index part", "mended": "arm index part value", "misfits": "arm tests",
        "values_that_fit": "arm index part tests", "faults": "arm tests",
    },
    "workshops": {"Workshop": ""},
    "consoles": {"Console": "shop"},
    "checker": {"accepts": "claim paper"},
    "certificates": {
        "certify_maps": "arm other", "certify_return": "chart", "certify_lot": "lot", "certify_inside": "lot other",
        "certify_round": "chart circle", "certify_chain": "circle other", "certify_tests": "tests hand",
        "certify_place": "tests hand place", "certify_ratio": "stock ratio", "certify_cells": "chart kinds ring",
        "certify_part": "arm index part tests",
    },
}


class Interface(unittest.TestCase):
    def test_names_and_parameters(self):
        for module, names in INTERFACE.items():
            for name, parameters in names.items():
                listed = getattr(importlib.import_module("drawarms." + module), name)
                self.assertEqual((listed.__module__, listed.__name__), ("drawarms." + module, name))
                signature = inspect.signature(listed)
                self.assertEqual(list(signature.parameters), parameters.split())
                for parameter in signature.parameters.values():
                    self.assertIs(parameter.kind, parameter.POSITIONAL_OR_KEYWORD)
                    self.assertIs(parameter.default, parameter.empty)

    def test_methods_and_properties_stand_in_their_classes(self):
        from drawarms.consoles import Console
        from drawarms.lots import Lot
        from drawarms.workshops import Workshop
        for made, methods in [
            (Lot, {"__init__": "tree"}), (Console, {"__init__": "shop", "say": "line"}),
            (Workshop, {"__init__": "", "put": "name arm", "drop": "name", "wish": "wish", "lift": "index", "named": "name", "undo": "",
                        "trial": "", "tried": "action", "__len__": "", "__contains__": "name"}),
        ]:
            for name, parameters in methods.items():
                self.assertEqual(list(inspect.signature(vars(made)[name]).parameters), ["self"] + parameters.split())
        for made, names in [(Lot, ("tree", "rounds")), (Workshop, ("names", "wishes"))]:
            for name in names:
                self.assertIsInstance(vars(made)[name], property)

    def test_equal_calls_return_equal_results(self):
        from drawarms.arms import pins_of
        from drawarms.kinds import staying_places
        from drawarms.maps import map_of
        from drawarms.rounds import round_through
        for _ in range(3):
            self.assertEqual(map_of(0, (0, 3), (0, 0), (0, 0), (0, 3)), STAYS)
            self.assertEqual(round_through((0, 0, 1), (1, 1, 1), (1, 0, 0)), (0, 1, -1, 0))
            self.assertEqual(staying_places((0, (2, 0), (0, 0), (0, 0), (1, 0))), ((0, 0, 1), (1, 0, 0)))
            self.assertEqual(pins_of((("carry", (1, 0, 1)),), (0, 0, 1)), ((0, 0, 1), (1, 0, 1)))


if __name__ == "__main__":
    unittest.main()
