"""[27]: names and arguments, and that each is defined in its own file; the methods of the Desk in its class."""

import ast
import importlib
import inspect
import unittest

INTERFACE = {
    "errors": {
        "NoGuest": ("guest",), "NoPlace": ("place",), "NothingDone": (), "BadText": ("line",), "CanNot": (),
        "TooMany": (), "Unfit": (),
    },
    "signs": {"pieces": ("text",), "text_of": ("pieces",), "number_of": ("piece",), "piece_of": ("number",)},
    "webs": {
        "is_web": ("thing",), "is_word": ("thing",), "sizes": ("web",), "wanted": ("web", "guest"),
        "other_end": ("web", "guest"), "ends": ("web", "guest"), "guests_at": ("web", "place"),
        "wanting": ("web", "place"), "unwanted": ("web",), "beside": ("web", "place"),
        "between": ("web", "place", "other"), "line_of": ("word",), "table_of": ("word",), "word_of": ("web",),
    },
    "runs": {
        "is_row": ("web", "thing"), "is_order": ("web", "thing"), "seated": ("web", "row"),
        "outcome_of": ("web", "order"), "moments": ("web", "row"), "free_places": ("web", "row"),
        "without_of": ("web", "row"), "pleased_of": ("web", "row"), "next_seat": ("web", "row", "guest"),
        "found_gone": ("web", "row"),
    },
    "parts": {
        "is_lot": ("web", "thing"), "others": ("web", "lot"), "parts": ("web", "lot"), "part_of": ("web", "lot", "place"),
        "guests_of_part": ("web", "lot", "place"), "kind_of_part": ("web", "lot", "place"), "trees": ("web", "lot"),
        "round_in": ("web", "lot", "place"), "is_round": ("web", "lot", "thing"), "most_seated": ("web", "lot"),
        "can_all_sit": ("web", "lot"),
    },
    "changed": {
        "renamed": ("web", "places", "guests"), "taking_renamed": ("web", "taking", "places", "guests"),
        "put_beside": ("web", "other"), "put_together": ("web", "other", "place", "goal"), "guest_more": ("web", "guest"),
        "guest_less": ("web", "guest"), "turned": ("web", "lot"), "kept_guests": ("web", "lot"),
    },
    "lots": {
        "can_be_without": ("web", "lot"), "order_for": ("web", "lot"), "is_order_for": ("web", "lot", "thing"),
        "why_not": ("web", "lot"), "is_why_not": ("web", "lot", "thing"), "spare_places": ("web", "lot"),
        "how_many_free": ("web", "lot"), "order_leaving": ("web", "lot", "places"),
    },
    "together": {
        "can_together": ("web", "lot"), "never_without": ("web",), "rivals": ("web", "guest"), "lot_with": ("web", "lot"),
        "order_with": ("web", "lot"), "is_order_with": ("web", "lot", "thing"), "why_never": ("web", "lot"),
        "is_why_never": ("web", "lot", "thing"),
    },
    "takings": {
        "is_taking": ("web", "thing"), "arrows": ("web", "taking"), "lacking": ("web", "taking"),
        "is_sound": ("web", "taking"), "holder": ("web", "taking", "place"), "is_outcome": ("web", "taking"),
        "order_of": ("web", "taking"), "is_order_of": ("web", "taking", "thing"),
        "behind_whom": ("web", "taking", "guest"),
    },
    "rings": {
        "ring": ("web", "taking"), "is_ring": ("web", "taking", "thing"), "rings": ("web", "taking"),
        "why_no_outcome": ("web", "taking"), "is_why_no_outcome": ("web", "taking", "thing"),
        "exchanges": ("web", "order", "other"), "led_to": ("web", "outcome", "goal"),
        "is_led_to": ("web", "outcome", "goal", "thing"), "turned_ring": ("web", "taking", "ring"),
    },
    "orders": {
        "sizes_of": ("web", "outcome"), "how_many_orders": ("web", "outcome"),
        "must_come_behind": ("web", "outcome", "guest"), "fewest_ahead": ("web", "outcome", "guest"),
        "most_ahead": ("web", "outcome", "guest"), "can_come_first": ("web", "outcome"),
        "can_come_last": ("web", "outcome"), "how_many_first": ("web", "outcome", "guest"),
        "how_many_last": ("web", "outcome", "guest"), "how_many_ahead": ("web", "outcome", "guest", "goal"),
    },
    "numbered": {
        "order_at": ("web", "outcome", "number"), "order_number": ("web", "outcome", "order"),
        "next_order": ("web", "outcome", "order"), "order_ahead": ("web", "outcome", "order"),
        "least_order": ("web", "outcome"), "greatest_order": ("web", "outcome"), "all_orders": ("web", "outcome"),
        "step_to": ("web", "outcome", "order", "goal"),
    },
    "oneless": {
        "less": ("web", "order", "guest"), "spare": ("web", "order", "guest"), "helped": ("web", "order", "guest"),
        "helpers": ("web", "order", "guest"), "harmless": ("web", "order"),
    },
    "moved": {
        "moved_way": ("web", "order", "guest"), "places_left": ("web", "order", "guest"),
        "put_at": ("web", "order", "guest", "number"), "lost_and_won": ("web", "order", "guest", "number"),
        "latest": ("web", "order", "guest"),
    },
    "stars": {
        "star": ("web", "place"), "is_plain": ("web", "place"), "is_choice": ("web", "thing"), "all_choices": ("web",),
        "can_stay_free": ("web", "places"), "never_free": ("web",), "order_free": ("web", "choice"),
        "is_order_free": ("web", "choice", "thing"), "why_not_free": ("web", "places"),
        "is_why_not_free": ("web", "places", "thing"),
    },
    "most": {
        "fewest": ("web",), "most": ("web",), "tree_parts": ("web",), "greatest_choice": ("web",),
        "fewest_order": ("web",), "can_be_so_many": ("web", "number"), "lot_of": ("web", "number"),
        "order_so_many": ("web", "number"), "is_order_so_many": ("web", "number", "thing"),
    },
    "counts": {
        "shares": ("web",), "chance": ("web", "guest"), "by_without": ("web",), "free_orders": ("web",),
        "how_many_lots": ("web",), "lots": ("web",), "how_many_outcomes": ("web",),
    },
    "passes": {"line_orders": ("word",), "table_orders": ("word",), "line_lots": ("word",), "table_lots": ("word",)},
    "tables": {
        "nooks": ("word",), "can_at_table": ("word", "lot"), "gaps": ("word", "lot"), "order_at_table": ("word", "lot"),
        "is_order_at_table": ("word", "lot", "thing"), "closed_gap": ("word", "lot"),
        "is_closed_gap": ("word", "lot", "thing"), "most_at_table": ("word",), "lots_at_table": ("word",),
        "many_words": ("number", "lot"), "word_for": ("number", "lot"), "is_word_for": ("number", "lot", "thing"),
        "fits": ("number",),
    },
    "texts": {
        "is_sheet": ("thing",), "sheet_text": ("sheet",), "read_sheet": ("text",), "web_text": ("web",),
        "read_web": ("text",), "picture": ("word", "taking"), "read_picture": ("text",),
    },
    "wants": {
        "is_wants": ("web", "thing"), "with_wants": ("web", "wants"), "wants_fit": ("web", "row", "taking", "wants"),
        "can_be_seen": ("web", "row", "taking"), "how_many_wants": ("web", "row", "taking"),
        "sure_wants": ("web", "row", "taking"), "told_by": ("web", "row"), "drains": ("web",), "most_told": ("web",),
        "telling_order": ("web",), "is_telling": ("web", "thing"),
    },
    "anywants": {
        "can_some_want": ("web", "lot"), "can_all_want": ("web", "lot"), "wants_for": ("web", "lot"),
        "wants_against": ("web", "lot"), "is_wants_for": ("web", "lot", "thing"),
        "is_wants_against": ("web", "lot", "thing"), "most_some_want": ("web",), "stars_apart": ("web",),
        "is_stars_apart": ("web", "thing"), "wants_for_most": ("web",), "is_steady": ("web",), "steady_wants": ("web",),
    },
    "judge": {
        "is_demand": ("thing",), "is_so": ("demand",), "paper_against": ("demand",),
        "is_paper_against": ("demand", "thing"), "reason_for": ("demand",), "is_reason_for": ("demand", "thing"),
        "first_fallen": ("demands",),
    },
    "desk": {"Desk": ("web",)},
}

CLASSES = ("errors", "desk")

METHODS = {"say": ("text",), "web": (), "row": (), "taking": (), "undo": (), "redo": (), "twin": (), "__eq__": ("other",)}


class Interface(unittest.TestCase):
    def test_arguments(self):
        for file, names in INTERFACE.items():
            module = importlib.import_module("leftwithout." + file)
            for name, arguments in names.items():
                with self.subTest(file, name=name):
                    told = getattr(module, name)
                    if inspect.isfunction(told):
                        self.check_arguments(told, arguments)
                    elif arguments:
                        self.check_arguments(told.__init__, ("self",) + arguments)

    def check_arguments(self, function, arguments):
        parameters = inspect.signature(function).parameters.values()
        self.assertEqual(tuple(own.name for own in parameters), arguments)
        for own in parameters:
            self.assertEqual(own.kind, own.POSITIONAL_OR_KEYWORD)
            self.assertIs(own.default, own.empty)

    def test_defined_in_the_file(self):
        for file, names in INTERFACE.items():
            module = importlib.import_module("leftwithout." + file)
            with open(module.__file__, encoding="utf-8") as source:
                tree = ast.parse(source.read())
            kind = ast.ClassDef if file in CLASSES else ast.FunctionDef
            defined = {node.name for node in tree.body if isinstance(node, kind)}
            with self.subTest(file):
                self.assertEqual(set(names) - defined, set())

    def test_methods_of_the_desk(self):
        told = importlib.import_module("leftwithout.desk").Desk
        for name, arguments in METHODS.items():
            with self.subTest(name):
                self.check_arguments(vars(told)[name], ("self",) + arguments)


if __name__ == "__main__":
    unittest.main()
