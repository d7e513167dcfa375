"""The names, parameters and defaults of the interface, and the file in which each is defined."""

import importlib
import inspect
import unittest

FUNCTIONS = {
    "between": "between_answer(amount_web, move, amounts, answers)",
    "bounds": "are_rows(value) is_setting(rows, value) is_point_walk(rows, value) is_point_ring(rows, value) "
              "heaviest(rows) heaviest_walk(rows, one, other) ring_in(rows)",
    "disk": "pending_places(events) cut_cells(cells, events, octets)",
    "lexer": "marks_in(text)",
    "webs": "quantity_number(web, name) state_number(web, name) moves_from(web, state) moves_to(web, state) "
            "moves_named(web, name) reached(web, state) plain_rule(rule) sharp_rules(rules) sharpest(web) "
            "without_moves(web, moves) with_move(web, move) renamed_web(web, quantities, states) "
            "check_values(web, value) are_values(web, value)",
    "amounts": "corners_of(amount_web, move) are_amounts(amount_web, move, value) rules_at(amount_web, move, amounts) "
               "corner_places(amount_web) corner_web(amount_web) web_at(amount_web, picked) unseen_web(amount_web)",
    "commands": "is_command(value) read_commands(text) show_command(command) show_commands(commands)",
    "hidden": "without_point(rows, point) seen_rows(rows, points) both_rows(one, other) either_rows(one, other)",
    "hulls": "hull_rows(settings) mixture(settings, picks) picks_of(settings, value)",
    "printer": "show_web(web) show_values(web, values) show_run(web, run) show_script(script)",
    "shapes": "alike_states(web) joined_states(web) idle_moves(web) pieces_of(web) web_of(web, lot) turned_web(web) "
              "moved_web(web, shifts) stretched_web(web, factor) turned_values(values) moved_values(values, shifts) "
              "stretched_values(values, factor) placed_values(values, places) values_of(values, lot)",
    "solving": "solution(rows, fixed) is_solution(rows, fixed, value) number_ranges(rows, fixed)",
    "steps": "is_let(web, move, old, new) broken_rules(web, move, old, new) is_position(web, value) "
             "is_script(web, state, value) end_state(web, state, script) check_run(web, value) "
             "is_run(web, value, kept=True) positions_of(web, run) script_of(run) said_in(run) "
             "run_by(position, script, said) first_break(web, run)",
    "tours": "move_arcs(web, move) first_layer(web) layer_rows(web, layer) layers(web, most) keeps_rows(rows, values) "
             "is_held_for(web, state, values, most)",
    "answers": "move_rows(web, table, move) is_answer(web, table, values, move, value) "
               "answer_ranges(web, table, values, move, said=None) some_answer(web, table, values, move, said=None)",
    "boxes": "rows_in(box) boxed_web(web, box) held_in(web, box, most) ever_in(web, box) rounds_in(web, box) "
             "ever_answer(web, box, move, old)",
    "excursions": "are_items(web, value) walk_told(web, items, state, move, begin, steps) "
                  "is_chain(web, items, state, one, other, chain) chain_weight(items, chain) chain_depth(items, chain) "
                  "is_ring(web, items, state, move, begin, steps)",
    "games": "reach_of(web, most) window_of(web, values, most) let_answers(web, move, old) "
             "can_hold(web, state, values, most) can_follow(web, values, script) right_answers(web, move, old, most) "
             "beating_moves(web, state, values, most) least_moves(web, state, values, most) "
             "first_run(web, position, script, most)",
    "held": "say_ranges(table, state, said=None) some_held(table, state, said=None) "
            "held_distance(table, state, values) near_held(table, state, values) far_pair(table, state, values) "
            "held_ranges(web, state, most)",
    "reader": "read_web(text) read_values(web, text) read_run(web, text) read_script(web, state, text) "
              "completed_web(text) completed_values(web, text) completed_run(web, text)",
    "sight": "scripts_ahead(web, state, sight) sight_web(web, sight) plain_run(pairs, firsts, run) "
             "sighted_run(web, sight, run, ahead)",
    "tables": "is_table(web, value) broken_move(web, table) keeps_table(table, state, values) lowered_table(web, table) "
              "merged_table(one, other) reached_table(web, table, state)",
    "tourpapers": "next_items(web, items, level, broken=()) best_items(web, most) few_items(items, numbers) "
                  "heaviest_tour(web, state, one, other, most) first_ring(web, state, most)",
    "behind": "rows_behind(web, table, state, script, values=None) "
              "run_behind(web, table, state, script, goal, values=None)",
    "faults": "is_fault(web, table, value) fault_of(web, table)",
    "foresight": "can_hold_seeing(web, state, values, most, sight)",
    "greedy": "least_answer(web, table, values, move) greatest_answer(web, table, values, move) "
              "least_run(web, table, position, script) greatest_run(web, table, position, script) "
              "higher_run(one, other) lower_run(one, other) first_odd(web, table, run)",
    "pumps": "is_nested(items, outer, inner) nest_of(items, at) pump_in(items) is_pump(web, value) pump_gain(pump) "
             "is_ring_paper(web, value)",
    "slack": "slacks(table, state, values) heirs(web, table, move, one, other) "
             "slack_range(web, table, values, move, one, other) heir_line(web, table, state, one, other, most)",
    "staying": "clashing(web, table, values, move, wish) most_wishes(web, table, values, move, wish)",
    "wishes": "least_distance(web, table, values, move, wish) near_answer(web, table, values, move, wish) "
              "far_walk(web, table, values, move, wish) is_far_walk(web, table, values, move, wish, distance, value)",
    "levelled": "pumped(pump, times) rounds_above(pump, difference) levelled(items) levelled_ring(ring)",
    "settle": "depth_bound(web) settled_depth(web) enough_moves(web, state) final_rows(web)",
    "court": "paper_state(web, paper) is_controller(web, value) is_verdict(web, value) "
             "is_verdict_at(web, state, value) court(web) verdict_at(web, state) best_table(web) kept_states(web) "
             "holds_ever(web, state, values)",
    "attacks": "is_attack(web, state, values, value) most_moves(attack)",
    "bands": "are_bands(amount_web, move, place, value) banded_web(amount_web, move, place, bands) "
             "fewest_bands(amount_web, move, place)",
    "ends": "lean_corners(amount_web) greatest_amount(amount_web, move, place, state, values, most)",
    "judgment": "way_between(web, state, end) is_judgment(web, value) judgment(web)",
    "rooms": "are_rooms(web, value) roomed_web(web, rooms) with_room(rooms, place, room) is_enough(web, rooms, state)",
    "seeing": "sight_table(web, sight) holds_seeing(web, state, values, sight) least_sight(web, state, values, most) "
              "lost_script(web, state, values, sight) seeing_run(web, position, script, sight)",
    "sheets": "is_sheet(value)",
    "deeds": "is_deed(sheet, value) sheet_after(sheet, deed) sheet_after_all(sheet, deeds)",
    "plays": "attack_move(web, state, values, attack) attack_behind(web, state, values, attack, said) "
             "attacked_run(web, position, attack, said)",
    "leastroom": "room_paper(web, rooms, place, state) is_room_paper(web, rooms, place, state, value) "
                 "least_room(web, rooms, place, state) least_room_for(web, rooms, place, state, values) "
                 "lean_rooms(web, rooms, state)",
    "promises": "near_deed(sheet, move, wish) move_deed(sheet, move) heaviest_rule(sheet, move, kind, one, other)",
    "quick": "attack_on(web, state, values) fewest_moves(web, state, values, most) quick_attack(web, state, values, most)",
    "desk": "start_desk(disk, sheet)",
    "easing": "eased_web(web, by) least_easing(web, state, values) easing_papers(web, state, values) "
              "is_least_easing(web, state, values, value)",
    "marks": "used_moves(attack) used_rules(attack)",
    "runs": "run_commands(sheet, commands) run_with_papers(sheet, commands) sheet_of_run(sheet, commands, results) "
            "show_result(result) run_lines(sheet, text)",
    "repairs": "is_bar(web, state, values, value) cheapest_bar(web, state, values, prices) "
               "bar_price(web, state, values, prices) lean_bars(web, state, values) is_strike(web, state, values, value) "
               "fewest_strikes(web, state, values) lean_strikes(web, state, values)",
    "repairpapers": "bar_paper(web, state, values, prices) is_bar_paper(web, state, values, prices, value) "
                    "strike_paper(web, state, values) is_strike_paper(web, state, values, value)",
    "claims": "run_fault(sheet, commands, answers) is_so(value) not_so(values)",
    "roompapers": "paper_gain(web, rooms, paper) room_count(web, place, paper) beaten_to(web, rooms, place, paper) "
                  "paper_at(web, rooms, place, paper, room)",
}
CLASSES = {
    "errors": "PlantError InvalidWeb(at) InvalidText(line, at) InvalidValues(at) InvalidRun(at) InvalidPaper(at) "
              "InvalidNumber(word) Refused(word) Broken(word)",
    "journal": "Journal(disk)",
    "disk": "Disk(cells)",
    "webs": "Web(quantities, states, moves)",
    "solving": "Solved(setting) Circled(walk) Clash(walk)",
    "amounts": "AmountWeb(quantities, states, moves)",
    "faults": "Fault(move, walk)",
    "pumps": "Ring(excursions, state, move, begin, steps) Pump(excursions, outer, inner)",
    "court": "Controller(table)",
    "attacks": "Heavy(excursions, at) Surge(excursions, nest, place, rounds) March(script, paper)",
    "judgment": "Judgment(table, papers, ways)",
    "sheets": "Sheet(web, state, said)",
    "leastroom": "RoomPaper(room, table, paper)",
    "desk": "Desk(disk)",
    "repairpapers": "PricePaper(price, rows)",
}
METHODS = {
    ("journal", "Journal"): "records(self) write(self, record) drop(self, many) renew(self, records)",
    ("desk", "Desk"): "do(self, deed) answer(self, move) enter(self, move, wish) undo(self, many) deeds(self) begun(self) "
                      "pack(self)",
    ("disk", "Disk"): "look(self, at) put(self, at, octet) flush(self) events(self)",
}


def parts(text):
    """The names of a row of signatures, and what stands in their brackets."""
    found = []
    for part in text.replace(", ", ",").split(" "):
        name, _, rest = part.partition("(")
        found.append((name, "(" + rest.replace(",", ", ") if rest else None))
    return found


class Interface(unittest.TestCase):
    def test_functions(self):
        for module, text in FUNCTIONS.items():
            for name, signature in parts(text):
                found = getattr(importlib.import_module(f"heldalways.{module}"), name)
                self.assertTrue(inspect.isfunction(found), name)
                self.assertEqual(found.__module__, f"heldalways.{module}")
                self.assertEqual(str(inspect.signature(found)), signature, name)

    def test_classes(self):
        for module, text in CLASSES.items():
            for name, signature in parts(text):
                found = getattr(importlib.import_module(f"heldalways.{module}"), name)
                self.assertTrue(inspect.isclass(found), name)
                self.assertEqual(found.__module__, f"heldalways.{module}")
                if signature is not None:
                    self.assertEqual(str(inspect.signature(found)), signature, name)
                if module != "errors":
                    self.assertEqual(found.__bases__, (object,), name)

    def test_methods(self):
        for (module, name), text in METHODS.items():
            found = getattr(importlib.import_module(f"heldalways.{module}"), name)
            for method, signature in parts(text):
                self.assertIn(method, vars(found))
                self.assertEqual(str(inspect.signature(vars(found)[method])), signature, method)


if __name__ == "__main__":
    unittest.main()
