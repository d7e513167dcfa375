"""All ways to tell what is held tell the same."""

import random
import unittest

from heldalways.attacks import March, is_attack
from heldalways.court import best_table, holds_ever, is_verdict_at, kept_states, verdict_at
from heldalways.court import Controller
from heldalways.easing import least_easing
from heldalways.judgment import is_judgment, judgment
from heldalways.leastroom import least_room_for
from heldalways.printer import show_web
from heldalways.pumps import Pump
from heldalways.quick import attack_on, fewest_moves
from heldalways.reader import read_web
from heldalways.repairs import bar_price, fewest_strikes, is_bar, is_strike, lean_bars
from heldalways.runs import run_commands
from heldalways.seeing import holds_seeing, lost_script, sight_table
from heldalways.settle import enough_moves, final_rows
from heldalways.shapes import alike_states, idle_moves, joined_states, moved_values, moved_web, pieces_of, placed_values, stretched_values
from heldalways.shapes import stretched_web, turned_values, turned_web, values_of, web_of
from heldalways.sheets import Sheet, is_sheet
from heldalways.sight import sight_web
from heldalways.slack import slacks
from heldalways.tables import is_table, keeps_table
from heldalways.tours import is_held_for
from heldalways.webs import Web, reached, renamed_web, sharpest, without_moves
from helping import random_web
from test_repairs import linked_web
from test_settle import some_webs


def ways(draw, web, state, values):
    """What each way tells about whether values are held for ever at a state."""
    best = best_table(web)
    verdict = verdict_at(web, state)
    attack = attack_on(web, state, values)
    shifts = tuple([draw.randint(-3, 3) for _ in values])
    found = {"ever": holds_ever(web, state, values), "table": keeps_table(best, state, values)}
    found["slack"] = best[state] is not None and all(
        [slack is None or slack >= 0 for row in slacks(best, state, values) for slack in row])
    found["verdict"] = isinstance(verdict, Controller) and keeps_table(verdict.table, state, values)
    found["attack"] = attack is None
    found["attacked"] = not is_attack(web, state, values, attack)
    found["judgment"] = keeps_table(judgment(web).table, state, values)
    if not isinstance(attack, March) or not isinstance(attack.paper, Pump):
        # Where a pump beats them values may be held for every number of moves.
        found["layers"] = is_held_for(web, state, values, 120)
        found["fewest"] = fewest_moves(web, state, values, 120) is None
    found["bar"] = is_bar(web, state, values, ())
    found["strike"] = is_strike(web, state, values, ())
    found["easing"] = least_easing(web, state, values) == 0
    found["sheet"] = is_sheet(Sheet(web, state, values))
    if len(web.quantities) > 0:
        found["room"] = least_room_for(web, ((0, 1, 0),), 0, state, values) == 0 or holds_ever(web, state, values)
    found["seeing"] = holds_seeing(web, state, values, 0)
    found["script"] = lost_script(web, state, values, 0) is None
    found["sight table"] = keeps_table(sight_table(web, 0), state, values)
    found["pairs"] = holds_ever(sight_web(web, 0)[0], state, values)
    found["read"] = holds_ever(read_web(show_web(web)), state, values)
    found["sharpest"] = holds_ever(sharpest(web), state, values)
    found["turned"] = holds_ever(turned_web(web), state, turned_values(values))
    found["moved"] = holds_ever(moved_web(web, shifts), state, moved_values(values, shifts))
    found["stretched"] = holds_ever(stretched_web(web, 7), state, stretched_values(values, 7))
    joined, numbers = joined_states(web)
    found["joined"] = holds_ever(joined, numbers[state], values)
    found["idle"] = holds_ever(without_moves(web, idle_moves(web)), state, values)
    found["pieces"] = all([holds_ever(web_of(web, lot), state, values_of(values, lot)) for lot in ((), *pieces_of(web))])
    other, places, ends = renamed_web(web, ("z", "a", "m")[:len(values)], ("z", "b", "y", "c")[:len(web.states)])
    found["renamed"] = holds_ever(other, ends[state], placed_values(values, places))
    pairs = tuple(zip(web.quantities, values))
    some = Sheet(web, state, values)
    found["hold"] = run_commands(some, (("hold", web.states[state], pairs),)) == (("yes",),)
    return found


class Whole(unittest.TestCase):
    def test_all_ways(self):
        draw = random.Random(1)
        counts = [0, 0]
        for web in [*some_webs(draw, 80), *[linked_web(draw, 2, 3, 2) for _ in range(60)]]:
            state = draw.randrange(len(web.states))
            for _ in range(2):
                values = tuple([draw.randint(-5, 4) for _ in web.quantities])
                found = ways(draw, web, state, values)
                self.assertEqual(len(set(found.values())), 1, (found, web.moves, state, values))
                counts[found["ever"]] += 1
        self.assertGreater(min(counts), 60)

    def test_repairs_and_easing(self):
        draw = random.Random(2)
        for _ in range(60):
            web = linked_web(draw, draw.choice((1, 2)), 3, 3)
            state = draw.randrange(len(web.states))
            values = tuple([draw.randint(-3, 3) for _ in web.quantities])
            held = holds_ever(web, state, values)
            self.assertEqual(bar_price(web, state, values, (1,) * 3) == 0, held)
            self.assertEqual(fewest_strikes(web, state, values) == 0, held)
            self.assertEqual(lean_bars(web, state, values) == ((),), held)
            self.assertEqual(least_easing(web, state, values) == 0, held)

    def test_states(self):
        draw = random.Random(3)
        told = [0, 0]
        for web in some_webs(draw, 60):
            best = best_table(web)
            made = judgment(web)
            self.assertIs(is_judgment(web, made), True)
            self.assertIs(is_table(web, best), True)
            for state in range(len(web.states)):
                verdict = verdict_at(web, state)
                told[state in kept_states(web)] += 1
                self.assertEqual(isinstance(verdict, Controller), state in kept_states(web))
                self.assertIs(is_verdict_at(web, state, verdict), True)
                self.assertEqual(made.papers[state] is None, state in kept_states(web))
                self.assertEqual(sight_table(web, 0)[state], best[state])
            for lot in alike_states(web):
                self.assertEqual(len({best[state] for state in lot}), 1)
            if isinstance(final_rows(web), tuple):
                self.assertEqual(final_rows(web), best)
                for state in range(len(web.states)):
                    values = tuple([draw.randint(-5, 5) for _ in web.quantities])
                    self.assertEqual(is_held_for(web, state, values, enough_moves(web, state)), holds_ever(web, state, values))
        self.assertGreater(min(told), 40)

    def test_parts_of_webs(self):
        # What is not reached from a state does not matter there.
        draw = random.Random(4)
        for _ in range(80):
            web = random_web(draw, 2, 4, 5, 3, -3, 2)
            near = reached(web, 0)
            part = Web(web.quantities, web.states, tuple([move for move in web.moves if move[1] in near]))
            for _ in range(3):
                values = tuple([draw.randint(-4, 4) for _ in range(2)])
                self.assertEqual(holds_ever(web, 0, values), holds_ever(part, 0, values))
                self.assertEqual(attack_on(web, 0, values) is None, attack_on(part, 0, values) is None)


if __name__ == "__main__":
    unittest.main()
