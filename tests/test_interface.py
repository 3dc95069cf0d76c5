"""The names, parameters and kinds that the interface lists, each in the file under which it stands."""

import ast
import inspect
import unittest
from importlib import import_module
from pathlib import Path

PACKAGE = Path(__file__).resolve().parent.parent / "playhall"

FUNCTIONS = {
    "names": ["is_name(text)", "is_label(text)", "is_number(text)"],
    "gametext": ["write_game(game)", "read_game(text)"],
    "positions": [
        "holds(game, goal, position)", "goals_at(game, position)", "legal(game, position)",
        "after(game, position, name, *, times=1)", "before(game, position, name, *, times=1)", "walk(game, play)",
        "end_of(game, play)"],
    "likeness": [
        "face(game, position)", "likeness(game, other, *, limit=2000)", "parting_play(game, other, *, limit=2000)",
        "check_likeness(game, other, pairs)"],
    "classes": ["classes(arena)", "parting_between(arena, number, other)", "least_form(arena)"],
    "records": ["attempted(record, deed)", "replayed(game, entries)"],
    "recordtext": ["write_entries(entries)", "read_entries(text)"],
    "orders": [
        "meet(game, one, other)", "order_gap(game, one, other)", "least_order(game, play)", "stages(game, play)",
        "longest_chain(game, play)", "going_with(game, play, index)", "without(game, play, index)",
        "merged(game, base, one, other)"],
    "forcing": [
        "targets_of(arena, goal)", "forced_ranks(arena, team, targets)", "answers(arena, team, targets)",
        "trap(arena, team, targets)", "least_start(game, counter, team, goal, *, limit=2000)"],
    "gifts": ["gifts(arena, play, team, targets)", "first_gift(arena, play, team, targets)"],
    "linear": ["rank_of(vectors)", "combination(vectors, goal)", "balance(matrix)"],
    "scoretext": ["write_scoring(scoring)", "read_scoring(text)"],
    "agreement": [
        "basis_plays(arena, scoring, other)", "parting_score(arena, scoring, other)",
        "check_score_paper(arena, scoring, other, plays)"],
    "twins": ["doubtful_pairs(arena)", "lag_table(arena)"],
    "referee": ["signs_of(game, play)", "report(arena, signs)", "lag(arena)", "doubt(arena)", "endless_doubt(arena)"],
    "marks": ["marked(game, names)", "least_marks(game, most, *, limit=2000)"],
    "flows": ["greatest_flow(nodes, arcs, source, sink)"],
    "races": ["most_points(season, player)", "completion(season, player)", "overfull_team(season, player)"],
    "pairings": ["greatest_pairing(count, barred)", "barrier(count, barred)"],
    "ratings": ["leagues(wins)", "ratings(wins)"],
    "tasks": ["solve(rows, limits, aims)"],
    "shares": ["steady_share(worths)", "balanced_teams(worths)", "least_purse(worths)", "mean_share(worths)"],
    "teamworths": ["forced_worth(arena, team, prizes)", "forced_worths(arena, prizes)"],
    "combos": ["combinations(sides)"],
    "ties": [
        "reach(rule, box, party, hand)", "floor(rule, box, party, hand)", "promise(rule, box, party, hand, cell)",
        "tie(rule, box, party, first, second)", "groups(rule, box, party)"],
    "judging": [
        "box_at(rule, tree, path)", "fits(rule, tree)", "first_wrong(rule, tree)", "lures(rule, tree)",
        "parting(box, tree)"],
    "deciding": ["questions_due(rule, box)", "shortest_tree(rule, *, most=100)", "stuck_box(rule)"],
    "rounds": ["turned(run, deed)"],
    "sealed": ["lies(rule, *, least=1)", "first_lie(rule, *, least=1)"],
    "treetext": ["write_tree(tree)", "read_tree(text)"],
    "sessiontext": ["read_session(line)", "write_session(session)"],
    "houses": ["ask_closed(house, tool, question)"],
    "loads": [
        "empty_load(house)", "after_beat(load)", "after_start(house, load, index)", "steps(house, load)", "all_loads(house)"],
    "mixes": ["lowest(mix)"],
    "schedules": [
        "first_lack(house, schedule)", "schedule_totals(house, schedule)", "ring_lack(house, ring)", "ring_mean(house, ring)"],
    "prices": ["price_list(house, bound)", "tight_schedule(house, bound)"],
    "regions": ["best_ring(house, a, b)", "region_of(house)", "corner_rings(house)"],
    "wishes": [
        "portions(house, mix)", "plan(house, mix, blocks)", "parting_mix(region, other)",
        "least_number(house, tool, mix, *, most=3)"],
    "claimtext": ["write_claims(entries)", "read_claims(text)"],
    "gamesessions": [
        "game_session(arena, team, goal, name, tools, *, first=1, second=0)",
        "play_session(game, play, name, tools, *, first=1, second=0)"],
    "matches": [
        "match_points(game, position, stake)", "season_of(hall, *, stake=2)", "enter_results(season, hall, play)",
        "met_pairs(season)"],
    "choices": ["choice_rule(games, stocks, prizes, hands, table)"],
}
CLASSES = {
    "shifts": {"Shift": [
        "__init__(self, rows)", "__add__(self, other)", "__invert__(self)", "__mul__(self, other)", "__eq__(self, other)",
        "sum_of(shifts)", "gap(self, values)", "applied(self, values)"]},
    "moves": {"Move": ["__init__(self, name, player, needs, changes, *, sign=None, foul=False)", "__eq__(self, other)"]},
    "games": {"Game": [
        "__init__(self, players, counters, moves, goals=())", "move(self, name)", "shift(self, name)", "goal(self, name)",
        "shift_of(self, play)", "started(self, counter, value)", "__eq__(self, other)"]},
    "arenas": {"Arena": [
        "__init__(self, game, *, limit=2000)", "__iter__(self)", "__contains__(self, x)", "number(self, position)",
        "play_to(self, number)"]},
    "records": {
        "Record": [
            "__init__(self, game)", "play(self, name, times=1)", "back(self, count=1)", "forth(self, count=1)",
            "take(self, entries)", "plain(self)", "__iter__(self)"],
        "Attempt": ["__init__(self, record)", "__enter__(self)", "__exit__(self, kind, value, trace)"]},
    "halls": {"Hall": [
        "__init__(self, purses, tables)", "__iter__(self)", "__getitem__(self, at)", "table_play(self, play, name)",
        "table_position(self, position, name)"]},
    "scorings": {"Scoring": [
        "__init__(self, tallies, rules, score)", "__eq__(self, other)", "values_after(self, values, move)",
        "value(self, values)", "values_of(self, play)", "score(self, play)"]},
    "boxes": {"Box": [
        "__init__(self, sides)", "__iter__(self)", "__contains__(self, x)", "__getitem__(self, at)", "within(self, other)",
        "__and__(self, other)", "__sub__(self, other)", "with_side(self, party, side)"]},
    "rules": {"Rule": [
        "__init__(self, worths, table)", "__call__(self, combination)", "worth(self, party, hand, outcome)",
        "cut(self, box)"]},
    "trees": {"Tree": ["__init__(self, form)", "__call__(self, combination)", "ends(self)", "cut(self, box)"]},
    "referee": {"Referee": ["__init__(self, arena)", "see(self, sign)"]},
    "seasons": {"Season": ["__init__(self, players, meetings, *, stake=2)", "enter(self, meeting, points)", "take_back(self)"]},
    "rounds": {
        "Round": [
            "__init__(self, tree, *, patience=3, default=0)", "say(self, party, branch)", "wait(self)", "take(self, answers)",
            "honest(self, hand)"],
        "Turn": ["__init__(self, run)", "__enter__(self)", "__exit__(self, kind, value, trace)"]},
    "sessions": {"Session": [
        "__init__(self, name, needs, *, first=0, second=0)", "__lshift__(self, other)", "__or__(self, other)",
        "__invert__(self)", "__eq__(self, other)"]},
    "houses": {"House": [
        "__init__(self, tools, menu)", "number_of(self, tool)", "with_number(self, tool, number)",
        "with_session(self, session)", "closed(self, tool)"]},
    "polygons": {"Region": [
        "__init__(self, mixes)", "__contains__(self, x)", "within(self, other)", "__eq__(self, other)", "bar(self, mix)",
        "weights(self, mix)"]},
    "claims": {"Desk": [
        "__init__(self, arena, scoring)", "judged(self, entries)", "first_false(self, entries)",
        "full_record(self, entries, team)"]},
}
PROPERTIES = {
    ("shifts", "Shift"): ["never"],
    ("arenas", "Arena"): ["size", "positions", "ways"],
    ("records", "Record"): [
        "position", "done", "ahead", "done_length", "ahead_length", "entries", "effect", "moves_done"],
    ("referee", "Referee"): ["signs", "report"],
    ("seasons", "Season"): ["points", "entered", "left", "ranking", "wins"],
    ("sessions", "Session"): ["duration", "pair"],
    ("houses", "House"): ["tools", "numbers", "menu", "horizon"],
    ("polygons", "Region"): ["corners", "edges"],
}


def defined_in(module):
    body = ast.parse((PACKAGE / f"{module}.py").read_text("utf-8")).body
    return [part.name for part in body if isinstance(part, (ast.FunctionDef, ast.ClassDef))]


class InterfaceTest(unittest.TestCase):
    def test_functions(self):
        for module, rows in FUNCTIONS.items():
            for row in rows:
                name = row.partition("(")[0]
                self.assertIn(name, defined_in(module))
                found = getattr(import_module(f"playhall.{module}"), name)
                self.assertEqual(name + str(inspect.signature(found)), row)

    def test_classes_and_methods_in_their_own_bodies(self):
        for module, parts in CLASSES.items():
            for name, rows in parts.items():
                self.assertIn(name, defined_in(module))
                found = getattr(import_module(f"playhall.{module}"), name)
                for row in rows:
                    method = row.partition("(")[0]
                    self.assertIn(method, vars(found))
                    self.assertEqual(method + str(inspect.signature(getattr(found, method))), row)

    def test_properties(self):
        for (module, name), rows in PROPERTIES.items():
            found = getattr(import_module(f"playhall.{module}"), name)
            for row in rows:
                self.assertIsInstance(vars(found)[row], property)

    def test_generators(self):
        for module, name in (("positions", "walk"), ("gifts", "gifts"), ("combos", "combinations"), ("sealed", "lies"),
                             ("loads", "steps"), ("wishes", "plan")):
            self.assertTrue(inspect.isgeneratorfunction(getattr(import_module(f"playhall.{module}"), name)))
        self.assertTrue(inspect.isgeneratorfunction(import_module("playhall.trees").Tree.ends))
        self.assertTrue(inspect.isgeneratorfunction(import_module("playhall.claims").Desk.judged))

    def test_limits(self):
        self.assertEqual(import_module("playhall.arenas").LIMIT, 2000)
        self.assertEqual(import_module("playhall.likeness").LIMIT, 2000)
        self.assertEqual(import_module("playhall.deciding").MOST_QUESTIONS, 100)
        self.assertEqual((import_module("playhall.rounds").PATIENCE, import_module("playhall.rounds").FIRST), (3, 0))
        self.assertEqual(import_module("playhall.sealed").LEAST_GAIN, 1)


if __name__ == "__main__":
    unittest.main()
