"""Points 9 and 10: the texts of games."""

import unittest

from playhall.errors import BadLine
from playhall.games import Game
from playhall.gametext import read_game, write_game
from playhall.moves import Move
from tests.helpers import NIM, WIDE, Checks, random_games

HEAD = "players ann bob\ncounter stones 3 3\ncounter a 9 0"


class WriteTest(Checks):
    def test_example_of_the_interface(self):
        text = "players ann bob\ncounter stones 3 3\nmove take ann if stones<=3 do stones-1 foul"
        self.assertEqual(write_game(read_game(text)), text)
        self.refused(BadLine, {"line": 3, "word": 4}, read_game,
                     "players ann\ncounter stones 3 3\nmove take ann do stones-0")

    def test_all_kinds_of_lines(self):
        game = Game(
            ["zoe.x", "ann"],
            [("b", 10 ** 40, 7), ("a.c", 0, 0)],
            [
                Move("all", "ann", [("b", 1, 5), ("a.c", 0, None)], [("b", -10 ** 40), ("a.c", 1)], sign="s.t", foul=True),
                Move("none", "zoe.x", [], []),
                Move("needs", "ann", [("b", 4, 4)], []),
                Move("low", "ann", [("b", 4, None)], [], sign="x"),
                Move("high", "ann", [("b", None, 4)], [], foul=True),
                Move("never", "ann", [("b", 4, 3)], [("b", 2)]),
                Move("does", "ann", [], [("b", 2)], sign="x", foul=True),
            ],
            [("win", [("b", 0, None), ("a.c", None, 0)]), ("all", [])],
        )
        text = "\n".join([
            "players zoe.x ann",
            "counter b 1" + "0" * 40 + " 7",
            "counter a.c 0 0",
            "move all ann if a.c>=0 b>=1 b<=5 do a.c+1 b-1" + "0" * 40 + " show s.t foul",
            "move none zoe.x",
            "move needs ann if b=4",
            "move low ann if b>=4 show x",
            "move high ann if b<=4 foul",
            "move never ann if b>=4 b<=3 do b+2",
            "move does ann do b+2 show x foul",
            "goal win if a.c<=0 b>=0",
            "goal all",
        ])
        self.assertEqual(write_game(game), text)
        self.assertEqual(read_game(text), game)

    def test_written_games_are_read_back(self):
        for game in [NIM, WIDE, *random_games(9, 60)]:
            self.assertEqual(read_game(write_game(game)), game)
        self.assertEqual(write_game(read_game("players a")), "players a")
        self.assertEqual(read_game("players a"), Game(["a"], [], []))

    def test_a_game_of_the_greatest_size(self):
        labels = [chr(97 + k) * 12 + "." + "z" * 12 for k in range(12)]
        moves = [Move(chr(97 + k), "p", [(c, k, 30) for c in labels], [(c, k + 1) for c in labels]) for k in range(24)]
        goals = [(c, [(d, 1, 2) for d in labels]) for c in labels]
        game = Game(["p", "q", "r", "s", "t", "u"], [(c, 10 ** 40, 0) for c in labels], moves, goals)
        self.assertEqual(read_game(write_game(game)), game)

    def test_arguments_by_name(self):
        self.assertEqual(write_game(game=read_game(text=HEAD)), HEAD)


class ReadTest(Checks):
    def bad(self, line, word, text):
        self.refused(BadLine, {"line": line, "word": word}, read_game, text)

    def bad_here(self, word, row, before=""):
        """Checks that a line behind HEAD and some more lines is refused at this word."""
        text = HEAD + before + "\n" + row
        self.bad(text.count("\n") + 1, word, text)

    def test_needs_and_changes_are_merged(self):
        game = read_game(HEAD + "\nmove m ann if stones<=3 a>=1 stones>=1 a=4 a<=9 do stones+1 a+2 stones-1 a-5\n"
                         "goal g if a>=1 a<=2 stones=0 a>=2")
        self.assertEqual(game.moves[0], Move("m", "ann", [("a", 4, 4), ("stones", 1, 3)], [("a", -3)]))
        self.assertEqual(game.goals, (("g", (("a", 2, 2), ("stones", 0, 0))),))
        self.assertEqual(write_game(game).split("\n")[3:],
                         ["move m ann if a=4 stones>=1 stones<=3 do a-3", "goal g if a=2 stones=0"])

    def test_no_change_is_left(self):
        self.assertEqual(write_game(read_game(HEAD + "\nmove m ann do a+1 a-1 foul")), HEAD + "\nmove m ann foul")

    def test_same_names_for_all_kinds(self):
        text = "players do\ncounter do 1 0\nmove do do if do=0 do do+1 show do\ngoal do if do=1"
        self.assertEqual(write_game(read_game(text)), text)
        text = "players foul if\ncounter foul 1 0\nmove if foul if foul<=0 do foul+1 show foul foul\nmove foul if foul"
        self.assertEqual(write_game(read_game(text)), text)

    def test_players_line(self):
        self.bad(1, 0, "")
        self.bad(1, 0, "\nplayers ann")
        self.bad(1, 0, "player ann")
        self.bad(1, 0, "Players ann")
        self.bad(1, 0, " players ann")
        self.bad(1, 0, "counter a 1 0")
        self.bad(1, 1, "players")
        self.bad(1, 1, "players ")
        self.bad(1, 1, "players  ann")
        self.bad(1, 1, "players Ann")
        self.bad(1, 2, "players ann ")
        self.bad(1, 2, "players ann ann")
        self.bad(1, 3, "players ann bob ann zoe")
        self.bad(1, 1, "players abcdefghijklm")

    def test_first_words(self):
        for row in ["", " ", "players zoe", "Counter b 1 1", "mov m ann", "goals g", " counter b 1 1", "#"]:
            self.bad_here(0, row)
        for row in ["counter b 1 1", "", "players"]:
            self.bad_here(0, row, before="\nmove m ann")
        for row in ["counter b 1 1", "move m ann", ""]:
            self.bad_here(0, row, before="\ngoal g")
        self.bad(2, 0, "players ann\n")
        self.bad(3, 0, "players ann\ncounter a 1 0\n")
        self.bad(2, 0, "players ann\n\ncounter a 1 0")

    def test_counter_lines(self):
        self.bad_here(1, "counter")
        self.bad_here(1, "counter ")
        self.bad_here(1, "counter B 1 0")
        self.bad_here(1, "counter a 1 0")
        self.bad_here(1, "counter stones")
        self.bad_here(2, "counter b")
        self.bad_here(2, "counter b ")
        self.bad_here(2, "counter b x 0")
        self.bad_here(2, "counter b 01 0")
        self.bad_here(2, "counter b -1 0")
        self.bad_here(3, "counter b 1")
        self.bad_here(3, "counter b 1 ")
        self.bad_here(3, "counter b 1 x")
        self.bad_here(3, "counter b 1 00")
        self.bad_here(3, "counter b 1 2")
        self.bad_here(3, "counter b 9 10")
        self.bad_here(4, "counter b 1 1 ")
        self.bad_here(4, "counter b 1 1 1")
        self.bad_here(4, "counter b 10 9 x y")

    def test_move_lines_begin_with_label_and_player(self):
        before = "\nmove m ann"
        self.bad_here(1, "move")
        self.bad_here(1, "move ", before)
        self.bad_here(1, "move M ann")
        self.bad_here(1, "move m bob", before)
        self.bad_here(1, "move m zoe", before)
        self.bad_here(2, "move n", before)
        self.bad_here(2, "move n zoe", before)
        self.bad_here(2, "move n ")
        self.bad_here(2, "move n if a=1")
        self.bad_here(3, "move n ann ")
        self.bad_here(3, "move n ann bob")
        self.bad_here(3, "move n ann a=1")
        self.bad_here(3, "move n ann If a=1")

    def test_needs_of_moves(self):
        self.bad_here(4, "move n ann if")
        self.bad_here(4, "move n ann if ")
        for word in ["a", "a=", "=1", "a==1", "a>1", "a<1", "a>=", "a>=01", "a<=-1", "a=>1", "a>=1x", "b=1", "b", "A=1",
                     "a!=1", "a<>=1", ">=1", "<=1", "a+1", "do", "show", "foul", "if", "a=1=1", "a.=1", "a =1"]:
            self.bad_here(4, f"move n ann if {word}")
            self.bad_here(4, f"move n ann if {word} a=1")
        for word in ["", "a", "b=1", "if", "x"]:
            self.bad_here(5, f"move n ann if a=1 {word}")
            self.bad_here(5, f"move n ann if a=1 {word} a=1")
        self.bad_here(5, "move n ann if a=1 a+1")

    def test_changes_of_moves(self):
        self.bad_here(4, "move n ann do")
        self.bad_here(4, "move n ann do ")
        for word in ["a", "a+", "+1", "a+0", "a-0", "a+01", "a++1", "a--1", "a+-1", "a-+1", "a+1x", "b+1", "B-1", "a=1",
                     "a>=1", "do", "if", "show", "foul", "a+1+1", "a-1-1", "a+1-1", "a-1+1"]:
            self.bad_here(4, f"move n ann do {word}")
            self.bad_here(4, f"move n ann do {word} a+1")
            self.bad_here(6, f"move n ann if a=1 do {word}")
        for word in ["", "do", "if", "a=1", "a"]:
            self.bad_here(5, f"move n ann do a+1 {word}")
            self.bad_here(5, f"move n ann do a+1 {word} a+1")
        self.bad_here(4, "move n ann do b+1 b-1")

    def test_ends_of_moves(self):
        self.bad_here(4, "move n ann show")
        self.bad_here(4, "move n ann show ")
        self.bad_here(4, "move n ann show S")
        self.bad_here(4, "move n ann show a.b.c")
        self.bad_here(5, "move n ann show s ")
        self.bad_here(5, "move n ann show s t")
        self.bad_here(5, "move n ann show s show t")
        self.bad_here(5, "move n ann show s do a+1")
        self.bad_here(5, "move n ann show s if a=1")
        self.bad_here(4, "move n ann foul ")
        self.bad_here(4, "move n ann foul foul")
        self.bad_here(4, "move n ann foul show s")
        self.bad_here(4, "move n ann foul do a+1")
        self.bad_here(6, "move n ann do a+1 show")
        self.bad_here(8, "move n ann if a=1 do a+1 show")
        self.bad_here(10, "move n ann if a=1 do a+1 show s foul ")
        self.bad_here(10, "move n ann if a=1 do a+1 show s foul x")
        self.bad_here(6, "move n ann if a=1 foul do a+1")
        self.bad_here(7, "move n ann if a=1 show s do a+1")

    def test_words_that_may_stand_behind(self):
        for row in ["if a=1 show s foul", "if a=1 foul", "do a+1 foul", "do a+1 show s", "show foul", "show foul foul",
                    "if a=1 do a+1 foul", "show show"]:
            text = HEAD + "\nmove n ann " + row
            self.assertEqual(write_game(read_game(text)), text)

    def test_goal_lines(self):
        before = "\nmove m ann\ngoal g"
        self.bad_here(1, "goal")
        self.bad_here(1, "goal ", before)
        self.bad_here(1, "goal G")
        self.bad_here(1, "goal g", before)
        self.bad_here(2, "goal h ")
        self.bad_here(2, "goal h a=1")
        self.bad_here(2, "goal h foul", before)
        self.bad_here(3, "goal h if")
        self.bad_here(3, "goal h if ")
        self.bad_here(3, "goal h if b=1")
        for word in ["do", "show", "foul", "if", "a", "a+1", ""]:
            self.bad_here(3, f"goal h if {word}")
            self.bad_here(4, f"goal h if a=1 {word}", before)
        self.assertEqual(read_game(HEAD + "\ngoal m\ngoal n").goals, (("m", ()), ("n", ())))

    def test_the_first_invalid_word_counts(self):
        self.bad(2, 3, "players ann\ncounter a 1 2\ncounter A 1 1")
        self.bad(1, 1, "players Ann Bob\nx")
        self.bad(3, 2, "players ann\ncounter a 1 1\nmove m zoe if b=1\nplayers")

    def test_the_text_of_a_start_is_judged_before_the_next_word(self):
        self.bad(2, 3, "players ann\ncounter a 1 2 3")


if __name__ == "__main__":
    unittest.main()
