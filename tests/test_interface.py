"""The names and arguments of the document's interface."""

import importlib
import inspect
import os
import re
import unittest

INTERFACE = {
    "errors": "NoPlace(place), NothingDone(), BadLine(line), CanNot(), TooMuch(), Unfit()",
    "ratios": "is_fraction(thing), fraction(top, bottom), whole(number), plus(x, y), minus(x, y), times(x, y), "
              "over(x, y), power_of(x, many), is_less(x, y), sign_of(x), reduced(vectors), combination(vectors, goal)",
    "rows": "is_row(thing), is_fit(row), row_of(parts), row_at(row, n), plus_rows(row, other), scaled(row, x), "
            "times_rows(row, other), shifted(row, many), dilated(row, many, back)",
    "letters": "is_letter(thing), is_letters(thing), letters_at(letters, i), row_of_letters(letters), "
               "plus_letters(letters, other), scaled_letters(letters, x), difference(row), split(row), goes(row), "
               "total(row), multiple(letters, other), going(rows)",
    "words": "is_word(thing), is_sum(thing), word_weight(word), longest(one), outer_letters(one), word_at(word, n), "
             "sum_at(one, n), word_between(word, m, n), plus_sums(one, two), scaled_sum(one, x), "
             "merged(letter, other), times_sums(one, two), put_ahead(letters, one), taken_off(one, letter), "
             "cuts(word), turned(one)",
    "terms": "is_term(thing), is_moves(thing), term_of(row, one), plus_terms(one, two), times_terms(one, two), "
             "scaled_term(one, row), term_at(one, n), next_term(one), summed(one, row), summed_now(one, row), "
             "moves_at(moves, i), moves_of(one), from_moves(moves, start), triples_of(one), part_sum(one, triple), "
             "fixed_worth(one)",
    "formulas": "is_formula(thing, many), named(formula), formula_at(formula, worths, i), plus_formulas(one, two), "
                "times_formulas(one, two), scaled_formula(formula, row), more_formula(formula, many), "
                "put_in(formula, formulas, many)",
    "programs": "is_program(thing), is_starts(thing, program), is_quest(thing), run(program, starts, rounds), "
                "values_at(quest, n), level(program, place), length(program, place), weight(program, place), "
                "poles(program), quest_level(quest), is_within(quest), plain_nest(rows), needed(quest), "
                "after_round(formula, program)",
    "forms": "forms(quest), asked_forms(quest), is_alike(quest, other), parting(quest, other), "
             "is_row_only(quest, which), words_of(quest), quest_of(terms)",
    "nests": "is_nest(thing), nest_depth(nest), nest_loops(nest), nest_run(nest, rounds), "
             "nest_values(nest, asked, n), nest_rounds(nest, rounds), rounds_row(nest)",
    "flat": "flat(nest, asked), nest_of(quest, late=False)",
    "leastnest": "least_nest(quest, late=False)",
    "blocks": "is_blocks(thing), turns(blocks), is_blocks_within(blocks, many), blocks_of(quest), "
              "blocks_run(blocks, rounds), blocks_values(blocks, n), factored(blocks), "
              "unrolled(blocks, many, rest), blocks_alike(blocks, other)",
    "free": "rid(one), unrid(one), shuffled(one, two)",
    "brackets": "is_lyndon(word), lyndon_words(lot), is_bracket(thing), bracket_word(bracket), opened(bracket), "
                "depth(bracket), standard(word), normal(bracket), reading(bracket, one)",
    "lines": "is_line(quest, thing), line_sum(quest, line), lines(quest), lots(quest)",
    "table": "columns(quest), table(quest), rank(quest), unread(quest), square(quest), is_square(quest, thing), "
             "determinant(rows)",
    "levels": "reads_out(quest, line, bracket), least_level(quest), against(quest), "
              "is_against(quest, thing, level), beside(row, other)",
    "shallow": "shallow(quest), tower(quest), least_level_among_fewest(quest)",
    "fewest": "fewest(quest), is_fewest_program(quest), few(quest), carries(quest, other), both(quest, other), "
              "spare(quest), same_ring(quest, other)",
    "newones": "step_of(program, formula), split_step(program, step, starts=None), "
               "formula_for(program, step, starts=None), is_new(program, step, starts=None), "
               "all_formulas(program, starts=None), new_places(program, starts=None), dropped(quest)",
    "equations": "is_equation(thing, many), equation_at(equation, worths), holds(quest, equation), "
                 "equations(quest, degree), normal_form(quest, degree, equation), follows(quest, degree, equation)",
    "slopes": "free_asked(quest)",
    "starts": "with_starts(quest, starts), by_start(quest, place), is_noticed(quest, place), noticed(quest)",
    "back": "undone(program, state, i), start_of(program, state, rounds), carried(program, state, i, j), "
            "before_round(formula, program), late_steps(program), program_of_late(steps)",
    "passes": "trimmed(quest), fused(quest, other), split_up(quest, lots), reordered(quest, order), "
              "peeled(quest, many), parted(quest, place), exchanged(quest, place), telescoped(quest), joined(quest), "
              "settled(quest), halved(rows), is_pass(thing), passed(quest, passes)",
    "code": "is_code(thing), held_after(instructions, many), compiled(quest), read_code(code), "
            "is_right_code(quest, code), tight(quest)",
    "machine": "worked(instructions, contents, i), run_code(code, n), needed_cells(instructions, later), "
               "kept_cells(code), cell_count(code), lean_code(code), scratch_cells(code), packed_code(code)",
    "papers": "is_claim(quest, thing), stands(quest, claim), paper_for(quest, claim), paper_against(quest, claim), "
              "is_paper_for(quest, claim, thing), is_paper_against(quest, claim, thing), "
              "first_fallen(quest, claims), sharp(quest), bounds_shown(quest, things)",
    "texts": "text_of_row(row), text_of_quest(quest), text_of_nest(nest, asked), row_by(text), quest_by(text), "
             "nest_by(text), least_text(text)",
    "board": "Board(quest)",
    "desk": "desk(text), is_request(thing), form_text(term), claim_text(claim), claim_by(text)",
}


BOARD = ("quest(), moment(), tickets(), state(), answers(), value(ticket), least(), stays(ticket), parted(ticket), "
         "add_step(step, start), change(place, step), begin_at(place, start), drop(place), ask(formula), "
         "drop_ask(ticket), round_on(many), make(name), undo()")


class Interface(unittest.TestCase):
    def test_names_and_arguments(self):
        for module_name, listed in INTERFACE.items():
            module = importlib.import_module("loopsbeside." + module_name)
            for name, arguments in re.findall(r"(\w+)\(([^)]*)\)", listed):
                thing = getattr(module, name)
                self.assertEqual(thing.__module__, "loopsbeside." + module_name, name)
                if module_name != "errors":
                    self.assertEqual(str(inspect.signature(thing)), "(" + arguments + ")", name)
                elif arguments:
                    self.assertEqual(str(inspect.signature(thing)), "(" + arguments + ")", name)

    def test_methods(self):
        board = importlib.import_module("loopsbeside.board").Board
        for name, arguments in re.findall(r"(\w+)\(([^)]*)\)", BOARD):
            expected = "(self, " + arguments + ")" if arguments else "(self)"
            self.assertEqual(str(inspect.signature(vars(board)[name])), expected, name)
        self.assertEqual(board.__bases__, (object,))

    def test_all_files(self):
        # Each file that the document lists, and the two that the others share.
        folder = os.path.dirname(importlib.import_module("loopsbeside").__file__)
        files = sorted(name[:-3] for name in os.listdir(folder) if name.endswith(".py"))
        self.assertEqual(files, sorted([*INTERFACE, "__init__", "kinds", "sums"]))
