"""The names and arguments of the interface, each defined in its own file."""

import ast
import os
import unittest

from tests.test_language import PACKAGE

FUNCTIONS = {
    "kinds": ["is_integer(thing)", "is_number(thing)", "is_name(thing)", "is_cell(thing)", "is_row(thing)",
              "are_rows(thing)", "is_fraction(thing)", "is_data(thing)"],
    "rowsums": ["add_rows(one, other)", "scale_row(row, factor)", "part_of(row, *, last_day=None, accounts=None)",
                "row_value(row, data)", "effect_of(change, row)"],
    "bases": ["basis_of(rows)", "coordinates_in(rows, row)"],
    "spans": ["rank_of(rows)", "in_span(rows, row)"],
    "answerpapers": ["answer_paper(rows, question)"],
    "answerchecker": ["lets_answer(rows, question, thing)"],
    "moduli": ["modulus_of(rows, question)", "possible_values(rows, values, question)"],
    "valuepapers": ["value_paper(rows, values, question)"],
    "valuechecker": ["lets_value(rows, values, question, thing)"],
    "smallest": ["smallest_paper(rows)"],
    "smallestchecker": ["lets_smallest(rows, thing)"],
    "rowtexts": ["row_text(row)", "rows_text(rows)"],
    "rowreadings": ["row_read(text, *, line=0)", "rows_read(text)"],
    "rightkinds": ["is_right(thing)", "is_step(thing)", "is_archive(thing)"],
    "questions": ["question_on(right, day)"],
    "futures": ["future_rows(rights, day)", "needed_rows(rights, day)"],
    "archives": ["first_archive(accounts, *, today=0)", "archive_rows(archive)"],
    "archivechecker": ["lets_archive(thing)"],
    "steps": ["barred_by(archive, step)", "done(archive, step)"],
    "evenings": ["shown_by(archive)", "keep_of(rights, data, day)"],
    "histories": ["archives_of(history)", "data_of(history)", "shown_in(history)"],
    "merging": ["merge_bar(one, other)", "merged(one, other)", "split_bar(archive, accounts)",
                "split_archive(archive, accounts)"],
    "answering": ["can_answer(archive, row)", "answer_from(archive, row)"],
    "requests": ["request_rows(archive, right)", "request_paper(archive, right)"],
    "requestchecker": ["lets_request(archive, right, thing)"],
    "costs": ["cost_of(rights, day)", "cost_over(rights, first, last)", "increments_of(rights, order, day)",
              "extension_price(rights, name, last, *, today=0)"],
    "shares": ["fair_shares(rights, day)", "shares_paper(rights, day, shares)"],
    "sharechecker": ["lets_shares(rights, day, shares, thing)"],
    "endings": ["least_endings(rights, day, most)", "fewest_endings(rights, day, most)"],
    "endingpapers": ["ending_paper(rights, day, most)", "ending_tree(rights, day, most, size)"],
    "endingchecker": ["lets_ending(rights, day, most, thing)", "lets_ending_tree(rights, day, most, size, thing)"],
    "knowing": ["known_rows(history, group)", "rows_to_come(rights, today, group)", "knows(history, group, question)"],
    "walls": ["wall_has_form(thing)", "stands(rows, question, m)", "first_fall(history, walls, *, request=None)"],
    "wallpapers": ["wall_paper(rows, question, m)"],
    "wallchecker": ["wall_lets(rows, question, m, thing)"],
    "giving": ["rows_left(rights, today, known, wall, names)", "sets_to_end(rights, today, known, wall)",
               "fewest_to_end(rights, today, known, wall)"],
    "givingpapers": ["give_paper(rights, today, known, wall)", "fewest_paper(rights, today, known, wall)"],
    "givingchecker": ["lets_give(rights, today, known, wall, thing)", "lets_fewest(rights, today, known, wall, thing)"],
    "replaying": ["is_log(thing)", "replayed(log)"],
    "rowlines": ["step_line(step)", "log_lines(log)"],
    "linereadings": ["read_step(text)", "read_log(lines)"],
}

CLASSES = {"errors": ["AskError", "PaperError", "ArchiveError", "TextError", "InvalidPaper", "InvalidStep",
                      "NotAnswerable", "UnknownName", "NothingToUndo", "InvalidText", "InvalidCommand"],
           "worlds": ["World"], "desk": ["Desk"]}

METHODS = {
    "worlds": ["__init__(self)", "__eq__(self, other)", "__len__(self)", "__str__(self)", "open_archive(self, archive, accounts)",
               "enter_amount(self, account, amount)", "correct_cell(self, account, day, difference)", "evening(self)",
               "grant_right(self, name, right)", "end_right(self, name)", "halve_right(self, name, accounts, left, right)",
               "merge_archives(self, one, other, fresh)", "split_into(self, archive, accounts, left, right)",
               "wall_off(self, name, group, question, m)", "take_down(self, name)", "go(self, step)", "bars_now(self, step)",
               "falls_by(self, step)", "day_now(self)", "archive_names(self)", "right_names(self)", "archive_named(self, name)",
               "walls_now(self)", "data_now(self)", "answers_shown(self)", "answer_now(self, question)", "known_now(self, group)",
               "knows_now(self, group, question)", "stands_now(self, group, question, m)", "cost_now(self, archive)",
               "shares_now(self, archive)", "endings_now(self, archive, most)", "givings_now(self, group, question, m)",
               "log(self)", "undo(self)", "do_all(self, steps, *, keep=False)", "counts(self)"],
    "desk": ["__init__(self)", "say(self, text)", "counts(self)"],
}


def body_of(module):
    with open(os.path.join(PACKAGE, module + ".py"), encoding="utf-8") as source:
        return ast.parse(source.read()).body


class Interface(unittest.TestCase):
    def test_functions(self):
        for module, signatures in FUNCTIONS.items():
            defined = [node.name + "(" + ast.unparse(node.args) + ")" for node in body_of(module)
                       if isinstance(node, ast.FunctionDef)]
            for signature in signatures:
                self.assertIn(signature, defined)

    def test_methods(self):
        for module, signatures in METHODS.items():
            made = [node for node in body_of(module) if isinstance(node, ast.ClassDef)][0]
            self.assertEqual(made.bases, [])
            defined = [node.name + "(" + ast.unparse(node.args) + ")" for node in made.body if isinstance(node, ast.FunctionDef)]
            for signature in signatures:
                self.assertIn(signature, defined)

    def test_classes(self):
        for module, names in CLASSES.items():
            self.assertEqual([node.name for node in body_of(module) if isinstance(node, ast.ClassDef)], names)


if __name__ == "__main__":
    unittest.main()
