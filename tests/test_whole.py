"""What points of the document say of several stages together."""

import itertools
import random
import unittest
from math import comb, gcd

from fewnames.base.rounds import Round
from fewnames.base.runs import Run, all_runs
from fewnames.counts.binomials import allowed_marks, common_factor, is_barred, least_free
from fewnames.counts.counts import family_of, is_family, opened_at, signed_counts
from fewnames.counts.marks import forced_double, forced_paper, forced_run, is_forced_paper, triangle_from, triangle_of
from fewnames.desk.desk import Desk
from fewnames.errors import InvalidOperation
from fewnames.make.makers import combined_program, packed_program, rank_program, shrinking_program, shrunk_names
from fewnames.make.tables import Table
from fewnames.programs.checks import all_meetings, found_double, is_double, is_good, names_reached
from fewnames.programs.programs import Program
from fewnames.tasks.choices import is_choice, least_choice, rainbow_sum
from fewnames.tasks.wishes import is_fulfilled, is_open, names_wish, reached_wish
from fewnames.text.shell import Shell
from fewnames.text.texts import read_group, read_program, read_run, write_group, write_program, write_run
from fewnames.views.partners import partner_of
from fewnames.views.views import all_patterns, renamed_view, run_with, view_of
from tests.samples import RANKS, mixed, plain_rows, some_programs, some_runs

MADE = [rank_program(size) for size in (1, 2, 3, 4)] + [shrinking_program(size) for size in (1, 2, 3)] + [
    least_choice(3, 1), least_choice(2, 3), mixed(3, 1), mixed(3, 2, 4), mixed(2, 3, 3),
    combined_program(RANKS, RANKS.mirrored(), {pair: sum(pair) for pair in itertools.product((1, 2, 3), repeat=2)})]


def changed_programs(program):
    """Programs that come of this one step by step."""
    found = [program, program.mirrored(), packed_program(program)]
    found += [program.for_fewer(size) for size in range(1, program.size + 1)]
    found += [program.mapped({name: 99 - at for at, name in enumerate(program.told)})]
    if program.size < 4 and program.length < 2:
        found += [program.lengthened(), program.lengthened().mirrored(), program.mirrored().lengthened()]
    return found


class GoodTest(unittest.TestCase):
    def test_good_programs_need_free_numbers_of_names(self):
        for program in [one for made in MADE + some_programs() for one in changed_programs(made)]:
            if is_good(program):
                self.assertIs(is_barred(program.size, program.greatest), False)
                self.assertIs(is_barred(program.size, packed_program(program).greatest), False)
                self.assertRaises(InvalidOperation, forced_paper, program)

    def test_barred_numbers_force_doubles(self):
        for program in [one for made in MADE + some_programs() for one in changed_programs(made)]:
            if is_barred(program.size, program.greatest):
                self.assertIs(is_good(program), False)
                self.assertIs(is_double(program, forced_double(program)), True)
                if program.greatest >= program.size:
                    group, factor, row = forced_paper(program)
                    self.assertIs(is_forced_paper(program, (group, factor, row)), True)
                    marks = allowed_marks(program.size, program.greatest, len(group))
                    run = forced_run(program, group, marks)
                    marked = sum(name in group for name in program.names_in(run).values())
                    self.assertNotIn(marked, marks)
                    self.assertIs(is_open(names_wish(program.size, program.greatest, len(group))), False)

    def test_the_least_numbers_are_reached(self):
        for size in (1, 2, 3):
            self.assertEqual(shrinking_program(size).greatest, least_free(size))
            self.assertEqual(names_reached(shrinking_program(size)), tuple(least_free(many) for many in range(1, size + 1)))
        for size in range(2, 6):
            self.assertEqual(least_free(size), 2 * size - 1)

    def test_a_program_is_good_exactly_if_no_meeting_has_equal_names(self):
        for program in [one for made in MADE for one in changed_programs(made)]:
            meetings = all_meetings(program.size, program.length)
            names = program.names
            self.assertIs(is_good(program), all(names[one] != names[other] for one, other in meetings))


class SignsTest(unittest.TestCase):
    def test_families_and_triangles(self):
        for program in [one for made in MADE for one in changed_programs(made)]:
            family = family_of(program)
            self.assertIs(is_family(family), True)
            for many in range(1, program.size + 1):
                self.assertEqual(sum(family[many].values()), 1)
                self.assertEqual(opened_at(signed_counts(program, many), many - 1), family[many - 1])
            for group in ((), program.told[:1], program.told[::2], program.told):
                triangle = triangle_of(program, group)
                self.assertEqual(triangle, triangle_from(tuple(row[-1] for row in triangle)))
                for many, row in enumerate(triangle):
                    self.assertEqual(sum(comb(many, mark) * number for mark, number in enumerate(row)), 1)
                    marks = [mark for mark, number in enumerate(row) if number]
                    self.assertEqual(gcd(*[comb(many, mark) for mark in marks]), 1)
                    if many:
                        self.assertEqual(common_factor(many, tuple(marks)), 1)
                        self.assertTrue(set(marks) <= set(reached_wish(program, group)[many - 1]))
                if program.length < 3 and program.size < 4:
                    self.assertEqual(triangle_of(program.lengthened(), group), triangle)
                self.assertEqual(triangle_of(program.mirrored(), group), triangle)

    def test_what_a_program_reaches_is_open(self):
        for program in [one for made in MADE for one in changed_programs(made)]:
            for group in ((), program.told[:1], program.told[1:], (99,)):
                wish = reached_wish(program, group)
                self.assertEqual([is_open(wish), is_fulfilled(program, group, wish)], [True, True])

    def test_choices_have_rainbows_however_they_are_changed(self):
        for program in [one for made in MADE for one in changed_programs(made) if is_choice(one)]:
            self.assertEqual([rainbow_sum(program, many) for many in range(1, program.size + 1)], [1] * program.size)


class ViewsTest(unittest.TestCase):
    def test_partners_leave_all_other_new_names(self):
        for program in MADE:
            for run in some_runs(tuple(range(program.size)), program.length, 5 ** program.length):
                for thread in run.threads:
                    partner = partner_of(run, thread)
                    if partner is not None:
                        mine, other = program.names_in(run), program.names_in(partner)
                        self.assertTrue(all(mine[one] == other[one] for one in mine if one != thread))

    def test_a_program_only_compares_old_names(self):
        for program in MADE:
            for run in some_runs(tuple(range(program.size)), program.length, 7 ** program.length):
                names = {one: 3 * one + 10 ** 30 for one in run.threads}
                far = run.renamed(names)
                self.assertEqual(list(program.names_in(far).values()), list(program.names_in(run).values()))
                for one in run.threads:
                    view = view_of(run, one)
                    self.assertEqual(view_of(far, names[one]), renamed_view(view, {other: names[other] for other in run.known(one)}))
                    self.assertEqual(program.names_in(run)[one], program.names_in(run_with(view))[one])


class TextsTest(unittest.TestCase):
    def test_tables_replayed_from_their_texts(self):
        pick = random.Random(23)
        for _ in range(60):
            threads = tuple(sorted(pick.sample(range(50), pick.randrange(1, 6))))
            table = Table(threads)
            for _ in range(pick.randrange(6)):
                table.go(Round(pick.choice(plain_rows(threads))))
            run = read_run(write_run(table.run))
            other = Table(run.threads)
            for given in run:
                other.go(given)
            self.assertEqual([other == table, other.names, other.places], [True, table.names, table.places])
            table.finish()
            if len(table.run) >= len(threads) - 1:
                names = shrunk_names(read_run(write_run(table.run)))
                self.assertEqual(names, table.names)

    def test_programs_changed_step_by_step(self):
        for program in MADE:
            desk = Desk()
            desk.enter("p", program)
            for one in program.names:
                desk.give("p", one, program.size)
            self.assertEqual(desk["p"], Program(program.size, program.length, dict.fromkeys(program.names, program.size)))
            for one, name in program.names.items():
                desk.give("p", one, name)
            self.assertEqual(read_program(write_program(desk["p"])), program)
            self.assertEqual(desk.undo(many=2 * len(program)), ())

    def test_a_shell_and_its_parts(self):
        shell = Shell()
        for program in MADE:
            shell("enter p " + write_program(program))
            for group in ((), program.told[:1], program.told[::2]):
                self.assertEqual(shell("triangle p " + write_group(group)), " ".join(
                    str(one) for one in triangle_of(read_program(shell("show p")), read_group(write_group(group)))[-1]))
            found = found_double(program)
            self.assertEqual(shell("double p") == "none", found is None)
            for size in range(program.size, 0, -1):
                shell(f"narrow p {size}")
                self.assertEqual(read_program(shell("show p")), program.for_fewer(size))
            before = shell("grade p")
            news = shell(f"undo {program.size}")
            self.assertEqual(news, "none" if before == shell("grade p") else f"p {before} {shell('grade p')}")
            self.assertEqual(read_program(shell("show p")), program)

    def test_scripts_of_commands_in_another_order(self):
        pins = ["pin good a", "pin within a 3", "pin below a b", "pin choice c"]
        for order in itertools.permutations(pins):
            shell = Shell()
            for command in ("rank a 2", "enter b 2 1: 4 5 9", "enter c 2 1: 1 1 2") + order:
                self.assertNotEqual(shell(command), "no")
            first = [pin[4:] for pin in order if pin != "pin choice c"][0]
            self.assertEqual(shell("enter a 2 1: 3 3 3"), "refused " + first)
            self.assertEqual(shell("rank a 3"), "refused " + [pin[4:] for pin in order if pin in ("pin within a 3", "pin below a b")][0])
            self.assertEqual([shell("rank c 2"), shell("remove b"), shell("grades")], ["refused choice c", "no", "a:3 b:9 c:double"])
            self.assertEqual(len(shell), 8)

    def test_runs_and_patterns(self):
        for size, length in ((2, 2), (3, 1)):
            for run in all_runs(tuple(range(size)), length):
                self.assertEqual(read_run(write_run(run)), run)
                self.assertIsInstance(run, Run)
            for pattern in all_patterns(size, length):
                self.assertEqual(read_run(write_run(run_with(pattern))), run_with(pattern))


if __name__ == "__main__":
    unittest.main()
