"""Worlds: archives and walls under names, changed by world steps that are logged and can be undone."""

from askrights.costs import cost_of
from askrights.endings import least_endings
from askrights.errors import InvalidStep, NotAnswerable, NothingToUndo, UnknownName
from askrights.giving import sets_to_end
from askrights.knowing import rows_shown, told_about
from askrights.rowlines import log_lines
from askrights.shares import fair_shares
from askrights.worldbars import wall_felled, world_bar
from askrights.worldstates import all_rights, answer_in, complete_data, first_state, lets_stand, named_walls
from askrights.worldsteps import state_after


class World:
    """A world. It keeps the state after each step, so that a step can be undone."""

    def __init__(self):
        self.past = []
        self.states = [first_state()]
        self.started = 0
        self.finished = 0

    def __eq__(self, other):
        # A log holds nothing but strings, integers and tuples, and no value of one kind equals one of another.
        return isinstance(other, World) and self.past == other.past

    def __len__(self):
        return len(self.past)

    def __str__(self):
        if len(self.past) == 0:
            return "-"
        return " / ".join(log_lines(self.past))

    def take(self, step):
        """Do the step without counting it; return the answers that an evening shows, and None for other steps."""
        state = self.states[-1]
        reason = world_bar(state, step)
        if reason is not None:
            raise InvalidStep(step, reason)
        after = state_after(state, step)
        self.past.append(step)
        self.states.append(after)
        if step[0] != "evening":
            return None
        return tuple([answer[1:] for answer in after.shown[len(state.shown):]])

    def go(self, step):
        """Do the world step, and return what the method for it returns; raise InvalidStep."""
        self.started += 1
        try:
            return self.take(step)
        finally:
            self.finished += 1

    def open_archive(self, archive, accounts):
        """Add the first archive of these accounts on the world's day."""
        self.go(("open", archive, accounts))

    def enter_amount(self, account, amount):
        """Add the amount to today's integer of the account."""
        self.go(("enter", account, amount))

    def correct_cell(self, account, day, difference):
        """Correct the value of a past day by the difference."""
        self.go(("correct", account, day, difference))

    def evening(self):
        """Let the day end; return the answers that are shown, as an ascending tuple."""
        return self.go(("evening",))

    def grant_right(self, name, right):
        """Grant the right under this name."""
        self.go(("grant", name, right))

    def end_right(self, name):
        """End the right with this name."""
        self.go(("end", name))

    def halve_right(self, name, accounts, left, right):
        """Replace the right by its halves for these accounts."""
        self.go(("halve", name, accounts, left, right))

    def merge_archives(self, one, other, fresh):
        """Replace two archives by the merged one."""
        self.go(("merge", one, other, fresh))

    def split_into(self, archive, accounts, left, right):
        """Replace an archive by the one with these accounts and the one with the others."""
        self.go(("split", archive, accounts, left, right))

    def wall_off(self, name, group, question, m):
        """Add a wall."""
        self.go(("wall", name, group, question, m))

    def take_down(self, name):
        """Remove a wall."""
        self.go(("unwall", name))

    def bars_now(self, step):
        """Return the word that bars the step, which may be any value, or None."""
        return world_bar(self.states[-1], step)

    def falls_by(self, step):
        """Return the name of the first wall that would fall if the step is barred by that, otherwise None."""
        state = self.states[-1]
        return wall_felled(state, step) if world_bar(state, step) == "wall" else None

    def day_now(self):
        """Return the day."""
        return self.states[-1].day

    def archive_names(self):
        """Return the names of the archives, ascending."""
        return tuple(sorted(self.states[-1].archives))

    def right_names(self):
        """Return the names of the rights of all archives, ascending."""
        return tuple([name for name, right in all_rights(self.states[-1])])

    def archive_named(self, name):
        """Return the archive with this name; raise UnknownName."""
        archives = self.states[-1].archives
        if name not in archives:
            raise UnknownName(name)
        return archives[name]

    def walls_now(self):
        """Return the ascending tuple of pairs (name, wall)."""
        return named_walls(self.states[-1])

    def data_now(self):
        """Return the complete data."""
        return complete_data(self.states[-1])

    def answers_shown(self):
        """Return the tuple of (day, name, person, question, value) of all answers that were shown."""
        return self.states[-1].shown

    def answer_now(self, question):
        """Return the answer of the question; raise NotAnswerable."""
        answer = answer_in(self.states[-1], question)
        if answer is None:
            raise NotAnswerable(question)
        return answer

    def known_now(self, group):
        """Return the rows that the group knows, ascending."""
        return rows_shown(self.states[-1].shown, group)

    def knows_now(self, group, question):
        """Return the pair (v, g) that states what the group knows about the question."""
        return told_about(self.known_now(group), self.data_now(), question)

    def stands_now(self, group, question, m):
        """Return whether the wall (group, question, m) stands."""
        return lets_stand(self.states[-1], (group, question, m))

    def cost_now(self, archive):
        """Return the cost of the archive's rights in the evening of the day; raise UnknownName."""
        return cost_of(self.archive_named(archive)[2], self.day_now())

    def shares_now(self, archive):
        """Return the fair shares of the archive's rights; raise UnknownName."""
        return fair_shares(self.archive_named(archive)[2], self.day_now())

    def endings_now(self, archive, most):
        """Return the minimal sets of the archive's rights whose end leaves at most this cost; raise UnknownName."""
        return least_endings(self.archive_named(archive)[2], self.day_now(), most)

    def givings_now(self, group, question, m):
        """Return the minimal sets of rights whose end lets the wall (group, question, m) stand."""
        wall = (group, question, m)
        return sets_to_end(all_rights(self.states[-1]), self.day_now(), self.known_now(group), wall)

    def log(self):
        """Return the tuple of all steps that were done."""
        return tuple(self.past)

    def undo(self):
        """Remove the last step and return it; raise NothingToUndo."""
        self.started += 1
        try:
            if len(self.past) == 0:
                raise NothingToUndo(0)
            self.states.pop()
            return self.past.pop()
        finally:
            self.finished += 1

    def do_all(self, steps, *, keep=False):
        """Do the steps and return how many they are; raise InvalidStep.

        If one is barred, none of them stays done; those before it stay done if keep is True.
        """
        self.started += 1
        many = len(self.past)
        try:
            for step in list(steps):
                self.take(step)
            return len(steps)
        except InvalidStep:
            if not keep:
                del self.past[many:]
                del self.states[many + 1:]
            raise
        finally:
            self.finished += 1

    def counts(self):
        """Return the pair of the numbers of started and of finished operations."""
        return (self.started, self.finished)
