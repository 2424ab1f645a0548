"""Give papers and fewest papers: which rights have to be given up so that a wall stands."""

from askrights.giving import owned_left, rows_left, sets_to_end, wall_names
from askrights.subsets import left_out
from askrights.wallpapers import wall_paper


def paper_without(rights, today, known, wall, names):
    """Return a wall paper for the rows that are left if these rights are given up."""
    return wall_paper(rows_left(rights, today, known, wall, names), wall[1], wall[2])


def give_paper(rights, today, known, wall):
    """Return a give paper, or None if there is no sufficient set."""
    sets = sets_to_end(rights, today, known, wall)
    if sets == ():
        return None
    names = sets[0]
    change = paper_without(rights, today, known, wall, names)[1]
    reasons = [paper_without(rights, today, known, wall, left_out(names, [name]))[1:] for name in names]
    return (names, change, tuple(reasons))


class FewestNodes:
    """The nodes of a fewest paper. The order of the names in a path does not matter, so each node is made once."""

    def __init__(self, rights, today, known, wall, sets):
        self.rights = rights
        self.today = today
        self.known = known
        self.wall = wall
        self.sets = sets
        self.fewest = min([len(names) for names in sets])
        self.found = {}

    def suffices(self, names):
        """Return whether the set of names is sufficient."""
        return any([left_out(smaller, names) == [] for smaller in self.sets])

    def needed(self, path):
        """Return names of rights that make the wall fall without those of the path, none of which can be spared."""
        # Few names here mean few children of the node.
        spared = list(path)
        for name in wall_names(self.rights, self.wall):
            if not self.suffices(spared + [name]):
                spared.append(name)
        return left_out(wall_names(self.rights, self.wall), spared)

    def made(self, path):
        """Return a new node with this path."""
        names = self.needed(path)
        owned = owned_left(self.rights, self.today, self.known, self.wall, path)
        # A zero row in place of a row that is not needed gets the fraction 0.
        rows = [row if owner is None or owner in names else () for owner, row in owned]
        word, fractions, rest = wall_paper(rows, self.wall[1], self.wall[2])
        if len(path) + 1 >= self.fewest:
            return (fractions, rest, ())
        return (fractions, rest, tuple([(name, self.node(path + [name])) for name in names]))

    def node(self, path):
        """Return the node with this path, a list of names."""
        key = tuple(sorted(path))
        if key not in self.found:
            self.found[key] = self.made(path)
        return self.found[key]


def fewest_paper(rights, today, known, wall):
    """Return a fewest paper."""
    sets = sets_to_end(rights, today, known, wall)
    if sets == ():
        word, fractions, rest = paper_without(rights, today, known, wall, wall_names(rights, wall))
        return ("never", fractions, rest)
    names = min(sets, key=len)
    change = paper_without(rights, today, known, wall, names)[1]
    node = () if names == () else FewestNodes(rights, today, known, wall, sets).node([])
    return ("fewest", names, change, node)
