"""Papers of choices: each choice has one of just one of the three kinds."""

from waitless.errors import BadHands, TooMany
from waitless.lattices import added, plus, put_down, steps_down, weights_against
from waitless.odd import ask_odd_paper
from waitless.pairs import ties_away
from waitless.rows import part_with
from waitless.tasks import ask_task
from waitless.weights import all_lone_choices, ask_lone_choice, ask_three, counts_along, is_triple, lone_choices_many
from waitless.weights import makes_choice_paper, side_ends, side_web, sides_of, steps_along, ties_of

ANSWERS_MOST = 300
CHOICES_MOST = 64


class Frame:
    """Sums of ties as vectors, so that whatever leads round along a side's ways is nothing.

    A tie along the ways of a side is the difference of its two places, and the side's root is nothing. All other
    ties stand for themselves. An answer to row is the sum of its ties, that of the first and the last hand taken off.
    """

    def __init__(self, task, row, roots):
        self._row = row
        self._roots = roots
        self._columns = {}
        self._along = {}
        for number, side in enumerate(sides_of(row)):
            away = ties_away(side_web(task, row, side), roots[number])
            for tie in task.answers(part_with(row, side)):
                if tie[0] in away:
                    self._along[tie] = number
        self.basis = steps_down([self.rim(answer) for answer in task.answers(row)])

    def tie(self, tie):
        """The vector of a tie."""
        if tie not in self._along:
            return {self._column(tie): 1}
        return self.between(self._along[tie], tie[0], tie[1])

    def between(self, number, one, other):
        """The vector of the ways from one place to the other of the side with this number."""
        return plus(self._place(number, other), self._place(number, one), -1)

    def rim(self, answer):
        """The vector of an answer to the row."""
        low, middle, high = [part_with(answer, side) for side in sides_of(self._row)]
        return plus(plus(self.tie(low), self.tie(middle), 1), self.tie(high), -1)

    def _place(self, number, place):
        if place == self._roots[number]:
            return {}
        return {self._column((number, place)): 1}

    def _column(self, key):
        return self._columns.setdefault(key, len(self._columns))


def choice_paper(task, row, choice):
    """A paper of choice."""
    ask_three(task, row)
    ask_lone_choice(task, row, choice)
    ask_few_answers(task, row)
    paper = unfilled_paper(task, row, choice, {})
    if paper is None:
        return filled_paper(task, row, choice)
    return paper


def all_rounds(task, row):
    """The dict from all choices to papers, None if the ways of some choice can be filled."""
    ask_three(task, row)
    if lone_choices_many(task, row) > CHOICES_MOST:
        raise TooMany(CHOICES_MOST)
    ask_few_answers(task, row)
    frames = {}
    papers = {}
    for choice in all_lone_choices(task, row):
        papers[choice] = unfilled_paper(task, row, choice, frames)
        if papers[choice] is None:
            return None
    return papers


def is_all_rounds(task, row, thing):
    """Whether thing, of any value, is a dict from all choices to papers none of which is filled."""
    ask_three(task, row)
    return makes_all_rounds(task, row, thing)


def from_odd(task, paper):
    """The dict from all choices to papers that an odd paper of three hands makes."""
    ask_task(task)
    ask_odd_paper(task, paper)
    row, numbers = paper
    if len(row) != 3:
        raise BadHands("an odd paper of three hands is asked for")
    papers = {}
    for choice in all_lone_choices(task, row):
        papers[choice] = apart_paper(task, row, choice)
        if papers[choice] is None:
            weights = {tie: 1 if numbers[tie[0]] != numbers[tie[1]] else 0 for tie in ties_of(task, row)}
            papers[choice] = ("weights", 2, weights)
    return papers


def ask_few_answers(task, row):
    """TooMany(300) if row has more answers than that."""
    if len(task.answers(row)) > ANSWERS_MOST:
        raise TooMany(ANSWERS_MOST)


def makes_all_rounds(task, row, thing):
    """Whether thing is a dict from all choices to papers none of which is filled."""
    if not isinstance(thing, dict) or not all([is_triple(key) for key in thing]):
        return False
    # All choices are told only if they are as many as the keys.
    if len(thing) != lone_choices_many(task, row) or sorted(thing) != all_lone_choices(task, row):
        return False
    return all([makes_choice_paper(task, row, choice, paper) and paper[0] != "filled"
                for choice, paper in thing.items()])


def unfilled_paper(task, row, choice, frames):
    """A paper of choice that is not filled, None if there is none; frames keeps the Frames made, by their roots."""
    paper = apart_paper(task, row, choice)
    if paper is not None:
        return paper
    ends = [side_ends(row, choice, side) for side in sides_of(row)]
    roots = tuple([min(ties_away(side_web(task, row, side), one)) for side, (one, _) in zip(sides_of(row), ends)])
    if roots not in frames:
        frames[roots] = Frame(task, row, roots)
    frame = frames[roots]
    low, middle, high = [frame.between(number, one, other) for number, (one, other) in enumerate(ends)]
    rest, _, number = put_down(frame.basis, plus(plus(low, middle, 1), high, -1))
    if len(rest) == 0:
        return None
    modulus, weights = weights_against(frame.basis, rest, number)
    return ("weights", modulus, {tie: weighed(frame.tie(tie), weights) % modulus for tie in ties_of(task, row)})


def filled_paper(task, row, choice):
    """The filled paper of choice, whose ways can be filled."""
    answers = task.answers(row)
    columns = {tie: number for number, tie in enumerate(ties_of(task, row))}
    sides = [(side_web(task, row, side), side_ends(row, choice, side)) for side in sides_of(row)]
    trees = [tree_from(web, ends[0]) for web, ends in sides]
    shortest = [path_to(tree, pair[1][1]) for tree, pair in zip(trees, sides)]
    target = as_vector(columns, shortest)
    basis = steps_down([{columns[part_with(answer, side)]: 1 for side in sides_of(row)} for answer in answers])
    rest, counts, _ = put_down(basis, target)
    # The shortest ways are left only as far as they must be: what leads round is let loop by loop.
    loops = loops_along(task, row, trees)
    number = len(answers)
    while len(rest) > 0:
        basis = added(basis, as_vector(columns, [loops.pop()]), {number: 1})
        rest, counts, _ = put_down(basis, target)
        number += 1
    told = {answers[at]: counts[at] for at in sorted(counts) if at < len(answers)}
    flows = counts_along(row, told)
    return ("filled", tuple([way_along(web, ends, flows) for web, ends in sides]), told)


def as_vector(columns, ways):
    """The vector of the steps along ways, ties being columns."""
    steps = steps_along(ways)
    return {columns[tie]: steps[tie] for tie in steps if steps[tie] != 0}


def loops_along(task, row, trees):
    """The list of the closed walks that go by one tie of answers to row, and else along the trees of the sides."""
    found = []
    for side, tree in zip(sides_of(row), trees):
        held = {part_with(answer, side): True for answer in task.answers(row)}
        for one, other in task.answers(part_with(row, side)):
            if (one, other) in held and one in tree and tree[one] != other and tree[other] != one:
                found.append(path_to(tree, one) + path_to(tree, other)[::-1])
    return found


def apart_paper(task, row, choice):
    """The paper of the first side that has no way, None if all have one."""
    for side in sides_of(row):
        one, other = side_ends(row, choice, side)
        away = ties_away(side_web(task, row, side), one)
        if other not in away:
            return ("apart", side, tuple(sorted(away)))
    return None


def weighed(vector, weights):
    """What a vector weighs."""
    return sum([vector[column] * weights.get(column, 0) for column in vector])


def way_along(web, ends, flows):
    """A way from end to end with just so many steps along each tie as flows tell, those there and back left out."""
    tree = tree_from(web, ends[0])
    way = [ends[0]]
    # Rounds by the ties that are not in the tree leave just one way for all others to come out right.
    for one, other in sorted(flows):
        if one in tree and other in web[one] and tree[one] != other and tree[other] != one:
            times = flows[(one, other)]
            first, last = (one, other) if times > 0 else (other, one)
            for _ in range(abs(times)):
                way = gone_on(way, path_to(tree, first)[1:] + path_to(tree, last)[::-1])
    return tuple(gone_on(way, path_to(tree, ends[1])[1:]))


def tree_from(web, place):
    """The dict from all places that walks from place come to, to the place ahead of each on a shortest one."""
    tree = {place: None}
    reached = [place]
    while len(reached) > 0:
        following = []
        for one in reached:
            for other in web[one]:
                if other not in tree:
                    tree[other] = one
                    following.append(other)
        reached = following
    return tree


def path_to(tree, place):
    """The list of the places of the walk to place along tree."""
    path = [place]
    while tree[path[-1]] is not None:
        path.append(tree[path[-1]])
    return path[::-1]


def gone_on(way, places):
    """Way with places behind it, without steps that are taken back at once."""
    found = list(way)
    for place in places:
        if len(found) > 1 and found[-2] == place:
            found.pop()
        else:
            found.append(place)
    return found
