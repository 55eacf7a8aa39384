"""Matching: whether two tasks are the same but for the names of their values.

The values, inputs and answers of both tasks are the nodes of one web. Nodes get colors, finer and finer ones by the
colors they are tied to; whoever may become another one has its color. Where colors leave a choice, one value is tried
with each that it may become.
"""

from waitless.rows import hands_in

OWN = -1
FEW = 60


class Web:
    """The nodes of two tasks with their colors: first those of the one, then those of the other, from half on.

    The first ones of each, so many as there are names, are the values.
    """

    def __init__(self, edges, colors, names):
        self.edges = edges
        self.half = len(edges) // 2
        self.colors = colors
        self.names = names
        self.members = [{} for _ in edges]
        self.trail = []
        for node in range(len(colors)):
            self.members[colors[node]][node] = True

    def recolor(self, nodes, color):
        """Give these nodes, all of one color, a color of their own."""
        fresh = len(self.members)
        self.members.append({node: True for node in nodes})
        for node in nodes:
            self.trail.append((node, color))
            self.colors[node] = fresh
            del self.members[color][node]

    def undo(self, mark):
        """Take back all colors given since the trail was so long."""
        while len(self.trail) > mark:
            node, color = self.trail.pop()
            del self.members[self.colors[node]][node]
            self.members[color][node] = True
            self.colors[node] = color

    def refine(self, changed):
        """Split colors until all nodes of one are tied alike; False if the tasks become unlike by it.

        Nodes of one color are tied alike but for their ties to these, the changed ones.
        """
        while len(changed) > 0:
            groups = self.groups_beside(changed)
            changed = []
            for color, alike in groups.items():
                if not all([self.is_even(nodes) for nodes in alike]):
                    return False
                for nodes in self.smaller_parts(color, alike):
                    self.recolor(nodes, color)
                    changed.extend(nodes)
        return True

    def is_even(self, nodes):
        """Whether both tasks have equally many of these nodes."""
        return 2 * len([node for node in nodes if node < self.half]) == len(nodes)

    def smaller_parts(self, color, alike):
        """The lists of nodes that get new colors when the groups of alike ones are told apart in a color.

        The largest part, perhaps what is in no group, keeps its color, so that few nodes change.
        """
        met = {node: True for nodes in alike for node in nodes}
        rest = len(self.members[color]) - len(met)
        if rest > max([len(nodes) for nodes in alike]):
            return alike
        parts = alike + [[node for node in self.members[color] if node not in met]]
        return [nodes for nodes in sorted(parts, key=len)[:-1] if len(nodes) > 0]

    def groups_beside(self, changed):
        """The dict from colors to the lists of lists of nodes that are tied, and tied alike, to changed ones."""
        ties = {}
        for node in changed:
            color = self.colors[node]
            for label, other in self.edges[node]:
                ties.setdefault(other, []).append((label, color))
        groups = {}
        for other, told in ties.items():
            groups.setdefault(self.colors[other], {}).setdefault(tuple(sorted(told)), []).append(other)
        return {color: list(groups[color].values()) for color in groups}

    def pair_up(self, one, other):
        """Let the node one become other, and refine; False if the tasks become unlike by it."""
        self.recolor([one, other], self.colors[one])
        return self.refine([one, other])

    def is_left(self, node):
        """Whether a node may become more than one."""
        return len(self.members[self.colors[node]]) > 2

    def values_left(self, values):
        """The list of those of values that may become more than one."""
        return [node for node in values if self.is_left(node)]

    def pieces(self, values):
        """The list of the lists of those of these values that are left and hang together by nodes that are left."""
        met = {}
        found = []
        for start in self.values_left(values):
            if start not in met:
                piece = self.piece_with(start)
                for node in piece:
                    met[node] = True
                found.append([node for node in piece if node < self.names])
        return found

    def piece_with(self, start):
        """The list of the nodes that are left and hang together with start."""
        met = {start: True}
        piece = [start]
        # The list grows while it is gone along by index.
        at = 0
        while at < len(piece):
            ties = self.edges[piece[at]]
            for _, other in ties:
                if other not in met and self.is_left(other):
                    met[other] = True
                    piece.append(other)
            at += 1
        return piece

    def choice_in(self, piece):
        """The value of a piece that may become the fewest."""
        return min([(len(self.members[self.colors[node]]), node) for node in piece])[1]

    def may_become(self, node):
        """The list of the values of the other task that node may become."""
        return sorted([other for other in self.members[self.colors[node]] if other >= self.half])


class Attempt:
    """A value of a piece, what it may become and was not tried with yet, and the pieces left behind the last try.

    Pieces are lists of values. whole tells how many values there were when pieces were last told apart.
    """

    def __init__(self, web, piece, whole):
        self.web = web
        self.piece = piece
        self.whole = whole
        self.whole_left = whole
        self.node = web.choice_in(piece)
        self.untried = web.may_become(self.node)[::-1]
        self.mark = len(web.trail)
        self.left = []

    def advance(self):
        """Take back the last try and do the next one that does not fail at once; False if there is none."""
        while len(self.untried) > 0:
            self.web.undo(self.mark)
            if self.web.pair_up(self.node, self.untried.pop()):
                self.left = self.pieces_left()
                return True
        self.web.undo(self.mark)
        return False

    def pieces_left(self):
        """The list of the pieces behind a try: all in one as long as telling them apart may take long."""
        values = self.web.values_left(self.piece)
        self.whole_left = self.whole
        if len(values) <= FEW or 2 * len(values) <= self.whole:
            self.whole_left = len(values)
            return self.web.pieces(values)
        return [values]


def is_matched(web):
    """Whether each node of the first task can become one of the other; then colors tell which."""
    if not web.refine(list(range(len(web.edges)))):
        return False
    for piece in web.pieces(list(range(web.names))):
        if not is_piece_matched(web, piece):
            return False
    return True


def is_piece_matched(web, piece):
    """Whether a piece can become one of the other task; it does not matter which, as they are all alike."""
    attempts = [Attempt(web, piece, len(piece))]
    if not attempts[0].advance():
        return False
    while len(attempts) > 0:
        last = attempts[-1]
        if len(last.left) == 0:
            attempts.pop()
        else:
            attempts.append(Attempt(web, last.left.pop(), last.whole_left))
            while not attempts[-1].advance():
                attempts.pop()
                if len(attempts) == 0:
                    return False
    return True


def matched_values(one, other, hands):
    """The dicts from values in inputs, and in answers, of the Task one to those of other, hands becoming hands."""
    if kinds_of(one, hands) != kinds_of(other, tuple(range(other.many))):
        return None
    first = nodes_of(one, hands)
    second = nodes_of(other, tuple(range(other.many)))
    if [len(told) for told in first] != [len(told) for told in second]:
        return None
    half = len(first[3])
    edges = first[3] + [[(label, half + node) for label, node in ties] for ties in second[3]]
    web = Web(edges, first[2] + second[2], len(first[0]) + len(first[1]))
    if not is_matched(web):
        return None
    return told_by(web, first, second)


def told_by(web, first, second):
    """The two dicts that the colors of a matched web tell."""
    partners = {web.colors[node]: node - web.half for node in range(web.half, web.half + web.names)}
    told = second[0] + second[1]
    become = [told[partners[web.colors[node]]] for node in range(web.names)]
    many = len(first[0])
    inputs = {first[0][at]: become[at] for at in range(many)}
    answers = {first[1][at]: become[many + at] for at in range(len(first[1]))}
    return (inputs, answers)


def kinds_of(task, hands):
    """The ascending list of the renamed hands of each input and of how many answers it has."""
    kinds = []
    for row, answers in task.table().items():
        kinds.append((tuple(sorted([hands[hand] for hand in hands_in(row)])), len(answers)))
    return sorted(kinds)


def nodes_of(task, hands):
    """The values in inputs, those in answers, the colors of all nodes of task, and what each is tied to."""
    table = task.table()
    inputs = sorted(set([pair[1] for row in table for pair in row]))
    answers = sorted(set([pair[1] for row in table for answer in table[row] for pair in answer]))
    input_at = {inputs[at]: at for at in range(len(inputs))}
    answer_at = {answers[at]: len(inputs) + at for at in range(len(answers))}
    colors = [0 for _ in inputs] + [1 for _ in answers]
    edges = [[] for _ in colors]
    for row in table:
        node = add_node(edges, row, hands, input_at)
        colors.append(2)
        for answer in table[row]:
            tie(edges, add_node(edges, answer, hands, answer_at), node, OWN)
            colors.append(3)
    return (inputs, answers, colors, edges)


def add_node(edges, row, hands, value_at):
    """The number of a new node, tied to the values of row by its renamed hands."""
    node = len(edges)
    edges.append([])
    for hand, value in row:
        tie(edges, node, value_at[value], hands[hand])
    return node


def tie(edges, one, other, label):
    """Tie two nodes."""
    edges[one].append((label, other))
    edges[other].append((label, one))
