"""Choices: what hands answer that see nobody else, no farther apart than so many rounds can lead."""

from waitless.asking import ask_rounds
from waitless.courses import COURSE_MOST
from waitless.errors import TooMany
from waitless.judging import is_number
from waitless.pairs import all_spots, ask_slim, is_spotlike, pair_inputs, ties_away, web_of
from waitless.solving import ask_few_ways, Puzzle, solution

SPOTS_MOST = 100


class Search:
    """What the search for a far paper needs to know: it is not changed any more."""

    def __init__(self, task, rounds):
        self.task = task
        self.ties = ties_let(rounds)
        self.alone = answers_alone(task)
        self.near = {row: pairs_within(pairs, self.ties) for row, pairs in all_far(task).items()}
        self.beside = {spot: [] for spot in self.alone}
        for row in self.near:
            self.beside[row[0]].append((row, row[1]))
            self.beside[row[1]].append((row, row[0]))


def is_choice(task, rounds, thing):
    """Whether thing, of any value, is a choice for so many rounds, or for some number of them."""
    ask_slim(task)
    ask_rounds_or_none(rounds)
    return makes_choice(task, rounds, thing)


def choice(task, rounds):
    """A choice for so many rounds, or for some number of them; None if there is none."""
    ask_slim(task)
    ask_rounds_or_none(rounds)
    ask_few_spots(task)
    return solution(choice_puzzle(task, all_far(task), ties_let(rounds)))


def least(task):
    """The least number of rounds for which there is a choice, None if there is none for any."""
    ask_slim(task)
    ask_few_spots(task)
    told = all_far(task)
    if solution(choice_puzzle(task, told, None)) is None:
        return None
    rounds = 0
    while solution(choice_puzzle(task, told, ties_let(rounds))) is None:
        rounds += 1
    return rounds


def far_paper(task, rounds):
    """A far paper for so many rounds, or for any number of them; None if there is a choice."""
    ask_slim(task)
    ask_rounds_or_none(rounds)
    ask_few_spots(task)
    search = Search(task, rounds)
    return paper_from(search, {}, search.alone)


def is_far_paper(task, rounds, thing):
    """Whether thing, of any value, is a far paper for so many rounds, or for any number of them."""
    ask_slim(task)
    ask_rounds_or_none(rounds)
    alone = answers_alone(task)
    waiting = [(thing, {})]
    # Papers may stand in papers so deep that functions can't follow by calling themselves.
    while len(waiting) > 0:
        paper, chosen = waiting.pop()
        if not isinstance(paper, tuple) or len(paper) != 3 or not isinstance(paper[0], str):
            return False
        if paper[0] == "ask" and is_asking(alone, chosen, paper):
            for value in paper[2]:
                waiting.append((paper[2][value], with_chosen(chosen, paper[1], value)))
        elif paper[0] != "far" or not tells_far(task, ties_let(rounds), chosen, paper):
            return False
    return True


def ask_rounds_or_none(rounds):
    """BadRounds unless rounds is None or a number from 0 to 40."""
    if rounds is not None:
        ask_rounds(rounds, COURSE_MOST)


def ask_few_spots(task):
    """TooMany(100) for more spots than that, TooMany(4096) for more ways than that to answer at all of them."""
    alone = answers_alone(task)
    if len(alone) > SPOTS_MOST:
        raise TooMany(SPOTS_MOST)
    ask_few_ways(list(alone.values()))


def ties_let(rounds):
    """How many ties a walk may have for so many rounds; None for None: any number."""
    if rounds is None:
        return None
    ties = 1
    for _ in range(rounds):
        ties = 3 * ties
    return ties


def answers_alone(task):
    """The dict from the spots, ascending, to the lists of the numbers that are answers to them."""
    return {spot: [answer[0][1] for answer in task.answers((spot,))] for spot in all_spots(task)}


def all_far(task):
    """For each input of two hands the dict from the pairs of answers alone between which walks lead to their ties."""
    alone = answers_alone(task)
    found = {}
    for row in pair_inputs(task):
        one, other = row
        web = web_of(task, row)
        found[row] = {}
        for value in alone[one]:
            away = ties_away(web, (one[0], value))
            for last in alone[other]:
                if (other[0], last) in away:
                    found[row][(value, last)] = away[(other[0], last)]
    return found


def pairs_within(pairs, ties):
    """The dict of those of pairs that are no more than so many ties apart, None for any number."""
    return {pair: True for pair in pairs if ties is None or pairs[pair] <= ties}


def choice_puzzle(task, told, ties):
    """The Puzzle whose solutions are the choices for walks of at most so many ties."""
    bonds = [(row, list(pairs_within(told[row], ties))) for row in told]
    return Puzzle(answers_alone(task), bonds)


def makes_choice(task, rounds, thing):
    """Whether thing is a choice for so many rounds."""
    if not isinstance(thing, dict) or not all([is_spotlike(key) for key in thing]):
        return False
    alone = answers_alone(task)
    if sorted(thing) != list(alone) or not all([is_number(value) for value in thing.values()]):
        return False
    if not all([thing[spot] in alone[spot] for spot in alone]):
        return False
    return all([is_near(task, row, ties_let(rounds), thing) for row in pair_inputs(task)])


def is_near(task, row, ties, chosen):
    """Whether what is chosen for the two spots of row are places, no more than so many ties apart."""
    one, other = places_chosen(row, chosen)
    # From what is no place of the web no walk leads on.
    away = ties_away(web_of(task, row), one)
    return other in away and (ties is None or away[other] <= ties)


def places_chosen(row, chosen):
    """The list of the two places that are chosen for the spots of row."""
    return [(spot[0], chosen[spot]) for spot in row]


def with_chosen(chosen, spot, value):
    """The dict of what is chosen, value for spot too."""
    found = {other: chosen[other] for other in chosen}
    found[spot] = value
    return found


def paper_from(search, chosen, left):
    """A far paper behind what is chosen, None if some choice has all of it.

    left has for each other spot the answers that are near to all that is chosen.
    """
    if len(left) == 0:
        return None
    spot = min(left, key=lambda one: len(left[one]))
    papers = {}
    for value in search.alone[spot]:
        further = with_chosen(chosen, spot, value)
        row = far_row(search, further, spot)
        if row is None:
            papers[value] = paper_from(search, further, left_behind(search, left, spot, value))
        else:
            papers[value] = ("far", row, levels_of(search, row, further))
        if papers[value] is None:
            return None
    return ("ask", spot, papers)


def far_row(search, chosen, spot):
    """An input of spot and another one that is chosen whose places are too far apart, None if there is none."""
    for row, other in search.beside[spot]:
        if other in chosen and (chosen[row[0]], chosen[row[1]]) not in search.near[row]:
            return row
    return None


def left_behind(search, left, spot, value):
    """What is left for the other spots behind the choice of value for spot."""
    found = {other: left[other] for other in left if other != spot}
    for row, other in search.beside[spot]:
        if other in found:
            near = search.near[row]
            if row[0] == spot:
                found[other] = [last for last in found[other] if (value, last) in near]
            else:
                found[other] = [last for last in found[other] if (last, value) in near]
    return found


def levels_of(search, row, chosen):
    """The levels that show that the two places chosen for row are too far apart."""
    web = web_of(search.task, row)
    one, other = places_chosen(row, chosen)
    away = ties_away(web, one)
    every = sorted(set(list(web) + [one, other]))
    if search.ties is None:
        return {place: 0 if place in away else 1 for place in every}
    return {place: away.get(place, search.ties + 1) for place in every}


def is_asking(alone, chosen, paper):
    """Whether a triple that begins with "ask" is a far paper, the papers in it aside."""
    spot, papers = paper[1:]
    if not is_spotlike(spot) or spot not in alone or spot in chosen:
        return False
    if not isinstance(papers, dict) or not all([is_number(value) for value in papers]):
        return False
    return sorted(papers) == alone[spot]


def tells_far(task, ties, chosen, paper):
    """Whether a triple that begins with "far" shows that two places chosen are too far apart."""
    row, levels = paper[1:]
    if not task.has(row) or len(row) != 2 or not all([spot in chosen for spot in row]):
        return False
    if not isinstance(levels, dict) or not all([is_spotlike(key) for key in levels]):
        return False
    one, other = places_chosen(row, chosen)
    web = web_of(task, row)
    if sorted(levels) != sorted(set(list(web) + [one, other])):
        return False
    if not all([is_number(level) for level in levels.values()]):
        return False
    most = 0 if ties is None else 1
    if not all([abs(levels[place] - levels[last]) <= most for place in web for last in web[place]]):
        return False
    return abs(levels[one] - levels[other]) > (0 if ties is None else ties)
