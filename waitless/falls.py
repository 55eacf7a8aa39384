"""Falls: courses in which what is answered is wrong, walked to by odd papers."""

from waitless.asking import ask_answer, ask_rounds
from waitless.courses import makes_course, views_behind
from waitless.judging import is_rowlike
from waitless.odd import ask_odd_paper
from waitless.rows import hands_in, part_with
from waitless.tasks import ask_task
from waitless.walks import ask_order, first_room, NOWHERE, room_behind


def is_fall(task, rounds, answer, thing):
    """Whether thing, of any value, is a fall of what answer tells behind so many rounds."""
    ask_task(task)
    ask_rounds(rounds)
    if not isinstance(thing, tuple) or len(thing) != 3 or not task.has(thing[0]):
        return False
    row, course, answers = thing
    if not makes_course(hands_in(row), course) or len(course) != rounds:
        return False
    if not is_rowlike(answers) or answers in task.answers(row):
        return False
    return answers == answered_behind(answer, row, course)


def walk_to_fall(task, paper, rounds, answer, order):
    """The fall that is met first on the way from room to room on which paper tells the numbers."""
    ask_task(task)
    ask_odd_paper(task, paper)
    ask_rounds(rounds)
    whole, numbers = paper
    ask_order(whole, order)
    room = first_room(order, rounds)
    came = NOWHERE
    answers = answered_behind(answer, part_with(whole, room[0]), room[1])
    while answers in task.answers(part_with(whole, room[0])):
        # What is answered rightly has numbers of this room's hands, so that the way can't end here.
        got = {place[0]: numbers[place] for place in answers}
        room, came = room_behind(order, room, came, got)
        answers = answered_behind(answer, part_with(whole, room[0]), room[1])
    return (part_with(whole, room[0]), room[1], answers)


def answered_behind(answer, row, course):
    """The row of what is answered by the hands of row behind course."""
    return tuple([(corner[0], ask_answer(answer, corner)) for corner in views_behind(row, course).items()])
