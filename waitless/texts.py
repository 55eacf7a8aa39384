"""Texts: rows, courses, weavings and tasks told in figures, and read back."""

from waitless.asking import ask_hands, ask_row
from waitless.courses import ask_course, makes_course
from waitless.errors import BadText, BadWeaving
from waitless.judging import are_steps_of, HANDS_MOST, is_rising, is_rowlike
from waitless.rows import by_length, hands_in
from waitless.tasks import ask_task, is_task_table, Task

FIGURES = "0123456789"
FIGURES_MOST = 9
NOTHING = "-"


def row_text(row):
    """The text of a row."""
    ask_row(row)
    return text_of_row(row)


def course_text(hands, course):
    """The text of a course of hands."""
    ask_hands(hands)
    ask_course(hands, course)
    return text_of_course(course)


def weaving_text(weaving):
    """The text of a weaving."""
    if not are_steps_of(tuple(range(HANDS_MOST)), weaving):
        raise BadWeaving("a weaving is a tuple of hands")
    return text_of_weaving(weaving)


def task_text(task):
    """The text of a task."""
    ask_task(task)
    lines = [f"hands {task.many}"]
    for row in task.inputs():
        answers = " / ".join([text_of_row(answer) for answer in task.answers(row)])
        lines.append(f"{text_of_row(row)} -> {answers}")
    return "\n".join(lines)


def read_row(text):
    """The row with this text."""
    row = row_read(text)
    if row is None:
        raise BadText(0)
    return row


def read_course(hands, text):
    """The course of hands with this text."""
    ask_hands(hands)
    course = course_read(hands, text)
    if course is None:
        raise BadText(0)
    return course


def read_weaving(text):
    """The weaving with this text."""
    weaving = weaving_read(text)
    if weaving is None:
        raise BadText(0)
    return weaving


def read_task(text):
    """The Task with this text."""
    if not isinstance(text, str):
        raise BadText(None)
    lines = text.split("\n")
    many = many_read(lines[0])
    if many is None:
        raise BadText(0)
    table = {}
    ahead = ()
    for number in range(1, len(lines)):
        found = answers_read(lines[number])
        if found is None or by_length(found[0]) <= by_length(ahead):
            raise BadText(number)
        ahead = found[0]
        table[ahead] = found[1]
    if not is_task_table(many, table):
        raise BadText(len(lines) - 1)
    return Task(many, table)


def text_of_row(row):
    """The text of a row."""
    return " ".join([f"{hand}:{value}" for hand, value in row])


def text_of_blocks(blocks):
    """The text of blocks."""
    return "|".join([text_of_hands(block) for block in blocks])


def text_of_course(course):
    """The text of a course."""
    if len(course) == 0:
        return NOTHING
    return ";".join([text_of_blocks(blocks) for blocks in course])


def text_of_weaving(weaving):
    """The text of a weaving."""
    if len(weaving) == 0:
        return NOTHING
    return text_of_hands(weaving)


def text_of_hands(hands):
    """The figures of hands, nothing between."""
    return "".join([str(hand) for hand in hands])


def number_read(text):
    """The number with these figures, None if there is none of at most nine figures."""
    if not 1 <= len(text) <= FIGURES_MOST or not all([sign in FIGURES for sign in text]):
        return None
    # A number has no zeros ahead.
    if text[0] == "0" and len(text) > 1:
        return None
    return int(text)


def hands_read(text):
    """The tuple of the hands with these figures; None if some sign is none of a hand."""
    if not all([sign in FIGURES[:HANDS_MOST] for sign in text]):
        return None
    return tuple([int(sign) for sign in text])


def row_read(text):
    """The row with this text, None if there is none."""
    if not isinstance(text, str):
        return None
    row = []
    for word in text.split(" "):
        hand, _, value = word.partition(":")
        row.append((number_read(hand), number_read(value)))
    if is_rowlike(tuple(row)):
        return tuple(row)
    return None


def course_read(hands, text):
    """The course of hands with this text, None if there is none."""
    if not isinstance(text, str):
        return None
    if text == NOTHING:
        return ()
    course = tuple([tuple([hands_read(word) for word in words.split("|")]) for words in text.split(";")])
    if makes_course(hands, course):
        return course
    return None


def weaving_read(text):
    """The weaving with this text, None if there is none."""
    if not isinstance(text, str) or text == "":
        return None
    if text == NOTHING:
        return ()
    return hands_read(text)


def many_read(line):
    """The number of hands that the first line of the text of a task tells, None if it tells none."""
    for many in range(1, HANDS_MOST + 1):
        if line == f"hands {many}":
            return many
    return None


def answers_read(line):
    """The pair of the input and the list of the answers that a line of the text of a task tells, None if it doesn't."""
    head, _, tail = line.partition(" -> ")
    row = row_read(head)
    answers = [row_read(word) for word in tail.split(" / ")]
    if row is None or not all([answer is not None and hands_in(answer) == hands_in(row) for answer in answers]):
        return None
    if not is_rising(answers):
        return None
    return (row, answers)
