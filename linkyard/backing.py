"""An image, read back to the rows of one part."""

from linkyard.ops import TO_LABELS, alone_at, near_goal, starts_in, way_at, word_at
from linkyard.words import word_in


def section_name(image, number, place):
    if place == image.main:
        return "main"
    return ("c" if image.sections[number][0] == "code" else "d") + str(number)


def names_by_places(image):
    """From the place where each section begins to its name, in their order."""
    names = {}
    place = 0
    for number, section in enumerate(image.sections):
        names[place] = section_name(image, number, place)
        place += section[1]
    return names


def labels_of(code):
    """From each place of a code that a go or an ifnot leads to to its label."""
    goals = [near_goal(code, start) for start in starts_in(code) if word_at(code, start) in TO_LABELS]
    labels = {}
    for number, goal in enumerate(sorted(set(goals))):
        labels[goal] = "l" + str(number)
    return labels


def goal_at(code, start, place, labels, names):
    """What the goal of an operation is called; its code begins at a place of the image."""
    if word_at(code, start) in TO_LABELS:
        return labels[near_goal(code, start)]
    if way_at(code, start) == "near":
        return names[place + near_goal(code, start)]
    return names[word_in(code, start + 1)]


def op_row(code, start, place, labels, names):
    alone = alone_at(code, start)
    if alone is not None:
        return alone.row()
    return word_at(code, start) + " " + goal_at(code, start, place, labels, names)


def code_rows(code, place, names):
    labels = labels_of(code)
    rows = []
    for start in starts_in(code):
        if start in labels:
            rows.append("at " + labels[start])
        rows.append(op_row(code, start, place, labels, names))
    return rows


def data_rows(data):
    return ["word " + str(word_in(data, place)) for place in range(2, len(data), 2)]


def rows_back(image):
    """The text of a part which, assembled and linked alone, is the same image."""
    names = names_by_places(image)
    rows = ["part back", "shared main"]
    for place, section in zip(list(names), image.sections):
        row = image.body[place:place + section[1]]
        rows.append(section[0] + " " + names[place])
        rows.extend(code_rows(row, place, names) if section[0] == "code" else data_rows(row))
    return "\n".join(rows)
