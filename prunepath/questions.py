"""Questions: asked of values, parting a group, and all of them that a group gives rise to."""


def says(question, values):
    value = values[question[1]]
    if question[0] == "most":
        return value <= question[2]
    return value == question[2]


def parted(question, group):
    yes = []
    no = []
    for row in group:
        if says(question, row[0]):
            yes.append(row)
        else:
            no.append(row)
    return (yes, no)


def questions_of_column(place, sort, found):
    if sort == "number":
        # At the greatest value no row would be left for no.
        return [("most", place, value) for value in found[:-1]]
    if len(found) < 2:
        return []
    return [("is", place, word) for word in found]


def questions(columns, group):
    told = []
    for place, column in enumerate(columns):
        found = sorted(set([row[0][place] for row in group]))
        told.extend(questions_of_column(place, column[1], found))
    return told
