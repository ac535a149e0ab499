"""Shows a town as the text of which it is read."""


def show(town):
    rows = [" ".join(["yard", town[0]])]
    rows.extend([street_row(street) for street in town[1]])
    rows.extend([ban_row(ban) for ban in town[2]])
    return "\n".join(rows)


def street_row(street):
    word = "lane" if street[4] == 1 else "street"
    return " ".join([word, street[0], street[1], street[2], str(street[3])])


def ban_row(ban):
    return " ".join(["ban", ban[0], ban[1]])
