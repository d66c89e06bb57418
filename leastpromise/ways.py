"""Where wrong ways lead two places, and what is carried along them."""


def wrong_ends(ground, deep, places, begin, lead):
    """What is carried behind wrong ways of up to so many rows, from this begin on: for each a shortest way's rows.

    A row's move leads what is carried on to something else, or to None: then no way goes on by it.
    """
    ends, known = {begin: ()}, {places + (begin,): True}
    level = [(places, begin, ())]
    for _ in range(deep):
        ahead, level = level, []
        for (here, there), carried, rows in ahead:
            for move in ground.wrong_moves(here, there):
                later = lead(carried, move)
                behind = (move[3], move[4], later)
                if later is not None and behind not in known:
                    known[behind] = True
                    ends.setdefault(later, rows + (move[5],))
                    level.append((behind[:2], later, rows + (move[5],)))
    return ends
