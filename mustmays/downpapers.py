"""DOWN PAPERS: row by row the SORTS that GO, and why."""

from mustmays.rounds import GoneSorts


def down_paper(house, saying):
    """The DOWN PAPER of all SORTS that GO; None where one is LEFT that tells the SAYING false; NoHand."""
    gone = GoneSorts(house, saying)
    if gone.left_false() != 0:
        return None
    return gone_paper(gone)


def gone_paper(gone):
    """All rounds as rows, one behind the other."""
    rows = []
    for going in gone.rounds:
        rows.extend([(gone.table.truths_in(at), why) for at, why in going])
    return tuple(rows)
