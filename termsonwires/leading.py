"""Two tellers led by the same bits, and what each of them has said more than the other one."""

from termsonwires.beside import pair_on
from termsonwires.search import SIGNS
from termsonwires.speech import bare_rows

EVEN = ("", "")


def lead_of(one, other):
    """What each of two texts has more; None if neither begins with the other."""
    if one.startswith(other):
        return (one[len(other):], "")
    return ("", other[len(one):]) if other.startswith(one) else None


def alive_steps(rows, other_rows):
    """For each pair of states that are not dead to which the same bits lead, the list of such pairs behind it."""
    found = {}
    waiting = [(0, 0)]
    while waiting:
        pair = waiting.pop()
        if pair not in found and rows[pair[0]][2] != "dead" and other_rows[pair[1]][2] != "dead":
            found[pair] = [pair_on(rows, other_rows, pair, bit) for bit in (0, 1)]
            waiting.extend(found[pair])
    return {pair: [other for other in found[pair] if other in found] for pair in found}


def joint_pairs(rows, other_rows):
    """A dict of the joint pairs, each True."""
    steps = alive_steps(rows, other_rows)
    ahead = {pair: [] for pair in steps}
    for pair in steps:
        for other in steps[pair]:
            ahead[other].append(pair)
    found = {}
    waiting = [(p, q) for p, q in steps if rows[p][2] == "whole" and other_rows[q][2] == "whole"]
    while waiting:
        pair = waiting.pop()
        if pair not in found:
            found[pair] = True
            waiting.extend(ahead[pair])
    return found


class Leads:
    """The leads that the same bits come to, by joint pairs, the bits taken by length.

    Of a pair at most two leads are followed: whatever bits lead on to whole states, one of two unlike leads shows a
    misread word then. A lead None tells that neither text begins with the other; behind it each word is misread.
    """

    def __init__(self, teller, other_teller):
        self.tellers = (teller, other_teller)
        self.rows = bare_rows(teller[1])
        self.other_rows = bare_rows(other_teller[1])
        self.joint = joint_pairs(self.rows, self.other_rows)
        self.leads = {}
        self.waiting = []
        self.misread = None
        if (0, 0) in self.joint:
            self.meet((0, 0), lead_of(teller[0], other_teller[0]), None, None)
        self.follow()

    def meet(self, pair, lead, ahead, bit):
        """Bits come to the pair with this lead: those of the step with the number ahead, and the bit."""
        met = self.leads.setdefault(pair, [])
        if len(met) < 2 and None not in met and lead not in met:
            met.append(lead)
            self.waiting.append((pair, lead, ahead, bit))

    def follow(self):
        """Follows all leads, until a word is found to be misread."""
        k = 0
        while k < len(self.waiting) and self.misread is None:
            pair, lead, _, _ = self.waiting[k]
            if self.rows[pair[0]][2] == "whole":
                if lead != EVEN:
                    self.misread = self.bits_of(k)
            else:
                self.step_on(k, pair, lead)
            k += 1

    def step_on(self, k, pair, lead):
        for bit in (0, 1):
            behind = pair_on(self.rows, self.other_rows, pair, bit)
            if behind in self.joint:
                self.meet(behind, self.lead_behind(pair, lead, bit), k, bit)

    def lead_behind(self, pair, lead, bit):
        if lead is None:
            return None
        said = self.tellers[0][1][pair[0]][bit][1]
        other_said = self.tellers[1][1][pair[1]][bit][1]
        return lead_of(lead[0] + said, lead[1] + other_said)

    def bits_of(self, k):
        signs = []
        _, _, ahead, bit = self.waiting[k]
        while ahead is not None:
            signs.append(SIGNS[bit])
            _, _, ahead, bit = self.waiting[ahead]
        return "".join(signs[::-1])

    def told_table(self):
        """The lead table that holds; None if a word is misread."""
        if self.misread is not None:
            return None
        return [(p, q, *self.leads[(p, q)][0]) for p, q in sorted(self.leads)]
