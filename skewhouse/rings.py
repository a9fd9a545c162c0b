"""Rings of waits: the one that is told from a start, and who of its dealings gives way."""


def ring(waits, start):
    met = {}
    chains = [[start]]
    # All chains here are of one length and rise, as the lists of waits do: the first that comes round is the least.
    while len(chains) > 0:
        longer = []
        for chain in chains:
            others = waits.get(chain[-1], [])
            if start in others:
                return chain
            for other in others:
                if other not in met:
                    met[other] = True
                    longer.append(chain + [other])
        chains = longer
    return None


def gives_way(chain, begins):
    return max(chain, key=lambda dealing: begins[dealing])
