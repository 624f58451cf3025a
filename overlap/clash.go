package overlap

import "math"

// none stands where there is no node.
const none = math.MaxInt

// sample is what counts of many fields where others are held against them: the smallest node, and the smallest of those whose sign is another than that one's.
type sample struct {
	least, next int
	sign        string // of the smallest
}

func emptySample() sample {
	return sample{least: none, next: none}
}

// with is the sample of the fields of both.
func (s sample) with(t sample) sample {
	if t.least < s.least {
		s, t = t, s
	}
	s.next = min(s.next, t.unlike(s.sign))
	return s
}

// unlike is the smallest node with another sign.
func (s sample) unlike(sign string) int {
	if s.sign != sign {
		return s.least
	}
	return s.next
}

// lower brings each node's clash down to the smallest node with which it breaks the board's rule, if that is smaller.
func (b *board) lower(clashes []int) {
	signs := b.ofFields(b.rule.sign)
	cells := b.cells()
	for _, c := range cells {
		c.own, c.rivals = sampleOf(c.nodes, signs), emptySample()
	}
	b.walk(func(g, h *group) {
		meet(g, h, func(c, d *cell) {
			c.rivals = c.rivals.with(d.own)
			d.rivals = d.rivals.with(c.own)
		})
	})
	for _, c := range cells {
		for _, i := range c.nodes {
			if signs[i] != "" {
				clashes[i] = min(clashes[i], c.rivals.unlike(signs[i]))
			}
		}
	}
}

func sampleOf(nodes []int, signs []string) sample {
	all := emptySample()
	for _, i := range nodes {
		if signs[i] != "" {
			all = all.with(sample{least: i, next: none, sign: signs[i]})
		}
	}
	return all
}
