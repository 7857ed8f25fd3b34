package pack

import "nand/api"

// step is a symbol that makes bytes, and of a copy how many bytes it goes back.
type step struct {
	symbol int
	back   int
}

// split tells the steps that make data: at each place the longest copy, or, where there is none, the byte.
func split(data string) []step {
	var steps []step
	seen := newPlaces(data)
	for at := 0; at < len(data); {
		length, back := seen.longest(at)
		if length == 0 {
			length = 1
			steps = append(steps, step{symbol: int(data[at])})
		} else {
			steps = append(steps, step{symbol: length + copyLess, back: back})
		}
		for range length {
			seen.add(at)
			at++
		}
	}
	return steps
}

// places are where in data a copy can begin: those that agree in their first bytes are a chain.
type places struct {
	data   string
	last   map[string]int // of the first bytes, the last place that has them
	before []int          // of each place, the one ahead of it in its chain; none: -1
}

// newPlaces is no places yet.
func newPlaces(data string) *places {
	return &places{data: data, last: map[string]int{}, before: make([]int, len(data))}
}

// start is the first bytes at a place, as many as the shortest copy has; false: there are not so many.
func (p *places) start(at int) (string, bool) {
	if at+api.MinCopy > len(p.data) {
		return "", false
	}
	return p.data[at : at+api.MinCopy], true
}

// add adds a place, which is behind all that were added.
func (p *places) add(at int) {
	key, ok := p.start(at)
	if !ok {
		return
	}
	p.before[at] = p.top(key)
	p.last[key] = at
}

// top is the last place with these first bytes; none: -1.
func (p *places) top(key string) int {
	if at, ok := p.last[key]; ok {
		return at
	}
	return -1
}

// longest is the longest copy that makes what is at a place, the one that goes back least; 0: there is none.
func (p *places) longest(at int) (length int, back int) {
	key, ok := p.start(at)
	if !ok {
		return 0, 0
	}
	for from := p.top(key); from >= max(0, at-api.MaxBack); from = p.before[from] {
		if many := p.agree(from, at); many > length {
			length, back = many, at-from
		}
		if length == api.MaxCopy {
			break
		}
	}
	return length, back
}

// agree is how many bytes from two places on are the same, up to the longest copy.
func (p *places) agree(from int, at int) int {
	many := 0
	for many < api.MaxCopy && at+many < len(p.data) && p.data[from+many] == p.data[at+many] {
		many++
	}
	return many
}
