package store

import (
	"maps"
	"slices"

	"nand/chip"
)

// label tells records apart, and the newer from the older. The numbers go round: behind the greatest comes 0. That tells the order of records that are close together, and Log keeps those close that stand in blocks that are not bad. What stands in a bad block stays there for good, and the numbers come round to it: so a record that is begun with more blocks bad is newer, whatever its number.
type label struct {
	bad    int // how many blocks were bad when the record was begun
	number uint32
}

// badBlocks is how many blocks of a chip are bad.
func badBlocks(c *chip.Chip) int {
	many := 0
	for block := range c.Blocks() {
		if c.Bad(block) {
			many++
		}
	}
	return many
}

// inTurn puts labels in order, the oldest first.
func inTurn(labels []label) []label {
	numbers := map[int][]uint32{}
	for _, l := range labels {
		numbers[l.bad] = append(numbers[l.bad], l.number)
	}
	var order []label
	for _, bad := range slices.Sorted(maps.Keys(numbers)) {
		for _, n := range round(numbers[bad]) {
			order = append(order, label{bad, n})
		}
	}
	return order
}

// round puts numbers in the order in which they come, going round: being close together, they begin behind the widest gap.
func round(numbers []uint32) []uint32 {
	l := slices.Sorted(slices.Values(numbers))
	first, widest := 0, uint32(0)
	ahead := l[len(l)-1]
	for i, n := range l {
		if gap := n - ahead; gap > widest {
			first, widest = i, gap
		}
		ahead = n
	}
	return slices.Concat(l[first:], l[:first])
}
