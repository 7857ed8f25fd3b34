package pack

import (
	"slices"

	"nand/api"
)

// codeLengths tells of each symbol the length of its code, by how often it comes; of one that doesn't come 0.
func codeLengths(counts []int) []int {
	weights := slices.Clone(counts)
	for {
		lengths := join(weights)
		if slices.Max(lengths) <= api.MaxCode {
			return lengths
		}
		// Weights that are more alike make shorter codes; when all are 1, none is too long.
		for symbol, weight := range weights {
			weights[symbol] = (weight + 1) / 2
		}
	}
}

// join joins the two lightest groups of symbols into one, till there is one group only: whenever a symbol's group is joined, its code is a digit longer.
func join(weights []int) []int {
	lengths := make([]int, len(weights))
	var groups queue[[]int]
	for symbol, weight := range weights {
		if weight > 0 {
			groups.put(weight, []int{symbol})
		}
	}
	for {
		first, _ := groups.take()
		second, ok := groups.take()
		if !ok {
			for _, symbol := range first.value {
				// A symbol that comes alone was never joined, but a code has a digit.
				lengths[symbol] = max(lengths[symbol], 1)
			}
			return lengths
		}
		group := slices.Concat(first.value, second.value)
		for _, symbol := range group {
			lengths[symbol]++
		}
		groups.put(first.weight+second.weight, group)
	}
}
