package vault

import "variorum/api"

// With how many ids, or how many bytes, a pack is full.
const (
	fullIds   = 1024
	fullBytes = 131072
)

// Plan tells in which packs ids go, and upon what.
func Plan(sizes []int, choices []int) (packs, bases []int) {
	last, total := 0, 0
	var depths []int // of those that are in the last pack
	for i, size := range sizes {
		if len(depths) == fullIds || total >= fullBytes {
			last, total, depths = last+1, 0, nil
		}
		base, depth := chosen(choice(choices, i), depths)
		packs, bases = append(packs, last), append(bases, base)
		depths = append(depths, depth)
		total += min(max(size, 0), fullBytes) // no more counts, and all of it might be beyond all numbers
	}
	return packs, bases
}

// choice is the number for the i-th id of all.
func choice(choices []int, i int) int {
	if len(choices) == 0 {
		return 0
	}
	return choices[i%len(choices)]
}

// chosen is the base (-1: none) that a choice tells for an id behind those with these depths in its pack, and the id's depth.
func chosen(choice int, depths []int) (base, depth int) {
	n := len(depths) + 1
	base = (choice%n+n)%n - 1 // % alone leaves one below 0 below 0
	if base < 0 || depths[base] == api.MaxChain {
		return -1, 0
	}
	return base, depths[base] + 1
}
