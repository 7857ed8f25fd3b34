// Package store: records, which are texts, laid down on the pages of a chip, and found there again.
package store

import (
	"math"
	"slices"
	"strings"

	"nand/api"
	"nand/chip"
)

// Renew erases a chip and lays a record (of at least one byte) down there. It is the newest then: in blocks that are bad older ones may be left, for good.
func Renew(c *chip.Chip, text string) api.Errno {
	if c.Dead() {
		return api.ErrDev
	}
	// Asked ahead of erasing, so that what is there is not lost for nothing.
	if pagesOf(text) > room(c) {
		return api.ErrFull
	}
	blocks := erase(c)
	last := find(c).last
	// With no number left, one was scribbled there, and no room is promised.
	if last == math.MaxUint32 {
		return api.ErrFull
	}
	return lay(c, blocks, split(last+1, text))
}

// pagesOf is how many pages a record takes.
func pagesOf(text string) int { return (len(text) + textBytes - 1) / textBytes }

// room is how many pages can be programmed, if all that can be is erased.
func room(c *chip.Chip) int {
	many := 0
	for block := range c.Blocks() {
		if !c.Bad(block) {
			many += c.Pages()
		}
	}
	return many
}

// erase erases all blocks that it can, and tells which.
func erase(c *chip.Chip) []int {
	var blocks []int
	for block := range c.Blocks() {
		if c.Erase(block) {
			blocks = append(blocks, block)
		}
	}
	return blocks
}

// split is a record as pages, as they are programmed.
func split(record uint32, text string) []string {
	pages := make([]string, pagesOf(text))
	for at := range pages {
		part := text[at*textBytes : min((at+1)*textBytes, len(text))]
		pages[at] = page{record, at, len(pages), part}.bytes()
	}
	return pages
}

// lay programs pages into erased blocks. A block that goes bad keeps the pages ahead of the one that failed: this one and those behind it go into the next block.
func lay(c *chip.Chip, blocks []int, pages []string) api.Errno {
	for _, block := range blocks {
		for i := 0; i < c.Pages() && len(pages) > 0 && c.Program(block, i, pages[0]); i++ {
			pages = pages[1:]
		}
	}
	if c.Dead() {
		return api.ErrDev
	}
	if len(pages) > 0 {
		return api.ErrFull
	}
	return api.OK
}

// place is where a page stands among all records.
type place struct {
	record uint32
	at     int
}

// found is what is found on a chip: the pages that say something, and the greatest number of a record among them.
type found struct {
	pages map[place]page
	last  uint32
}

// find looks through all blocks, the bad ones too: what was laid down ahead of their going bad still stands there.
func find(c *chip.Chip) found {
	f := found{pages: map[place]page{}}
	for block := range c.Blocks() {
		for i := range c.Pages() {
			s, _ := c.Read(block, i)
			if p, ok := readPage(s); ok {
				f.add(p)
			}
		}
	}
	return f
}

// add takes a page in. Of two at one place (one of them was scribbled) the first stays.
func (f *found) add(p page) {
	at := place{p.record, p.at}
	if _, twice := f.pages[at]; !twice {
		f.pages[at] = p
	}
	f.last = max(f.last, p.record)
}

// text is the text of a record, with bytes 0 up to the end of its last page; false, if it is not there to its last page.
func (f *found) text(record uint32) (string, bool) {
	var b strings.Builder
	of := f.pages[place{record, 0}].of
	for at := range of {
		p, there := f.pages[place{record, at}]
		if !there || p.of != of {
			return "", false
		}
		b.WriteString(p.text)
	}
	return b.String(), of > 0
}

// Records are the texts of all records that are there to their last page, the newest first.
func Records(c *chip.Chip) []string {
	f := find(c)
	var numbers []uint32
	for at := range f.pages {
		if at.at == 0 {
			numbers = append(numbers, at.record)
		}
	}
	slices.Sort(numbers)
	slices.Reverse(numbers)
	var texts []string
	for _, n := range numbers {
		if text, whole := f.text(n); whole {
			texts = append(texts, text)
		}
	}
	return texts
}
