// Package store: records, which are texts, laid down on the pages of a chip, and found there again.
package store

import (
	"slices"
	"strings"

	"nand/api"
	"nand/chip"
)

// blocks are numbers of blocks.
type blocks map[int]struct{}

// has tells whether a block is one of them.
func (b blocks) has(block int) bool {
	_, there := b[block]
	return there
}

// Renew erases a chip and lays a record (of at least one byte) down there. It is the newest then: in blocks that are bad older ones may be left, for good.
func Renew(c *chip.Chip, text string) api.Errno {
	// Asked ahead of erasing, so that what is there is not lost for nothing.
	if e := may(c, text); e != api.OK {
		return e
	}
	l := Log{c: c, clean: erase(c), block: c.Blocks() - 1, page: c.Pages()}
	l.last = find(c).last
	return l.Add(text)
}

// may tells whether a record can be laid down, if nothing fails.
func may(c *chip.Chip, text string) api.Errno {
	if c.Dead() {
		return api.ErrDev
	}
	if pagesOf(text) > room(c) {
		return api.ErrFull
	}
	return api.OK
}

// pagesOf is how many pages a record takes.
func pagesOf(text string) int { return (len(text) + textBytes - 1) / textBytes }

// room is how many pages a record may take: those of half of the blocks that are not bad. So, beside any record that stays till the next one is whole, there are enough blocks for this one, whichever of the two is greater.
func room(c *chip.Chip) int {
	good := 0
	for block := range c.Blocks() {
		if !c.Bad(block) {
			good++
		}
	}
	return good / 2 * c.Pages()
}

// erase erases all blocks that it can, and tells which.
func erase(c *chip.Chip) blocks {
	clean := blocks{}
	for block := range c.Blocks() {
		if c.Erase(block) {
			clean[block] = struct{}{}
		}
	}
	return clean
}

// split is a record as pages, as they are programmed.
func split(record uint32, text string) []string {
	pages := make([]string, pagesOf(text))
	for at := range pages {
		part := text[at*textBytes : min((at+1)*textBytes, len(text))]
		pages[at] = page{record, at, len(pages), part}.bytes()
	}
	return pages
}

// place is where a page stands among all records.
type place struct {
	record uint32
	at     int
}

// foundPage is a page, and in which block it was found.
type foundPage struct {
	page
	block int
}

// found is what is found on a chip: the pages that say something, and the greatest number of a record among them.
type found struct {
	pages map[place]foundPage
	last  uint32
}

// find looks through all blocks, the bad ones too: what was laid down ahead of their going bad still stands there.
func find(c *chip.Chip) found {
	f := found{pages: map[place]foundPage{}}
	for block := range c.Blocks() {
		for i := range c.Pages() {
			s, _ := c.Read(block, i)
			if p, ok := readPage(s); ok {
				f.add(foundPage{p, block})
			}
		}
	}
	return f
}

// add takes a page in. Of two at one place (one of them was scribbled) the first stays.
func (f *found) add(p foundPage) {
	at := place{p.record, p.at}
	if _, twice := f.pages[at]; !twice {
		f.pages[at] = p
	}
	f.last = max(f.last, p.record)
}

// Record is a record that was found.
type Record struct {
	Text string // with bytes 0 up to the end of its last page
	in   blocks // where it stands
	end  int    // the block where its last page stands
	last uint32 // the greatest number that was found with it
}

// record puts a record together; false, if it is not there to its last page.
func (f *found) record(number uint32) (Record, bool) {
	r := Record{in: blocks{}, last: f.last}
	var text strings.Builder
	of := f.pages[place{number, 0}].of
	for at := range of {
		p, there := f.pages[place{number, at}]
		if !there || p.of != of {
			return Record{}, false
		}
		text.WriteString(p.text)
		r.in[p.block] = struct{}{}
		r.end = p.block
	}
	r.Text = text.String()
	return r, of > 0
}

// Records are all records that are there to their last page, the newest first.
func Records(c *chip.Chip) []Record {
	f := find(c)
	var numbers []uint32
	for at := range f.pages {
		if at.at == 0 {
			numbers = append(numbers, at.record)
		}
	}
	slices.Sort(numbers)
	slices.Reverse(numbers)
	var records []Record
	for _, n := range numbers {
		if r, whole := f.record(n); whole {
			records = append(records, r)
		}
	}
	return records
}
