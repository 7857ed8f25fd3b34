// Package store: records, which are texts, laid down on the pages of a chip, and found there again.
package store

import (
	"maps"
	"slices"
	"strings"

	"nand/api"
	"nand/chip"
)

// set is a set of things.
type set[T comparable] map[T]struct{}

// has tells whether something is in it.
func (s set[T]) has(x T) bool {
	_, there := s[x]
	return there
}

// add puts something in.
func (s set[T]) add(x T) { s[x] = struct{}{} }

// blocks are numbers of blocks.
type blocks = set[int]

// Renew erases a chip and lays a record (of at least one byte) down there. It is the newest then: in blocks that are bad older ones may be left, for good.
func Renew(c *chip.Chip, text string) api.Errno {
	// Asked ahead of erasing, so that what is there is not lost for nothing.
	if e := may(c, text); e != api.OK {
		return e
	}
	l := Log{c: c, clean: erase(c), block: c.Blocks() - 1, page: c.Pages()}
	return l.Add(text)
}

// may tells whether a record can be laid down, if nothing fails.
func may(c *chip.Chip, text string) api.Errno {
	if c.Dead() {
		return api.ErrDev
	}
	if pagesOf(text) > room(c) {
		return api.ErrFull
	}
	return api.OK
}

// pagesOf is how many pages a record takes.
func pagesOf(text string) int { return (len(text) + textBytes - 1) / textBytes }

// room is how many pages a record may take: those of half of the blocks that are not bad. So, beside any record that stays till the next one is whole, there are enough blocks for this one, whichever of the two is greater.
func room(c *chip.Chip) int { return (c.Blocks() - badBlocks(c)) / 2 * c.Pages() }

// erase erases all blocks that it can, and tells which.
func erase(c *chip.Chip) blocks {
	clean := blocks{}
	for block := range c.Blocks() {
		if c.Erase(block) {
			clean.add(block)
		}
	}
	return clean
}

// split is a record as pages, as they are programmed.
func split(record label, text string) []string {
	pages := make([]string, pagesOf(text))
	for at := range pages {
		part := text[at*textBytes : min((at+1)*textBytes, len(text))]
		pages[at] = page{record, at, len(pages), part}.bytes()
	}
	return pages
}

// place is where a page stands among all records.
type place struct {
	record label
	at     int
}

// foundPage is a page, and in which block it was found.
type foundPage struct {
	page
	block int
}

// found is what is found on a chip: the pages that say something.
type found map[place]foundPage

// find looks through all blocks, the bad ones too: what was laid down ahead of their going bad still stands there.
func find(c *chip.Chip) found {
	f := found{}
	for block := range c.Blocks() {
		for i := range c.Pages() {
			s, _ := c.Read(block, i)
			if p, ok := readPage(s); ok {
				f.add(foundPage{p, block})
			}
		}
	}
	return f
}

// add takes a page in. Of two at one place (one of them was scribbled) the first stays.
func (f found) add(p foundPage) {
	at := place{p.record, p.at}
	if _, twice := f[at]; !twice {
		f[at] = p
	}
}

// labels are those of all pages.
func (f found) labels() set[label] {
	l := set[label]{}
	for at := range f {
		l.add(at.record)
	}
	return l
}

// Record is a record that was found.
type Record struct {
	Text  string // with bytes 0 up to the end of its last page
	label label
	in    blocks // where it stands
	end   int    // the block where its last page stands
}

// record puts a record together; false, if it is not there to its last page.
func (f found) record(l label) (Record, bool) {
	r := Record{label: l, in: blocks{}}
	var text strings.Builder
	of := f[place{l, 0}].of
	for at := range of {
		p, there := f[place{l, at}]
		if !there || p.of != of {
			return Record{}, false
		}
		text.WriteString(p.text)
		r.in.add(p.block)
		r.end = p.block
	}
	r.Text = text.String()
	return r, of > 0
}

// Records are all records that are there to their last page, the newest first.
func Records(c *chip.Chip) []Record {
	f := find(c)
	whole := map[label]Record{}
	for l := range f.labels() {
		if r, ok := f.record(l); ok {
			whole[l] = r
		}
	}
	var records []Record
	for _, l := range slices.Backward(inTurn(slices.Collect(maps.Keys(whole)))) {
		records = append(records, whole[l])
	}
	return records
}
