package store

import (
	"math"

	"nand/api"
	"nand/chip"
)

// Log lays records down one after the other, each newer than all ahead of it. The last one that is whole stays where it is till the next one is whole: whenever the power goes, the newest record that is found is one or the other.
type Log struct {
	c     *chip.Chip
	last  uint32 // the greatest number that a record has or had
	kept  blocks // in which the record stands that must stay
	clean blocks // that are erased, and can be programmed as they are
	block int    // that was programmed last
	page  int    // of this block, that can be programmed next; behind its last one: none
}

// Follow is a Log that goes on behind a record.
func Follow(c *chip.Chip, r Record) *Log {
	// It goes on in a block that it erases itself: a page that looks erased may have been begun when the power went.
	return &Log{c: c, last: r.last, kept: r.in, block: r.end, page: c.Pages()}
}

// Add lays a record (of at least one byte) down. With an error the one ahead is still the newest that is whole.
func (l *Log) Add(text string) api.Errno {
	if e := may(l.c, text); e != api.OK {
		return e
	}
	// With no number left, one was scribbled there, and no room is promised.
	if l.last == math.MaxUint32 {
		return api.ErrFull
	}
	// A number is taken even if the record does not become whole: its pages must not be taken for those of the next.
	l.last++
	in := blocks{}
	left := split(l.last, text)
	// Into what is left of a block a record goes as a whole only, so that it never takes one block more than it must.
	if len(left) <= l.c.Pages()-l.page {
		left = l.program(left, in)
	}
	for i := 0; i < l.c.Blocks() && len(left) > 0 && !l.c.Dead(); i++ {
		if l.open() {
			left = l.program(left, in)
		}
	}
	if len(left) == 0 {
		l.kept = in
		return api.OK
	}
	if l.c.Dead() {
		return api.ErrDev
	}
	return api.ErrFull
}

// open goes on to the next block, round and round, so that all are used alike, and erases it; false, if it cannot be erased, or must stay.
func (l *Log) open() bool {
	l.block = (l.block + 1) % l.c.Blocks()
	l.page = l.c.Pages()
	if l.kept.has(l.block) {
		return false
	}
	if !l.clean.has(l.block) && !l.c.Erase(l.block) {
		return false
	}
	delete(l.clean, l.block)
	l.page = 0
	return true
}

// program programs pages into the block that is open, and tells those that are left. Where the block goes bad, the pages ahead still stand there: those that are left can go on in another one.
func (l *Log) program(pages []string, in blocks) []string {
	for len(pages) > 0 && l.page < l.c.Pages() {
		if !l.c.Program(l.block, l.page, pages[0]) {
			l.page = l.c.Pages()
			break
		}
		in[l.block] = struct{}{}
		l.page++
		pages = pages[1:]
	}
	return pages
}
