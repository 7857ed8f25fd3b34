package store

import (
	"nand/api"
	"nand/chip"
)

// Log lays records down one after the other, each newer than all ahead of it. The last one that is whole stays where it is till the next one is whole: whenever the power goes, the newest record that is found is one or the other.
//
// It goes from block to block, round and round. It passes by those that are bad, and those of the record that stays, which come to be erased in the next round; no others. So what stands in a block that is not bad is no older than two rounds, and the numbers that are taken in two rounds are few among all.
type Log struct {
	c      *chip.Chip
	newest label      // of the record that must stay
	kept   blocks     // in which it stands
	taken  set[label] // labels that pages had when the chip was looked through; nil: it is to be
	clean  blocks     // that are erased, and can be programmed as they are
	block  int        // in which the newest record ends
	page   int        // of this block, that can be programmed next; behind its last one: none
}

// Follow is a Log that goes on behind a record.
func Follow(c *chip.Chip, r Record) *Log {
	// It goes on in a block that it erases itself: a page that looks erased may have been begun when the power went.
	return &Log{c: c, newest: r.label, kept: r.in, block: r.end, page: c.Pages()}
}

// Add lays a record (of at least one byte) down. With an error the one ahead is still the newest that is whole.
func (l *Log) Add(text string) api.Errno {
	if e := may(l.c, text); e != api.OK {
		return e
	}
	from := l.block
	next, in := l.next(), blocks{}
	if l.lay(split(next, text), in) {
		l.newest, l.kept = next, in
		return api.OK
	}
	// The next one begins where this one did: a block that was not erased to its end must not be passed by.
	l.taken, l.block, l.page = nil, from, l.c.Pages()
	if l.c.Dead() {
		return api.ErrDev
	}
	return api.ErrFull
}

// next is the label of the next record. No page has it: those of a record that did not become whole must not be taken for its own. But it is as close behind the newest as it can be, so that the numbers do not run away from what stays when no record becomes whole, again and again.
func (l *Log) next() label {
	if l.taken == nil {
		l.taken = find(l.c).labels()
	}
	n := label{badBlocks(l.c), l.newest.number + 1}
	for l.taken.has(n) {
		n.number++
	}
	return n
}

// lay programs pages, and notes in which blocks; false, if not all of them.
func (l *Log) lay(pages []string, in blocks) bool {
	// Into what is left of a block a record goes as a whole only, so that it never takes one block more than it must.
	if len(pages) <= l.c.Pages()-l.page {
		pages = l.program(pages, in)
	}
	for i := 0; i < l.c.Blocks() && len(pages) > 0 && !l.c.Dead(); i++ {
		if l.open() {
			pages = l.program(pages, in)
		}
	}
	return len(pages) == 0
}

// open goes on to the next block, round and round, so that all are used alike, and erases it; false, if it cannot be erased, or must stay.
func (l *Log) open() bool {
	l.block = (l.block + 1) % l.c.Blocks()
	l.page = l.c.Pages()
	if l.kept.has(l.block) {
		return false
	}
	if !l.clean.has(l.block) && !l.c.Erase(l.block) {
		return false
	}
	delete(l.clean, l.block)
	l.page = 0
	return true
}

// program programs pages into the block that is open, and tells those that are left. Where the block goes bad, the pages ahead still stand there: those that are left can go on in another one.
func (l *Log) program(pages []string, in blocks) []string {
	for len(pages) > 0 && l.page < l.c.Pages() {
		if !l.c.Program(l.block, l.page, pages[0]) {
			l.page = l.c.Pages()
			break
		}
		in.add(l.block)
		l.page++
		pages = pages[1:]
	}
	return pages
}
