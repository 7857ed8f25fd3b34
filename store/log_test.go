package store

import (
	"slices"
	"strconv"
	"strings"
	"testing"

	"nand/api"
	"nand/chip"
)

// begun: a chip with one record, and a Log behind it.
func begun(t *testing.T, c *chip.Chip, text string) *Log {
	t.Helper()
	if e := Renew(c, text); e != api.OK {
		t.Fatalf("Renew = %d", e)
	}
	return Follow(c, Records(c)[0])
}

// adds: a record is laid down, and is the newest.
func adds(t *testing.T, l *Log, text string) {
	t.Helper()
	if e := l.Add(text); e != api.OK {
		t.Fatalf("Add of %d bytes = %d", len(text), e)
	}
	newest(t, l.c, text)
}

// newest: this is the newest record.
func newest(t *testing.T, c *chip.Chip, text string) {
	t.Helper()
	if got := texts(c); len(got) == 0 || got[0] != text {
		t.Fatalf("the newest of %d records is not %.20q", len(got), text)
	}
}

// images: of each block its pages.
func images(c *chip.Chip) []string {
	var l []string
	for block := range c.Blocks() {
		var b strings.Builder
		for i := range c.Pages() {
			s, _ := c.Read(block, i)
			b.WriteString(s)
		}
		l = append(l, b.String())
	}
	return l
}

// changed: in which blocks two chips differ.
func changed(a []string, b []string) []int {
	var l []int
	for block := range a {
		if a[block] != b[block] {
			l = append(l, block)
		}
	}
	return l
}

// TestAddBehind: records go into one block as long as they go in whole; then into the next, round and round.
func TestAddBehind(t *testing.T) {
	c := chip.New(5, 4, []int{3})
	l := begun(t, c, "first")
	for round := range 20 {
		want := []int{1, 2, 4, 0}[round%4]
		for i := range 4 {
			was := images(c)
			adds(t, l, "record "+strconv.Itoa(4*round+i))
			if got := changed(was, images(c)); !slices.Equal(got, []int{want}) {
				t.Fatalf("record %d of round %d went into %v", i, round, got)
			}
		}
	}
}

// TestAddWhole: a record that does not go into what is left of a block begins in a new one.
func TestAddWhole(t *testing.T) {
	c := chip.New(8, 4, nil)
	l := begun(t, c, "first")
	for _, x := range []struct {
		pages int
		want  []int
	}{{3, []int{1}}, {2, []int{2}}, {2, []int{2}}, {4, []int{3}}, {1, []int{4}}, {3, []int{4}}, {5, []int{5, 6}}, {3, []int{6}}, {16, []int{7, 0, 1, 2}}} {
		was := images(c)
		adds(t, l, text(x.pages*textBytes))
		got := changed(was, images(c))
		slices.Sort(x.want)
		if !slices.Equal(got, x.want) {
			t.Fatalf("a record of %d pages went into %v, want %v", x.pages, got, x.want)
		}
	}
}

// TestFollowRound: a Log that is new each time still goes round.
func TestFollowRound(t *testing.T) {
	c := chip.New(4, 4, []int{2})
	begun(t, c, "first")
	for i := range 30 {
		was := images(c)
		adds(t, Follow(c, Records(c)[0]), "record "+strconv.Itoa(i))
		if got, want := changed(was, images(c)), []int{1, 3, 0}[i%3]; !slices.Equal(got, []int{want}) {
			t.Fatalf("record %d went into %v, want %d", i, got, want)
		}
	}
}

// TestAddAlways: the greatest records and the least, in whatever order, on whatever chip.
func TestAddAlways(t *testing.T) {
	for blocks := 4; blocks <= 32; blocks++ {
		for _, bad := range [][]int{nil, {0}, {1, 3}, {0, 1, 2}} {
			for pages := 4; pages <= 16; pages += 3 {
				c := chip.New(blocks, pages, bad)
				if room(c) == 0 {
					continue
				}
				most := room(c) * textBytes
				l := begun(t, c, text(most))
				for i, many := range []int{most, 1, most, most, most/2 + 1, most/2 + 1, 1, 1, most, textBytes, most - 1, most} {
					adds(t, l, text(many))
					if i%5 == 4 {
						l = Follow(c, Records(c)[0])
					}
				}
				if e := l.Add(text(most + 1)); e != api.ErrFull {
					t.Fatalf("Add of too many bytes = %d", e)
				}
				newest(t, c, text(most))
			}
		}
	}
}

// TestAddPower: the power goes at each call, and leaves each part of what is done then: the record ahead is the newest, and the next can be laid down, by the same Log and by a new one.
func TestAddPower(t *testing.T) {
	for _, many := range []int{1, 3*textBytes + 5, 8 * textBytes} {
		first := chip.New(6, 4, []int{2})
		begun(t, first, "first")
		for behind := 0; ; behind++ {
			ends := false
			for cut := range chip.Size {
				c := first.Copy()
				l := Follow(c, Records(c)[0])
				adds(t, l, "second")
				c.Die(behind, cut)
				e := l.Add(text(many))
				if ends = !c.Dead(); ends {
					newest(t, c, text(many))
					break
				}
				if e != api.ErrDev || l.Add("more") != api.ErrDev {
					t.Fatalf("power goes behind %d calls: Add = %d", behind, e)
				}
				c.Power()
				newest(t, c, "second")
				if cut%2 == 0 {
					l = Follow(c, Records(c)[0])
				}
				adds(t, l, text(8*textBytes-1))
				adds(t, l, "last")
			}
			if ends {
				break
			}
		}
	}
}

// TestAddPowerAgain: the power goes again and again, ahead of any record's being whole.
func TestAddPowerAgain(t *testing.T) {
	for _, anew := range []bool{false, true} {
		c := chip.New(4, 4, nil)
		l := begun(t, c, "first")
		for i := range 500 {
			c.Die(i%9, i)
			e := l.Add(text(8 * textBytes))
			c.Power()
			if e != api.ErrDev {
				t.Fatalf("Add = %d", e)
			}
			newest(t, c, "first")
			if anew {
				l = Follow(c, Records(c)[0])
			}
		}
		adds(t, l, text(8*textBytes))
	}
}

// TestAddFails: blocks go bad, each call in turn, and again later: what was answered with OK is the newest.
func TestAddFails(t *testing.T) {
	for at := range 40 {
		for again := range 12 {
			c := chip.New(8, 4, nil)
			l := begun(t, c, "first")
			c.Fail(at, 5*at)
			last := "first"
			for i := range 20 {
				if i == 9 {
					c.Fail(again, 7*again)
				}
				s := text(1 + i*37%(7*textBytes))
				switch e := l.Add(s); e {
				case api.OK:
					last = s
				case api.ErrFull:
				default:
					t.Fatalf("Add = %d", e)
				}
				newest(t, c, last)
			}
		}
	}
}

// TestAddWorn: all blocks go bad one by one; then there is no room, and the last record is still there.
func TestAddWorn(t *testing.T) {
	c := chip.New(8, 4, nil)
	l := begun(t, c, "first")
	last := "first"
	for i := range 60 {
		c.Fail(i%4, i)
		s := text(1 + i*textBytes/4)
		if l.Add(s) == api.OK {
			last = s
		}
		newest(t, c, last)
	}
	if e := l.Add("x"); e != api.ErrFull {
		t.Errorf("Add on a chip that is worn out = %d", e)
	}
	c.Die(0, 0)
	if e := l.Add("x"); e != api.ErrFull {
		t.Errorf("Add on a chip that is worn out = %d", e)
	}
}

// TestAddBesideScribbled: a record that stays in every block leaves no room, and is not harmed.
func TestAddBesideScribbled(t *testing.T) {
	c := chip.New(4, 4, nil)
	for i, s := range split(label{0, 1}, text(4*textBytes)) {
		c.Scribble(i, 0, s)
	}
	was := images(c)
	if e := Follow(c, Records(c)[0]).Add("more"); e != api.ErrFull || len(changed(was, images(c))) > 0 {
		t.Errorf("Add = %d", e)
	}
}
