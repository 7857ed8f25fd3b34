package store

import (
	"math"
	"slices"
	"strings"
	"testing"

	"nand/api"
	"nand/chip"
)

// text: bytes of which no two pages are the same, and none is 0.
func text(many int) string {
	b := make([]byte, many)
	for i := range b {
		b[i] = byte((i*7+i/textBytes)%255 + 1)
	}
	return string(b)
}

// texts: the texts of all records of a chip, without the bytes 0 that come back with them.
func texts(c *chip.Chip) []string {
	var l []string
	for _, r := range Records(c) {
		l = append(l, strings.TrimRight(r.Text, "\x00"))
	}
	return l
}

// has: these are the records of a chip.
func has(t *testing.T, c *chip.Chip, want ...string) {
	t.Helper()
	if got := texts(c); !slices.Equal(got, want) {
		t.Errorf("Records = %q, want %q", got, want)
	}
}

func TestPage(t *testing.T) {
	for _, p := range []page{{label{0, 0}, 0, 1, text(textBytes)}, {label{255, math.MaxUint32}, 511, 512, text(textBytes)}, {label{3, 258}, 256, 65535, strings.Repeat("\xff", textBytes)}} {
		s := p.bytes()
		if back, ok := readPage(s); len(s) != chip.Size || !ok || back != p {
			t.Errorf("%v comes back as %v, %v", p, back, ok)
		}
		for i := range len(s) {
			b := []byte(s)
			b[i] ^= 1
			if back, ok := readPage(string(b)); ok {
				t.Errorf("byte %d changed: %v", i, back)
			}
		}
	}
	for _, p := range []page{{label{0, 1}, 0, 0, ""}, {label{0, 1}, 1, 1, ""}, {label{0, 1}, 7, 3, ""}} {
		if back, ok := readPage(p.bytes()); ok {
			t.Errorf("%v is a page", back)
		}
	}
	for _, s := range []string{"", "x", strings.Repeat("\xff", chip.Size), strings.Repeat("\x00", chip.Size)} {
		if back, ok := readPage(s); ok {
			t.Errorf("%q is the page %v", s, back)
		}
	}
}

// TestCutPage: a page that was not programmed to its end says nothing, even where only a byte is missing that would have been anything.
func TestCutPage(t *testing.T) {
	for n := range uint32(2000) {
		s := page{label{int(n % 33), n}, 0, 1, text(int(n % textBytes))}.bytes()
		for cut := chip.Size - 5; cut < chip.Size; cut++ {
			if back, ok := readPage(s[:cut] + strings.Repeat("\xff", chip.Size-cut)); ok {
				t.Fatalf("%d bytes of page %d say %v", cut, n, back)
			}
		}
	}
}

func TestRenew(t *testing.T) {
	c := chip.New(8, 4, []int{1})
	has(t, c)
	for _, many := range []int{1, textBytes - 1, textBytes, textBytes + 1, 4 * textBytes, 4*textBytes + 1, 12 * textBytes} {
		if e := Renew(c, text(many)); e != api.OK {
			t.Errorf("Renew of %d bytes = %d", many, e)
		}
		has(t, c, text(many))
	}
	if e := Renew(c, text(12*textBytes+1)); e != api.ErrFull {
		t.Errorf("Renew of too many bytes = %d", e)
	}
	has(t, c, text(12*textBytes))
}

// TestRenewOnce: no block is erased twice.
func TestRenewOnce(t *testing.T) {
	c := chip.New(6, 4, []int{0})
	c.Die(5+6, 0)
	if e := Renew(c, text(6*textBytes)); e != api.OK || c.Dead() {
		t.Errorf("Renew = %d behind 5 blocks and 6 pages, dead: %v", e, c.Dead())
	}
}

// TestRoom: a record takes at most half of the blocks that are not bad.
func TestRoom(t *testing.T) {
	for good := range 9 {
		var bad []int
		for block := good; block < 8; block++ {
			bad = append(bad, block)
		}
		c := chip.New(8, 5, bad)
		if got, want := room(c), 5*(good/2); got != want {
			t.Errorf("room beside %d bad blocks is %d, want %d", len(bad), got, want)
		}
		if e := Renew(c, text(room(c)*textBytes+1)); e != api.ErrFull {
			t.Errorf("Renew beside %d bad blocks = %d", len(bad), e)
		}
	}
}

// TestLeft: what is left in a bad block is older, though its block comes first.
func TestLeft(t *testing.T) {
	c := chip.New(8, 4, nil)
	for _, s := range []string{"one", "two", "three"} {
		c.Fail(0, 0) // the block where the record ahead stands cannot be erased
		if e := Renew(c, s); e != api.OK {
			t.Fatalf("Renew = %d", e)
		}
	}
	has(t, c, "three", "two", "one")
}

// TestGoesOn: where a block goes bad, a record goes on in the next.
func TestGoesOn(t *testing.T) {
	want := text(9 * textBytes)
	for at := range 9 {
		for left := range chip.Size {
			c := chip.New(8, 4, nil)
			c.Fail(8+at, left)
			if e := Renew(c, want); e != api.OK {
				t.Fatalf("fail at %d: Renew = %d", at, e)
			}
			has(t, c, want)
		}
	}
}

// TestTorn: a record of which a page is missing is none.
func TestTorn(t *testing.T) {
	whole := split(label{0, 7}, text(3*textBytes))
	for miss := range whole {
		c := chip.New(4, 4, nil)
		c.Program(3, 0, split(label{0, 3}, "old")[0])
		for at, s := range whole {
			if at == miss {
				s = s[:chip.Size-1]
			}
			c.Scribble(1, at, s)
		}
		has(t, c, "old")
		c.Scribble(2, 0, whole[miss])
		has(t, c, text(3*textBytes), "old")
	}
}

// TestMixed: pages of two records of one number that do not tell the same many pages make none.
func TestMixed(t *testing.T) {
	c := chip.New(4, 4, nil)
	c.Scribble(0, 0, split(label{0, 1}, text(2*textBytes))[0])
	c.Scribble(0, 1, split(label{0, 1}, text(3*textBytes))[1])
	has(t, c)
}

// TestTwice: of two pages at one place the first stays.
func TestTwice(t *testing.T) {
	c := chip.New(4, 4, nil)
	c.Scribble(3, 0, split(label{0, 1}, "first")[0])
	c.Scribble(3, 1, split(label{0, 1}, "second")[0])
	has(t, c, "first")
}
