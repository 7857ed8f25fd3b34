package trees

import (
	"nand/api"
	"nand/pack"
)

// A tree as a text is how many items there are (a byte), and these in the tree's order: the mode, with isDir in a directory (2 bytes), the time (4), how long the path is (1), the path, and of a file how long its packed bytes are (2), and these. Numbers have their higher bytes first. So an item takes at most 10 bytes beside its path and its bytes, which is less than the 16 that it weighs: what has room by its weight has room as a text.

// isDir is the bit above all modes that tells a directory.
const isDir = 0x8000

// Text is the tree as a text.
func (t Tree) Text() string {
	b := []byte{byte(len(t))}
	for _, item := range t.Items() {
		b = addItem(b, item)
	}
	return string(b)
}

// addItem puts an item behind a text.
func addItem(b []byte, item api.Item) []byte {
	kind := item.Mode
	if item.Dir {
		kind |= isDir
	}
	b = addNumber(b, 2, kind)
	b = addNumber(b, 4, item.Time)
	b = addNumber(b, 1, len(item.Path))
	b = append(b, item.Path...)
	if item.Dir {
		return b
	}
	text, _ := pack.Pack(item.Data)
	b = addNumber(b, 2, len(text))
	return append(b, text...)
}

// addNumber puts a number of so many bytes behind a text.
func addNumber(b []byte, many int, n int) []byte {
	for i := many - 1; i >= 0; i-- {
		b = append(b, byte(n>>(8*i)))
	}
	return b
}

// FromText is the tree that a text begins with; false, if it begins with none. (What is behind it is not looked at: a text comes back from a chip with bytes 0 up to the end of a page.)
func FromText(text string) (Tree, bool) {
	r := reader{rest: text, fine: true}
	var items []api.Item
	for many := r.number(1); many > 0 && r.fine; many-- {
		items = append(items, r.item())
	}
	if !r.fine {
		return nil, false
	}
	t, e := New(items)
	return t, e == api.OK
}

// reader reads a text from the front; what it reads behind the end counts for nothing.
type reader struct {
	rest string
	fine bool
}

// take is the next so many bytes.
func (r *reader) take(many int) string {
	if many > len(r.rest) {
		r.rest, r.fine = "", false
		return ""
	}
	s := r.rest[:many]
	r.rest = r.rest[many:]
	return s
}

// number is the next number of so many bytes.
func (r *reader) number(many int) int {
	n := 0
	for _, b := range []byte(r.take(many)) {
		n = n<<8 | int(b)
	}
	return n
}

// item is the next item.
func (r *reader) item() api.Item {
	kind := r.number(2)
	item := api.Item{Dir: kind&isDir != 0, Mode: kind &^ isDir, Time: r.number(4)}
	item.Path = r.take(r.number(1))
	if item.Dir {
		return item
	}
	data, e := pack.Unpack(r.take(r.number(2)))
	if e != api.OK {
		r.fine = false
	}
	item.Data = data
	return item
}
