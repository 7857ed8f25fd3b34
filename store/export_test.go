package store

import (
	"nand/api"
	"nand/chip"
)

// RenewAt is Renew with a number: as if so many records had been laid down already.
func RenewAt(c *chip.Chip, number uint32, text string) api.Errno {
	clean := erase(c)
	l := Log{c: c, newest: label{0, number - 1}, clean: clean, block: c.Blocks() - 1, page: c.Pages()}
	return l.Add(text)
}
