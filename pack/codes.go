package pack

import "nand/api"

// code is a number with so many digits, each 0 or 1; without digits there is none.
type code struct {
	number int
	digits int
}

// Codes tells the codes of some lengths (P3).
func Codes(lengths []int) ([]string, api.Errno) {
	if err := checkLengths(lengths); err != api.OK {
		return nil, err
	}
	texts := make([]string, len(lengths))
	for symbol, c := range assign(lengths) {
		texts[symbol] = c.text()
	}
	return texts, api.OK
}

// checkLengths tells whether there are codes of these lengths.
func checkLengths(lengths []int) api.Errno {
	if len(lengths) > api.Symbols {
		return api.ErrArg
	}
	sum := 0
	for _, length := range lengths {
		if length < 0 || length > api.MaxCode {
			return api.ErrArg
		}
		if length > 0 {
			sum += 1 << (api.MaxCode - length)
		}
	}
	if sum > 1<<api.MaxCode {
		return api.ErrForm
	}
	return api.OK
}

// assign gives each symbol its code; the lengths are ones that checkLengths takes.
func assign(lengths []int) []code {
	codes := make([]code, len(lengths))
	next := 0
	for digits := 1; digits <= api.MaxCode; digits++ {
		next <<= 1
		for symbol, length := range lengths {
			if length == digits {
				codes[symbol] = code{number: next, digits: digits}
				next++
			}
		}
	}
	return codes
}

// text writes a code's digits.
func (c code) text() string {
	digits := make([]byte, c.digits)
	for i := range digits {
		digits[i] = '0' + byte(c.number>>(c.digits-1-i)&1)
	}
	return string(digits)
}
