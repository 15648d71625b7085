package quant

import (
	"math/big"
	"strings"

	"almoner/api"
)

const (
	longest    = 256 // bytes of a text that is parsed
	mostAhead  = 38  // the greatest number begins at 10^38
	mostBehind = 60  // the least number begins at 10^-45, and nine digits tell any number apart from its neighbours
)

// Format tells a quantity as text.
func Format(x float32, unit uint8) (string, api.Errno) {
	if !isUnit(unit) {
		return "", api.EUNIT
	}
	x, errno := Canon(x)
	if errno != api.OK {
		return "", errno
	}
	return digits(x) + " " + Name(unit), api.OK
}

// digits tells a number as text.
func digits(x float32) string {
	switch {
	case x < 0:
		return "-" + digits(-x)
	case x == 0:
		return "0"
	}
	padded := shortest(x).FloatString(mostBehind)
	return strings.TrimSuffix(strings.TrimRight(padded, "0"), ".")
}

// shortest tells the decimal number by which a number above 0 is told. It goes on, place by place, from that of the first digit, since one more place is one more digit.
func shortest(x float32) *big.Rat {
	ten := big.NewRat(10, 1)
	step := new(big.Rat).SetInt(tenTo(mostAhead))
	for exactly(x).Cmp(step) < 0 {
		step.Quo(step, ten)
	}
	for {
		if told, found := nearest(x, step); found {
			return told
		}
		step.Quo(step, ten)
	}
}

// nearest tells, of the multiples of step that are rounded to x, the nearest one. If there are any, one of the two that stand around x is among them.
func nearest(x float32, step *big.Rat) (*big.Rat, bool) {
	exact := exactly(x)
	steps := floor(new(big.Rat).Quo(exact, step))
	below := new(big.Rat).SetInt(steps)
	below.Mul(below, step)
	above := new(big.Rat).Add(below, step)
	switch {
	case !isRoundedTo(below, x):
		return above, isRoundedTo(above, x)
	case !isRoundedTo(above, x):
		return below, true
	}
	up := new(big.Rat).Sub(above, exact)
	down := new(big.Rat).Sub(exact, below)
	if c := up.Cmp(down); c < 0 || c == 0 && steps.Bit(0) == 1 {
		return above, true
	}
	return below, true
}

func isRoundedTo(exact *big.Rat, x float32) bool {
	y, errno := rounded(exact)
	return errno == api.OK && y == x
}

// floor asks for a number that is not below 0.
func floor(exact *big.Rat) *big.Int { return new(big.Int).Quo(exact.Num(), exact.Denom()) }

func tenTo(n int) *big.Int { return new(big.Int).Exp(big.NewInt(10), big.NewInt(int64(n)), nil) }

// Parse tells the quantity of a text.
func Parse(text string) (float32, uint8, api.Errno) {
	if len(text) > longest {
		return 0, 0, api.ELIMIT
	}
	number, name, _ := strings.Cut(text, " ")
	exact, isDecimal := decimal(number)
	unit := named(name)
	if !isDecimal || !isUnit(unit) {
		return 0, 0, api.EFORM
	}
	x, errno := rounded(exact)
	if errno != api.OK {
		return 0, 0, errno
	}
	return x, unit, api.OK
}

// decimal tells the real number of a text, if it is one of the form that Parse asks for.
func decimal(text string) (*big.Rat, bool) {
	unsigned, isNegative := strings.CutPrefix(text, "-")
	ahead, behind, hasPoint := strings.Cut(unsigned, ".")
	if !areDigits(ahead) || hasPoint && !areDigits(behind) {
		return nil, false
	}
	whole, ok := new(big.Int).SetString(ahead+behind, 10)
	if !ok {
		return nil, false
	}
	if isNegative {
		whole.Neg(whole)
	}
	return new(big.Rat).SetFrac(whole, tenTo(len(behind))), true
}

// areDigits tells whether there is one digit or more, and nothing else.
func areDigits(text string) bool { return text != "" && strings.Trim(text, "0123456789") == "" }

// named tells the unit of a name, 0 if there is none.
func named(name string) uint8 {
	for unit := uint8(1); isUnit(unit); unit++ {
		if Name(unit) == name {
			return unit
		}
	}
	return 0
}
