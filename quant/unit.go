package quant

import (
	"math/big"

	"almoner/api"
)

// What can be measured: one line of units each.
const (
	nothing = iota
	mass
	volume
	length
	temperature
	pressure
	glucose
	rate
	share
)

// row tells of a unit how quantities in it are measured in its line's first one (of temperatures: in K): zero hundredths are added, then all goes by num / den.
type row struct {
	name     string
	measures uint8
	num, den int64
	zero     int64
}

// units stand at their numbers; no unit has the number 0.
var units = [...]row{
	{"", nothing, 0, 0, 0},
	{"g", mass, 1, 1, 0},
	{"mg", mass, 1, 1000, 0},
	{"ug", mass, 1, 1000000, 0},
	{"kg", mass, 1000, 1, 0},
	{"lb", mass, 45359237, 100000, 0},
	{"L", volume, 1, 1, 0},
	{"mL", volume, 1, 1000, 0},
	{"m", length, 1, 1, 0},
	{"cm", length, 1, 100, 0},
	{"in", length, 254, 10000, 0},
	{"C", temperature, 1, 1, 27315},
	{"F", temperature, 5, 9, 45967},
	{"K", temperature, 1, 1, 0},
	{"kPa", pressure, 1, 1, 0},
	{"mmHg", pressure, 101325, 760000, 0},
	{"mmol/L", glucose, 1, 1, 0},
	{"mg/dL", glucose, 10000, 180156, 0},
	{"/min", rate, 1, 1, 0},
	{"/s", rate, 60, 1, 0},
	{"%", share, 1, 1, 0},
	{"1", share, 100, 1, 0},
}

// Units tells how many units there are: they are numbered from 1 on.
func Units() int { return len(units) - 1 }

// Name tells a unit's name.
func Name(unit uint8) string {
	if !isUnit(unit) {
		return ""
	}
	return units[unit].name
}

// Same tells whether two units measure one thing.
func Same(a, b uint8) bool {
	return isUnit(a) && isUnit(b) && units[a].measures == units[b].measures
}

func isUnit(unit uint8) bool { return unit >= 1 && int(unit) <= Units() }

// Convert tells a quantity in another unit.
func Convert(x float32, from, to uint8) (float32, api.Errno) {
	if !Same(from, to) {
		return 0, api.EUNIT
	}
	if !isNumber(x) {
		return 0, api.ERANGE
	}
	quantity := measured(x, from)
	quantity.Quo(quantity, size(to))
	return rounded(quantity.Sub(quantity, zero(to)))
}

// Compare tells -1, 0, 1 for below, the same, above.
func Compare(x float32, a uint8, y float32, b uint8) (int, api.Errno) {
	if !Same(a, b) {
		return 0, api.EUNIT
	}
	if !isNumber(x) || !isNumber(y) {
		return 0, api.ERANGE
	}
	return measured(x, a).Cmp(measured(y, b)), api.OK
}

// measured tells a quantity in its line's first unit (of temperatures: in K).
func measured(x float32, unit uint8) *big.Rat {
	quantity := exactly(x)
	quantity.Add(quantity, zero(unit))
	return quantity.Mul(quantity, size(unit))
}

func size(unit uint8) *big.Rat { return big.NewRat(units[unit].num, units[unit].den) }

func zero(unit uint8) *big.Rat { return big.NewRat(units[unit].zero, 100) }
