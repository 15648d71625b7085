package quant

import (
	"math"
	"math/big"

	"almoner/api"
)

// Stats is what is told of some numbers.
type Stats struct {
	Count                              int
	Least, Greatest, Sum, Mean, Spread float32
}

// Tell tells of numbers how many there are, the least, the greatest, the sum, the mean, the variance.
func Tell(xs []float32) (Stats, api.Errno) {
	errno := refusal(xs, true)
	if errno != api.OK || len(xs) == 0 {
		return Stats{}, errno
	}
	least, greatest := bounds(xs)
	n, total := int64(len(xs)), totalGrains(xs)
	sum, sumErrno := rounded(fraction(total, 1, grainBits))
	mean, _ := rounded(fraction(total, n, grainBits)) // never beyond the least and the greatest
	spread, spreadErrno := rounded(fraction(spreadGrains(xs), n*n, 2*grainBits))
	if sumErrno != api.OK || spreadErrno != api.OK {
		return Stats{}, api.ERANGE
	}
	return Stats{len(xs), least, greatest, sum, mean, spread}, api.OK
}

// Slope tells by how much numbers rise from one to the next, by least squares.
func Slope(xs []float32) (float32, api.Errno) {
	if errno := refusal(xs, len(xs) >= 2); errno != api.OK {
		return 0, errno
	}
	n := int64(len(xs))
	var places, squares int64 // their sums: those of 4096 places are far below 2^63, by n too
	products := new(big.Int)
	for i, x := range xs {
		place := int64(i)
		places += place
		squares += place * place
		products.Add(products, times(grains(x), place))
	}
	rise := times(products, n)
	rise.Sub(rise, times(totalGrains(xs), places))
	return rounded(fraction(rise, n*squares-places*places, grainBits))
}

// Window tells the mean of each n numbers that stand side by side.
func Window(xs []float32, n int) ([]float32, api.Errno) {
	if errno := refusal(xs, n >= 1); errno != api.OK {
		return nil, errno
	}
	means := make([]float32, 0, max(len(xs)-n+1, 0))
	total := new(big.Int)
	for last, x := range xs {
		total.Add(total, grains(x))
		first := last - n + 1
		if first < 0 {
			continue
		}
		mean, _ := rounded(fraction(total, int64(n), grainBits)) // never beyond the least and the greatest
		means = append(means, mean)
		total.Sub(total, grains(xs[first]))
	}
	return means, api.OK
}

// refusal tells why numbers are refused, in the order that all calls keep: too many; an argument, beside them or their count, that may not be; one that is no number.
func refusal(xs []float32, argumentsMayBe bool) api.Errno {
	if len(xs) > api.MaxEvents {
		return api.ELIMIT
	}
	if !argumentsMayBe {
		return api.EARG
	}
	for _, x := range xs {
		if !isNumber(x) {
			return api.ERANGE
		}
	}
	return api.OK
}

// bounds asks for one number at least; that is why it may begin with bounds that each number is within.
func bounds(xs []float32) (least, greatest float32) {
	least, greatest = math.MaxFloat32, -math.MaxFloat32
	for _, x := range xs {
		x, _ = Canon(x)
		least, greatest = min(least, x), max(greatest, x)
	}
	return least, greatest
}

// grainBits: a grain is 2^-149, the least number above 0. All numbers are whole grains, so that sums of them are sums of whole numbers.
const grainBits = 149

// grains tells how many of them a number has.
func grains(x float32) *big.Int {
	bits := math.Float32bits(x)
	significand, exponent := int64(bits&(1<<23-1)), uint(bits>>23&(1<<8-1))
	if exponent > 0 { // else it is subnormal: its first bit is not left out, and counts as with exponent 1
		significand |= 1 << 23
		exponent--
	}
	count := new(big.Int).Lsh(big.NewInt(significand), exponent)
	if x < 0 {
		count.Neg(count)
	}
	return count
}

func totalGrains(xs []float32) *big.Int {
	total := new(big.Int)
	for _, x := range xs {
		total.Add(total, grains(x))
	}
	return total
}

// spreadGrains tells n n times the variance, in squares of grains: n times the sum of the squares, less the square of the sum.
func spreadGrains(xs []float32) *big.Int {
	squares := new(big.Int)
	for _, x := range xs {
		count := grains(x)
		squares.Add(squares, count.Mul(count, count))
	}
	total := totalGrains(xs)
	spread := times(squares, int64(len(xs)))
	return spread.Sub(spread, total.Mul(total, total))
}

func times(count *big.Int, n int64) *big.Int { return new(big.Int).Mul(count, big.NewInt(n)) }

// fraction tells the real number count / (n 2^bits).
func fraction(count *big.Int, n int64, bits uint) *big.Rat {
	return new(big.Rat).SetFrac(count, new(big.Int).Lsh(big.NewInt(n), bits))
}
