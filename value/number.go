package value

import (
	"math"

	"sieve/api"
)

// Add gives the sum, if it is an int64.
func Add(x, y api.Value) api.Value {
	if !bothInts(x, y) {
		return null()
	}
	sum := x.Num + y.Num
	if (sum < x.Num) != (y.Num < 0) {
		return null()
	}
	return Int(sum)
}

// Subtract gives the difference, if it is an int64.
func Subtract(x, y api.Value) api.Value {
	if !bothInts(x, y) {
		return null()
	}
	rest := x.Num - y.Num
	if (rest > x.Num) != (y.Num < 0) {
		return null()
	}
	return Int(rest)
}

// Multiply gives the product, if it is an int64.
func Multiply(x, y api.Value) api.Value {
	if !bothInts(x, y) {
		return null()
	}
	if y.Num == 0 {
		return Int(0)
	}
	product := x.Num * y.Num
	// Dividing back shows every wrap-round but this one, which it undoes.
	if leastByMinusOne(x.Num, y.Num) || product/y.Num != x.Num {
		return null()
	}
	return Int(product)
}

// Divide gives the quotient towards 0, if there is one and it is an int64.
func Divide(x, y api.Value) api.Value {
	if !bothInts(x, y) || y.Num == 0 || leastByMinusOne(x.Num, y.Num) {
		return null()
	}
	return Int(x.Num / y.Num)
}

func leastByMinusOne(a, b int64) bool { return a == math.MinInt64 && b == -1 }
