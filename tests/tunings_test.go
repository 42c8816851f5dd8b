package tests

import (
	"math/big"
	"math/rand/v2"
	"strconv"
	"strings"
	"testing"

	"loop.example/musicengine/impl"
)

// largestNumber is the limit of the chapter, written out so that the tests do not depend on the program's constant.
const largestNumber = 2000000

// primeNumbers are large ones: the greatest within the limit, within its half and its third, and around its square root, where two of them have a product just within the limit or just beyond it.
var primeNumbers = []int{1999993, 1999979, 999983, 999979, 666649, 1423, 1409, 1399}

// ratioIn reads a text as 3/2.
func ratioIn(t *testing.T, text string) impl.Ratio {
	t.Helper()
	num, den, ok := strings.Cut(text, "/")
	first, err := strconv.Atoi(num)
	second, wrong := strconv.Atoi(den)
	if !ok || err != nil || wrong != nil {
		t.Fatal(text)
	}
	return impl.Ratio{Num: first, Den: second}
}

// ratiosIn reads a text as "1/1 3/2".
func ratiosIn(t *testing.T, text string) []impl.Ratio {
	t.Helper()
	var list []impl.Ratio
	for _, word := range strings.Fields(text) {
		list = append(list, ratioIn(t, word))
	}
	return list
}

// exactly is a ratio as a rational number, which the library keeps without common factors.
func exactly(r impl.Ratio) *big.Rat {
	return big.NewRat(int64(r.Num), int64(r.Den))
}

// ratioFrom is the ratio that is a rational number; the zero value and false if its numbers are too large.
func ratioFrom(x *big.Rat) (impl.Ratio, bool) {
	limit := big.NewInt(largestNumber)
	if x.Num().Cmp(limit) > 0 || x.Denom().Cmp(limit) > 0 {
		return impl.Ratio{}, false
	}
	return impl.Ratio{Num: int(x.Num().Int64()), Den: int(x.Denom().Int64())}, true
}

func numberIsValid(number int) bool {
	return number >= 1 && number <= largestNumber
}

// ratioIsValid asks without the program.
func ratioIsValid(r impl.Ratio) bool {
	if !numberIsValid(r.Num) || !numberIsValid(r.Den) {
		return false
	}
	same, _ := ratioFrom(exactly(r))
	return same == r
}

// validOf are those of all ratios of two lists of numbers that are valid.
func validOf(nums []int, dens []int) []impl.Ratio {
	var list []impl.Ratio
	for _, num := range nums {
		for _, den := range dens {
			if r := (impl.Ratio{Num: num, Den: den}); ratioIsValid(r) {
				list = append(list, r)
			}
		}
	}
	return list
}

func numbersUp(low int, high int) []int {
	var list []int
	for number := low; number <= high; number++ {
		list = append(list, number)
	}
	return list
}

// edgeNumbers are those at the limits, large primes, squares and other powers, and some that have many factors.
func edgeNumbers() []int {
	list := append(numbersUp(1, 8), numbersUp(largestNumber-6, largestNumber)...)
	list = append(list, primeNumbers...)
	list = append(list, 1000000, 1000001, 999999, 1413*1413, 1414*1414, 1409*1409, 1409*1399, 1<<20, 1594323, 1953125, 1441440, 1021020, 1413, 1414, 1415, 125*125)
	return list
}

// edgeRatios are all valid ones of such numbers.
func edgeRatios() []impl.Ratio {
	return validOf(edgeNumbers(), edgeNumbers())
}

// randomNumber is small, middling or large.
func randomNumber(source *rand.Rand) int {
	return 1 + source.IntN([]int{30, 1500, largestNumber}[source.IntN(3)])
}

// randomRatios are valid ones, always the same ones for a seed.
func randomRatios(seed uint64, count int) []impl.Ratio {
	source := rand.New(rand.NewPCG(18, seed))
	var list []impl.Ratio
	for len(list) < count {
		// Taking out the common factors makes numbers that have more factors than others.
		r, _ := ratioFrom(big.NewRat(int64(randomNumber(source)), int64(randomNumber(source))))
		list = append(list, r)
	}
	return list
}

// manyRatios are small, random and those at the limits.
func manyRatios(seed uint64, count int) []impl.Ratio {
	list := append(validOf(numbersUp(1, 30), numbersUp(1, 30)), edgeRatios()...)
	return append(list, randomRatios(seed, count)...)
}

// badNumbers are no numbers of ratios; some of them are if they are cut to fewer bits.
func badNumbers() []int {
	list := []int{0, -1, -2, -3, -largestNumber, -largestNumber - 1, largestNumber + 1, largestNumber + 2, 2 * largestNumber, 1<<32 + 1, 1<<32 + 3, 1<<32 + largestNumber, -1<<32 + 3, 1<<16 + largestNumber}
	for _, far := range farNumbers {
		if !numberIsValid(far) {
			list = append(list, far)
		}
	}
	return list
}

// ratiosWithCommonFactors have numbers within the limits.
func ratiosWithCommonFactors() []impl.Ratio {
	var list []impl.Ratio
	for _, num := range edgeNumbers() {
		for _, den := range edgeNumbers() {
			if r := (impl.Ratio{Num: num, Den: den}); !ratioIsValid(r) {
				list = append(list, r)
			}
		}
	}
	for _, prime := range append([]int{2, 3, 5, 7}, primeNumbers...) {
		most := largestNumber / prime
		for _, times := range [][2]int{{1, 1}, {1, 2}, {2, 1}, {2, 3}, {1, most}, {most, 1}, {most, most}, {most - 1, most}} {
			if times[0] >= 1 && times[0] <= most && times[1] <= most {
				list = append(list, impl.Ratio{Num: prime * times[0], Den: prime * times[1]})
			}
		}
	}
	return list
}

// badRatios are invalid: a number is outside of the limits, or both are, or they have a common factor.
func badRatios() []impl.Ratio {
	list := []impl.Ratio{{}}
	for _, bad := range badNumbers() {
		for _, good := range []int{1, 2, 3, largestNumber - 1, largestNumber} {
			list = append(list, impl.Ratio{Num: bad, Den: good}, impl.Ratio{Num: good, Den: bad})
		}
		for _, other := range badNumbers() {
			list = append(list, impl.Ratio{Num: bad, Den: other})
		}
	}
	return append(list, ratiosWithCommonFactors()...)
}

// fewBadRatios are one of each sort.
func fewBadRatios() []impl.Ratio {
	list := []impl.Ratio{{}, {Num: 2, Den: 2}, {Num: 2, Den: 4}, {Num: 6, Den: 4}, {Num: largestNumber, Den: largestNumber}, {Num: 999983, Den: 1999966}}
	for _, bad := range []int{0, -1, largestNumber + 1, 1<<32 + 3, farNumbers[0], farNumbers[len(farNumbers)-1]} {
		list = append(list, impl.Ratio{Num: bad, Den: 1}, impl.Ratio{Num: 1, Den: bad}, impl.Ratio{Num: bad, Den: bad})
	}
	return list
}

// fewRatios are good ones to stand beside bad ones.
func fewRatios(t *testing.T) []impl.Ratio {
	t.Helper()
	return ratiosIn(t, "1/1 3/2 2/3 2000000/1 1/2000000 2000000/1999999 1999993/1999979")
}

// checkRatio fails unless the program says what is wanted. It returns that.
func checkRatio(t *testing.T, r impl.Ratio) bool {
	t.Helper()
	want := ratioIsValid(r)
	if impl.RatioValid(r) != want {
		t.Fatal(r, want)
	}
	return want
}

// checkTimes fails unless the program returns the product of two valid ratios exactly if it is one. It returns whether it is.
func checkTimes(t *testing.T, a impl.Ratio, b impl.Ratio) bool {
	t.Helper()
	want, wantOk := ratioFrom(new(big.Rat).Mul(exactly(a), exactly(b)))
	if r, ok := impl.RatioTimes(a, b); ok != wantOk || r != want {
		t.Fatal(a, b, r, ok, want)
	}
	return wantOk
}

// checkNoTimes fails if two ratios have a product.
func checkNoTimes(t *testing.T, a impl.Ratio, b impl.Ratio) {
	t.Helper()
	if r, ok := impl.RatioTimes(a, b); ok || r != (impl.Ratio{}) {
		t.Fatal(a, b, r, ok)
	}
}

// checkLess fails unless the program orders two valid ratios as they are. It returns whether the first one is less.
func checkLess(t *testing.T, a impl.Ratio, b impl.Ratio) bool {
	t.Helper()
	want := exactly(a).Cmp(exactly(b)) < 0
	if impl.RatioLess(a, b) != want {
		t.Fatal(a, b, want)
	}
	return want
}

// product is what the program returns for several ratios, one after the other.
func product(t *testing.T, list ...impl.Ratio) impl.Ratio {
	t.Helper()
	all := impl.Ratio{Num: 1, Den: 1}
	for _, r := range list {
		more, ok := impl.RatioTimes(all, r)
		if !ok {
			t.Fatal(list, all, r)
		}
		all = more
	}
	return all
}

func TestP81NumbersHaveALimit(t *testing.T) {
	if impl.MaxRatio != largestNumber {
		t.Fatal(impl.MaxRatio)
	}
}

func TestP81SmallNumbers(t *testing.T) {
	var valid tally
	for num := -3; num <= 300; num++ {
		for den := -3; den <= 300; den++ {
			valid.add(checkRatio(t, impl.Ratio{Num: num, Den: den}))
		}
	}
	valid.check(t, 30000)
}

func TestP81NumbersAtTheLimit(t *testing.T) {
	var valid tally
	large := append(numbersUp(largestNumber-60, largestNumber+4), numbersUp(-2, 20)...)
	for _, num := range large {
		for _, den := range large {
			valid.add(checkRatio(t, impl.Ratio{Num: num, Den: den}))
		}
	}
	valid.check(t, 1000)
}

func TestP81OtherNumbers(t *testing.T) {
	var valid tally
	source := rand.New(rand.NewPCG(18, 81))
	for range 100000 {
		valid.add(checkRatio(t, impl.Ratio{Num: randomNumber(source), Den: randomNumber(source)}))
	}
	valid.check(t, 30000)
}

func TestP81EveryNumber(t *testing.T) {
	for number := 1; number <= largestNumber; number++ {
		alone := impl.RatioValid(impl.Ratio{Num: number, Den: number})
		high, low := impl.RatioValid(impl.Ratio{Num: number, Den: 1}), impl.RatioValid(impl.Ratio{Num: 1, Den: number})
		next := number == 1 || impl.RatioValid(impl.Ratio{Num: number - 1, Den: number})
		if alone != (number == 1) || !high || !low || !next {
			t.Fatal(number, alone, high, low, next)
		}
	}
}

func TestP81DoubledRatiosAreInvalid(t *testing.T) {
	for _, r := range manyRatios(181, 3000) {
		if !impl.RatioValid(r) {
			t.Fatal(r)
		}
		for times := 2; times <= 7; times++ {
			if more := (impl.Ratio{Num: times * r.Num, Den: times * r.Den}); impl.RatioValid(more) {
				t.Fatal(r, more)
			}
		}
		if less := (impl.Ratio{Num: -r.Num, Den: -r.Den}); impl.RatioValid(less) {
			t.Fatal(less)
		}
	}
}

func TestP81RatiosByText(t *testing.T) {
	good := "1/1 2/1 1/2 3/2 16/15 45/32 2000000/1 1/2000000 2000000/1999999 1999999/2000000 2000000/3 3/2000000 1999999/2 1999993/1999979 1999993/1999966 1048576/531441 999983/2 1985281/1399 1999993/2000000"
	for _, r := range ratiosIn(t, good) {
		if !impl.RatioValid(r) {
			t.Fatal(r)
		}
	}
	bad := "0/0 0/1 1/0 -1/1 1/-1 -1/-1 -3/2 3/-2 2/2 2/4 4/2 6/4 9/6 15/9 2000000/2000000 2000000/2 5/2000000 1999998/2000000 2000001/1 1/2000001 2000001/2000001 2000001/2000000 2000000/2000001 " +
		"1999993/1999993 1999966/999983 999983/1999966 999983/999983 1999947/1333298 1985281/1409 1409/1985281 1971191/1399 1971191/1985281 1048576/2 531441/729"
	for _, r := range ratiosIn(t, bad) {
		if impl.RatioValid(r) {
			t.Fatal(r)
		}
	}
}

func TestP81OtherRatiosAreInvalid(t *testing.T) {
	for _, r := range badRatios() {
		if impl.RatioValid(r) {
			t.Fatal(r)
		}
	}
}

func TestP82SmallProducts(t *testing.T) {
	small := validOf(numbersUp(1, 20), numbersUp(1, 20))
	for _, a := range small {
		for _, b := range small {
			if !checkTimes(t, a, b) {
				t.Fatal(a, b)
			}
		}
	}
}

func TestP82ProductsAtTheLimits(t *testing.T) {
	var possible tally
	edges := validOf(edgeNumbers()[:23], edgeNumbers()[:23])
	for _, a := range edges {
		for at, b := range edges {
			if at%3 == 0 {
				possible.add(checkTimes(t, a, b))
			}
		}
	}
	possible.check(t, 1000)
}

func TestP82OtherProducts(t *testing.T) {
	var possible tally
	list := manyRatios(82, 3000)
	source := rand.New(rand.NewPCG(18, 182))
	for _, a := range list {
		for range 10 {
			possible.add(checkTimes(t, a, list[source.IntN(len(list))]))
		}
	}
	possible.check(t, 3000)
}

// TestP82ProductsWithCommonFactors makes pairs whose product is known to be within the limits once the common factors are taken out.
func TestP82ProductsWithCommonFactors(t *testing.T) {
	whole := randomRatios(282, 4000)
	parts := randomRatios(382, 4000)
	possible := 0
	for at, want := range whole {
		a := parts[at]
		b, ok := ratioFrom(new(big.Rat).Quo(exactly(want), exactly(a)))
		if !ok {
			continue
		}
		possible++
		if r, ok := impl.RatioTimes(a, b); !ok || r != want {
			t.Fatal(a, b, r, ok, want)
		}
	}
	if possible < 500 {
		t.Fatal(possible)
	}
}

// TestP82ProductsNearTheLimit tries all pairs of numbers whose product is near the limit, as numerators and as denominators.
func TestP82ProductsNearTheLimit(t *testing.T) {
	var possible tally
	for number := 1; number <= 1500; number++ {
		for other := largestNumber/number - 1; other <= largestNumber/number+1 && other <= largestNumber; other++ {
			if other == 0 {
				continue
			}
			a, b := impl.Ratio{Num: number, Den: 1}, impl.Ratio{Num: other, Den: 1}
			ok := checkTimes(t, a, b)
			if ok != (number*other <= largestNumber) || checkTimes(t, impl.RatioBack(a), impl.RatioBack(b)) != ok {
				t.Fatal(a, b, ok)
			}
			possible.add(ok)
		}
	}
	possible.check(t, 1000)
}

func TestP82TheOrderDoesNotMatter(t *testing.T) {
	var possible tally
	list := manyRatios(482, 2000)
	for at, a := range list {
		b := list[(at*7919+1)%len(list)]
		there, ok := impl.RatioTimes(a, b)
		back, backOk := impl.RatioTimes(b, a)
		if there != back || ok != backOk {
			t.Fatal(a, b, there, back)
		}
		possible.add(ok)
	}
	possible.check(t, 200)
}

func TestP82RatiosTimesTheRatioBackAre1(t *testing.T) {
	one := impl.Ratio{Num: 1, Den: 1}
	for _, r := range manyRatios(582, 3000) {
		back := impl.Ratio{Num: r.Den, Den: r.Num}
		if all, ok := impl.RatioTimes(r, impl.RatioBack(r)); !ok || all != one {
			t.Fatal(r, all, ok)
		}
		if all, ok := impl.RatioTimes(back, r); !ok || all != one {
			t.Fatal(r, all, ok)
		}
		if same, ok := impl.RatioTimes(r, one); !ok || same != r {
			t.Fatal(r, same, ok)
		}
		if same, ok := impl.RatioTimes(one, r); !ok || same != r {
			t.Fatal(r, same, ok)
		}
	}
}

// productsByText are two ratios and their product; "none" where there is none.
var productsByText = []struct{ first, second, product string }{
	{"1/1", "1/1", "1/1"},
	{"3/2", "4/3", "2/1"},
	{"3/2", "2/3", "1/1"},
	{"3/2", "3/2", "9/4"},
	{"5/4", "6/5", "3/2"},
	{"6/35", "14/15", "4/25"},
	{"2000000/1", "1/2000000", "1/1"},
	{"2000000/1", "1/1", "2000000/1"},
	{"1/2000000", "1/1", "1/2000000"},
	{"2000000/1999999", "1999999/2000000", "1/1"},
	{"1999993/1999979", "1999979/1999993", "1/1"},
	{"1000000/1", "2/1", "2000000/1"},
	{"1/1000000", "1/2", "1/2000000"},
	{"1000001/1", "2/1", "none"}, // 2000002
	{"1/1000001", "1/2", "none"},
	{"666667/1", "3/1", "none"}, // 2000001
	{"1/666667", "1/3", "none"},
	{"1999999/1", "1/1999999", "1/1"},
	{"1414/1", "1414/1", "1999396/1"},
	{"1415/1", "1414/1", "none"}, // 2000810
	{"1/1414", "1/1414", "1/1999396"},
	{"1/1414", "1/1415", "none"},
	{"1409/1399", "1409/1399", "1985281/1957201"},
	{"1423/1399", "1423/1409", "none"}, // 2024929
	{"2000000/1", "2/1", "none"},
	{"2000000/1", "1/2", "1000000/1"},
	{"2000000/1", "3/2", "none"}, // 3000000
	{"2000000/3", "3/2", "1000000/1"},
	{"2000000/3", "3/1", "2000000/1"},
	{"2000000/3", "6/1", "none"},       // 4000000
	{"2000000/3", "6/5", "800000/1"},   // the numbers are within the limits only without 15
	{"3/2000000", "5/6", "1/800000"},   // and so are these
	{"2000000/3", "9/1000000", "6/1"},  // the product of the numerators is 18000000
	{"2000000/3", "9/1000001", "none"}, // 6000000/1000001
	{"2000000/1999999", "1/2", "1000000/1999999"},
	{"1999999/2000000", "2/1", "1999999/1000000"},
	{"1999993/1999979", "2/1", "none"}, // 3999986
	{"2000000/1999999", "3/1", "none"}, // 6000000
	{"1999999/1", "2000000/1", "none"}, // 3999998000000
	{"1/1999999", "1/2000000", "none"}, // the same as the denominator
	{"2000000/1", "2000000/1", "none"}, // 4000000000000
	{"1/2000000", "1/2000000", "none"}, // the same as the denominator
	{"1048576/531441", "3/2", "524288/177147"},
	{"1048576/531441", "1/3", "1048576/1594323"},
	{"1048576/531441", "1/9", "none"}, // 4782969
	{"531441/524288", "531441/524288", "none"},
	{"531441/524288", "1048576/531441", "2/1"},
	{"531441/524288", "2/1", "531441/262144"},
	{"999983/2", "2/1999979", "999983/1999979"},
	{"999983/2", "2/1", "999983/1"},
	{"999983/1", "2/1", "1999966/1"},
	{"999983/1", "3/1", "none"},
	{"1409/1", "1409/1", "1985281/1"},
	{"1985281/1", "1/1409", "1409/1"},
	{"1985281/1399", "1399/1985281", "1/1"},
	{"1/1048576", "1048576/1", "1/1"},
	{"1024/1", "1024/1", "1048576/1"},
	{"1024/1", "2048/1", "none"}, // 2097152
}

func TestP82ProductsByText(t *testing.T) {
	for _, c := range productsByText {
		a, b := ratioIn(t, c.first), ratioIn(t, c.second)
		if c.product == "none" {
			checkNoTimes(t, a, b)
			checkNoTimes(t, b, a)
			continue
		}
		want := ratioIn(t, c.product)
		if r, ok := impl.RatioTimes(a, b); !ok || r != want {
			t.Fatal(c, r, ok)
		}
		if r, ok := impl.RatioTimes(b, a); !ok || r != want {
			t.Fatal(c, r, ok)
		}
	}
}

func TestP82OtherRatiosHaveNoProduct(t *testing.T) {
	for _, bad := range badRatios() {
		for _, good := range fewRatios(t) {
			checkNoTimes(t, bad, good)
			checkNoTimes(t, good, bad)
		}
		// Together with what would make it 1, were it a ratio.
		checkNoTimes(t, bad, impl.Ratio{Num: bad.Den, Den: bad.Num})
		checkNoTimes(t, bad, bad)
		for _, other := range fewBadRatios() {
			checkNoTimes(t, bad, other)
			checkNoTimes(t, other, bad)
		}
	}
}

func TestP83RatiosHaveTwoDirections(t *testing.T) {
	one := impl.Ratio{Num: 1, Den: 1}
	for _, r := range append(manyRatios(83, 5000), one) {
		back := impl.RatioBack(r)
		if back != (impl.Ratio{Num: r.Den, Den: r.Num}) || !impl.RatioValid(back) || impl.RatioBack(back) != r {
			t.Fatal(r, back)
		}
		isLess, backIsLess := impl.RatioLess(r, one), impl.RatioLess(back, one)
		if (isLess != backIsLess) != (r != one) || isLess != (r.Num < r.Den) {
			t.Fatal(r, back, isLess, backIsLess)
		}
	}
}

func TestP83EveryNumberHasTwoDirections(t *testing.T) {
	for number := 1; number < largestNumber; number++ {
		high, low := impl.Ratio{Num: number + 1, Den: number}, impl.Ratio{Num: number, Den: number + 1}
		if impl.RatioBack(high) != low || impl.RatioBack(low) != high {
			t.Fatal(high, low)
		}
	}
}

func TestP83RatiosByText(t *testing.T) {
	there := ratiosIn(t, "1/1 3/2 45/32 2000000/1 2000000/1999999 1999993/1999979 531441/524288 1999999/2")
	back := ratiosIn(t, "1/1 2/3 32/45 1/2000000 1999999/2000000 1999979/1999993 524288/531441 2/1999999")
	for at, r := range there {
		if impl.RatioBack(r) != back[at] || impl.RatioBack(back[at]) != r {
			t.Fatal(r, impl.RatioBack(r), impl.RatioBack(back[at]))
		}
	}
}

func TestP83OtherRatiosHaveNoWayBack(t *testing.T) {
	for _, bad := range badRatios() {
		if back := impl.RatioBack(bad); back != (impl.Ratio{}) {
			t.Fatal(bad, back)
		}
	}
}

// pureByText are the pure ratios of -24 to 24 half tones, written out.
const pureByText = "1/4 4/15 5/18 3/10 5/16 1/3 16/45 3/8 2/5 5/12 4/9 15/32 " +
	"1/2 8/15 5/9 3/5 5/8 2/3 32/45 3/4 4/5 5/6 8/9 15/16 " +
	"1/1 16/15 9/8 6/5 5/4 4/3 45/32 3/2 8/5 5/3 9/5 15/8 " +
	"2/1 32/15 9/4 12/5 5/2 8/3 45/16 3/1 16/5 10/3 18/5 15/4 4/1"

// numbered is a function of the program that returns ratios for the numbers from -last to last.
type numbered struct {
	last  int
	ratio func(number int) (impl.Ratio, bool)
}

var (
	pureRatios = numbered{24, impl.PureRatio}
	manyFifths = numbered{12, impl.FifthsRatio}
)

// of calls the program for a number for which there is a ratio.
func (n numbered) of(t *testing.T, number int) impl.Ratio {
	t.Helper()
	r, ok := n.ratio(number)
	if !ok || !impl.RatioValid(r) {
		t.Fatal(number, r, ok)
	}
	return r
}

// checkAll fails unless the program returns exactly the ratios of a text.
func (n numbered) checkAll(t *testing.T, text string) {
	t.Helper()
	list := ratiosIn(t, text)
	if len(list) != 2*n.last+1 {
		t.Fatal(len(list))
	}
	for at, want := range list {
		if r := n.of(t, at-n.last); r != want {
			t.Fatal(at-n.last, r, want)
		}
	}
}

// checkOthers fails if there is a ratio for a number that is farther from 0.
func (n numbered) checkOthers(t *testing.T) {
	t.Helper()
	list := append([]int{1<<32 + 1, -1<<32 - 1, 1<<32 + 7, 1<<8 + 1, 1<<16 + 1, -1<<8 + 1}, farNumbers...)
	for more := 1; more <= 100; more++ {
		list = append(list, n.last+more, -n.last-more)
	}
	for _, number := range list {
		if r, ok := n.ratio(number); ok || r != (impl.Ratio{}) {
			t.Fatal(number, r, ok)
		}
	}
}

func TestP84EveryPureRatio(t *testing.T) {
	pureRatios.checkAll(t, pureByText)
}

func TestP84PureRatiosGrow(t *testing.T) {
	for halves := -24; halves < 24; halves++ {
		low, high := pureRatios.of(t, halves), pureRatios.of(t, halves+1)
		if !impl.RatioLess(low, high) || exactly(low).Cmp(exactly(high)) >= 0 {
			t.Fatal(halves, low, high)
		}
	}
}

// TestP84AnOctaveMoreIsTwiceAsMuch compares ways up with ways up and ways down with ways down: a way down has the ratio back, so that 2 down is 8/9 although 10 up is 9/5.
func TestP84AnOctaveMoreIsTwiceAsMuch(t *testing.T) {
	for halves := 0; halves <= 12; halves++ {
		low, high := pureRatios.of(t, halves), pureRatios.of(t, halves+12)
		if twice, ok := impl.RatioTimes(low, impl.Ratio{Num: 2, Den: 1}); !ok || twice != high {
			t.Fatal(halves, low, high, twice)
		}
		low, high = pureRatios.of(t, -halves-12), pureRatios.of(t, -halves)
		if twice, ok := impl.RatioTimes(low, impl.Ratio{Num: 2, Den: 1}); !ok || twice != high {
			t.Fatal(-halves, low, high, twice)
		}
	}
}

func TestP84TheWayDownIsTheRatioBack(t *testing.T) {
	for halves := -24; halves <= 24; halves++ {
		there, back := pureRatios.of(t, halves), pureRatios.of(t, -halves)
		if impl.RatioBack(there) != back || there.Num != back.Den || there.Den != back.Num {
			t.Fatal(halves, there, back)
		}
	}
}

func TestP84OtherNumbersHaveNoPureRatio(t *testing.T) {
	pureRatios.checkOthers(t)
}

// fifthsByText are the ratios of -12 to 12 fifths, written out.
const fifthsByText = "1048576/531441 262144/177147 65536/59049 32768/19683 8192/6561 4096/2187 1024/729 256/243 128/81 32/27 16/9 4/3 " +
	"1/1 3/2 9/8 27/16 81/64 243/128 729/512 2187/2048 6561/4096 19683/16384 59049/32768 177147/131072 531441/524288"

func TestP85EveryNumberOfFifths(t *testing.T) {
	manyFifths.checkAll(t, fifthsByText)
}

func TestP85FifthsStayWithinTheOctave(t *testing.T) {
	one, two := impl.Ratio{Num: 1, Den: 1}, impl.Ratio{Num: 2, Den: 1}
	for fifths := -12; fifths <= 12; fifths++ {
		r := manyFifths.of(t, fifths)
		if impl.RatioLess(r, one) || !impl.RatioLess(r, two) || r.Num < r.Den || r.Num >= 2*r.Den || (r == one) != (fifths == 0) {
			t.Fatal(fifths, r)
		}
	}
}

func TestP85AFifthMore(t *testing.T) {
	large, small := 0, 0
	for fifths := -12; fifths < 12; fifths++ {
		r, next := manyFifths.of(t, fifths), manyFifths.of(t, fifths+1)
		up, upOk := impl.RatioTimes(r, impl.Ratio{Num: 3, Den: 2})
		down, downOk := impl.RatioTimes(r, impl.Ratio{Num: 3, Den: 4})
		switch {
		case upOk && next == up:
			large++
		case downOk && next == down:
			small++
		default:
			t.Fatal(fifths, r, next)
		}
	}
	// The 24 fifths lead from a ratio just below 2 to one just above 1, so that 15 octaves are taken out of them.
	if large != 9 || small != 15 {
		t.Fatal(large, small)
	}
}

// TestP85FifthsTheOtherWay holds them against fifths that are multiplied first and brought into the octave then.
func TestP85FifthsTheOtherWay(t *testing.T) {
	one, two := big.NewRat(1, 1), big.NewRat(2, 1)
	for fifths := -12; fifths <= 12; fifths++ {
		x := big.NewRat(1, 1)
		for range fifths {
			x.Mul(x, big.NewRat(3, 2))
		}
		for range -fifths {
			x.Mul(x, big.NewRat(2, 3))
		}
		for x.Cmp(one) < 0 {
			x.Mul(x, two)
		}
		for x.Cmp(two) >= 0 {
			x.Quo(x, two)
		}
		if want, ok := ratioFrom(x); !ok || manyFifths.of(t, fifths) != want {
			t.Fatal(fifths, manyFifths.of(t, fifths), x)
		}
	}
}

func TestP85FifthsDownMakeUpOctaves(t *testing.T) {
	for fifths := 1; fifths <= 12; fifths++ {
		both, ok := impl.RatioTimes(manyFifths.of(t, fifths), manyFifths.of(t, -fifths))
		if !ok || both != (impl.Ratio{Num: 2, Den: 1}) {
			t.Fatal(fifths, both)
		}
	}
}

func TestP85OtherNumbersOfFifthsHaveNoRatio(t *testing.T) {
	manyFifths.checkOthers(t)
}

// checkOrder fails unless two ratios are in the order in which they are, and the ratios back in the other one. It returns whether the first one is less.
func checkOrder(t *testing.T, a impl.Ratio, b impl.Ratio) bool {
	t.Helper()
	less, more := checkLess(t, a, b), checkLess(t, b, a)
	if (less != more) != (a != b) || less && more {
		t.Fatal(a, b, less, more)
	}
	if impl.RatioLess(impl.RatioBack(b), impl.RatioBack(a)) != less || impl.RatioLess(impl.RatioBack(a), impl.RatioBack(b)) != more {
		t.Fatal(a, b, less, more)
	}
	return less
}

func TestP86SmallRatiosAreInOrder(t *testing.T) {
	var less tally
	small := validOf(numbersUp(1, 20), numbersUp(1, 20))
	for _, a := range small {
		for _, b := range small {
			less.add(checkOrder(t, a, b))
		}
	}
	less.check(t, 10000)
}

func TestP86OtherRatiosAreInOrder(t *testing.T) {
	var less tally
	list := manyRatios(86, 5000)
	source := rand.New(rand.NewPCG(18, 186))
	for _, a := range list {
		for range 10 {
			less.add(checkOrder(t, a, list[source.IntN(len(list))]))
		}
	}
	less.check(t, 10000)
}

func TestP86EqualRatiosAreNotLess(t *testing.T) {
	for _, r := range manyRatios(286, 3000) {
		if impl.RatioLess(r, r) || checkOrder(t, r, r) {
			t.Fatal(r)
		}
	}
}

// TestP86RatiosThatDifferByLittle goes through neighbours: their products with each other's denominators differ by 1 or 2.
func TestP86RatiosThatDifferByLittle(t *testing.T) {
	for number := 2; number < largestNumber; number++ {
		low, high := impl.Ratio{Num: number - 1, Den: number}, impl.Ratio{Num: number, Den: number + 1}
		if !impl.RatioLess(low, high) || impl.RatioLess(high, low) {
			t.Fatal(low, high)
		}
	}
	for number := largestNumber - 3000; number <= largestNumber; number++ {
		low, high := impl.Ratio{Num: number - 1, Den: number}, impl.Ratio{Num: number - 2, Den: number - 1}
		if checkOrder(t, low, high) || !checkOrder(t, high, low) {
			t.Fatal(low, high)
		}
	}
}

// TestP86NeighboursOfLargeRatios finds, for ratios with large numbers, one that is as near as any other with numbers within the limits.
func TestP86NeighboursOfLargeRatios(t *testing.T) {
	found := 0
	for _, r := range append(edgeRatios(), randomRatios(386, 3000)...) {
		den := new(big.Int).ModInverse(big.NewInt(int64(r.Num)), big.NewInt(int64(r.Den)))
		if r.Den == 1 || den == nil {
			continue
		}
		// The numbers make r.Num * d - r.Den * n = 1, so that n/d is a little less.
		d := int(den.Int64())
		low := impl.Ratio{Num: (r.Num*d - 1) / r.Den, Den: d}
		if !ratioIsValid(low) {
			continue
		}
		found++
		if !checkOrder(t, low, r) || checkOrder(t, r, low) {
			t.Fatal(low, r)
		}
	}
	if found < 1000 {
		t.Fatal(found)
	}
}

func TestP86RatiosByText(t *testing.T) {
	// Each is less than the next one.
	list := ratiosIn(t, "1/2000000 1/1999999 1/1999998 999999/1999999 1/2 1000000/1999999 524288/531441 1999997/1999998 1999998/1999999 1999999/2000000 1/1 "+
		"2000000/1999999 1999999/1999998 1999998/1999997 81/80 531441/524288 5/4 3/2 1048576/531441 1999999/1000000 2/1 2000000/999999 1999998/1 1999999/1 2000000/1")
	for low, a := range list {
		for high, b := range list {
			if impl.RatioLess(a, b) != (low < high) || checkOrder(t, a, b) != (low < high) {
				t.Fatal(a, b)
			}
		}
	}
}

func TestP86OtherRatiosAreNeverLess(t *testing.T) {
	refused := func(a impl.Ratio, b impl.Ratio) {
		if impl.RatioLess(a, b) || impl.RatioLess(b, a) {
			t.Fatal(a, b)
		}
	}
	for _, bad := range badRatios() {
		for _, good := range fewRatios(t) {
			refused(bad, good)
		}
		for _, other := range fewBadRatios() {
			refused(bad, other)
		}
		refused(bad, impl.Ratio{Num: bad.Den, Den: bad.Num})
		refused(bad, bad)
	}
}

func TestP131PureThirdsAreNoOctave(t *testing.T) {
	two := pureRatios.of(t, 12)
	if two != (impl.Ratio{Num: 2, Den: 1}) {
		t.Fatal(two)
	}
	major, minor := pureRatios.of(t, 4), pureRatios.of(t, 3)
	three, four := product(t, major, major, major), product(t, minor, minor, minor, minor)
	if three != (impl.Ratio{Num: 125, Den: 64}) || !impl.RatioLess(three, two) || impl.RatioLess(two, three) {
		t.Fatal(three)
	}
	if four != (impl.Ratio{Num: 1296, Den: 625}) || !impl.RatioLess(two, four) || impl.RatioLess(four, two) {
		t.Fatal(four)
	}
	// One of each makes a fifth all the same.
	if both := product(t, major, minor); both != pureRatios.of(t, 7) {
		t.Fatal(both)
	}
}

func TestP131TwelveFifthsAreMoreThanSevenOctaves(t *testing.T) {
	fifths, octaves := impl.Ratio{Num: 1, Den: 1}, impl.Ratio{Num: 1, Den: 1}
	for range 12 {
		fifths = product(t, fifths, pureRatios.of(t, 7))
	}
	for range 7 {
		octaves = product(t, octaves, pureRatios.of(t, 12))
	}
	if fifths != (impl.Ratio{Num: 531441, Den: 4096}) || octaves != (impl.Ratio{Num: 128, Den: 1}) {
		t.Fatal(fifths, octaves)
	}
	if !impl.RatioLess(octaves, fifths) || impl.RatioLess(fifths, octaves) {
		t.Fatal(fifths, octaves)
	}
	more := product(t, fifths, impl.RatioBack(octaves))
	if more != manyFifths.of(t, 12) || !impl.RatioLess(impl.Ratio{Num: 1, Den: 1}, more) {
		t.Fatal(more)
	}
}
