package dbm

import (
	"fmt"
	"slices"
	"testing"

	"gnomon/api"
)

// cells1: an octagon of one variable, its four cells as they stand.
func cells1(m ...int64) api.Oct { return api.Oct{N: 1, M: m} }

func TestExamples(t *testing.T) {
	one, _ := Top(1)
	if told(one) != told(cells1(0, inf, inf, 0)) {
		t.Errorf("P12.1: Top(1): %s", told(one))
	}
	three, _ := With(one, 0, 1, 6)
	for x, want := range map[int64]bool{3: true, 4: false, -100: true, least: true, most: false} {
		if Has(three, []int64{x}) != want {
			t.Errorf("P12.2: 2 x <= 6 of %d: %v", x, !want)
		}
	}
	two, _ := Top(2)
	two, _ = With(two, 0, 2, 1)
	if told(two) != told(oct(t, "2: 0,2<=1")) || two.M[4*0+2] != 1 || two.M[4*3+1] != 1 {
		t.Errorf("P12.2: x - y <= 1: %s", told(two))
	}
	if o, e := Points(1, [][]int64{{3}, {5}}); told(o) != told(cells1(0, 10, -6, 0)) || e != api.OK {
		t.Errorf("P12.3: of 3 and 5: %s", told(o))
	}
	none, _ := Top(0)
	if !Has(none, nil) || !Has(none, []int64{}) {
		t.Error("P12.3: of no variables Top hasn't the point without numbers")
	}
}

// TestSides: what each cell bounds, told by points of two variables that are at most at a bound, or above it by one.
func TestSidesP122(t *testing.T) {
	x := []int64{5, 20}
	for at, d := range map[[2]int]int64{
		{0, 1}: 10, {1, 0}: -10, {2, 3}: 40, {3, 2}: -40,
		{0, 2}: -15, {3, 1}: -15, {2, 0}: 15, {1, 3}: 15,
		{0, 3}: 25, {2, 1}: 25, {3, 0}: -25, {1, 2}: -25,
	} {
		top, _ := Top(2)
		for by, want := range map[int64]bool{-1: false, 0: true, 1: true} {
			o, _ := With(top, at[0], at[1], d+by)
			if Has(o, x) != want {
				t.Errorf("P12.2: (%d, %d) at most %d: %v", at[0], at[1], d+by, !want)
			}
		}
		p, _ := Points(2, [][]int64{x})
		if c, e := Get(p, at[0], at[1]); c != d || e != api.OK {
			t.Errorf("P12.3: (%d, %d) of 5, 20: %d, %d; want %d", at[0], at[1], c, e, d)
		}
	}
}

func TestCheckP121(t *testing.T) {
	for _, r := range []struct {
		o    api.Oct
		want api.Errno
	}{
		{api.Oct{}, api.OK}, {api.Oct{M: []int64{}}, api.OK}, {api.Oct{Empty: true}, api.OK}, {api.Oct{N: 64, Empty: true}, api.OK}, {api.Oct{N: 7, Empty: true, M: []int64{}}, api.OK},
		{cells1(0, inf, inf, 0), api.OK}, {cells1(0, 1, 2, 0), api.OK}, {cells1(0, -5, 3, 0), api.OK}, {cells1(0, far, -far, 0), api.OK}, {cells1(0, -far, inf, 0), api.OK},
		{api.Oct{N: -1}, api.ErrDbmSize}, {api.Oct{N: 65, Empty: true}, api.ErrDbmSize}, {api.Oct{N: -1, Empty: true}, api.ErrDbmSize}, {api.Oct{N: -1, M: open(1).M}, api.ErrDbmSize}, {api.Oct{N: 65, M: open(65).M}, api.ErrDbmSize},
		{api.Oct{N: most}, api.ErrDbmSize}, {api.Oct{N: least}, api.ErrDbmSize}, {api.Oct{N: 1 << 31}, api.ErrDbmSize}, {api.Oct{N: 1 << 32, M: []int64{0}}, api.ErrDbmSize}, {api.Oct{N: most, Empty: true}, api.ErrDbmSize}, {api.Oct{N: least, Empty: true}, api.ErrDbmSize},
		{api.Oct{N: 1}, api.ErrDbmSize}, {cells1(0, 1, 2), api.ErrDbmSize}, {cells1(0, 1, 2, 0, 0), api.ErrDbmSize}, {cells1(0), api.ErrDbmSize}, {api.Oct{M: []int64{0}}, api.ErrDbmSize}, {api.Oct{N: 2, M: open(1).M}, api.ErrDbmSize}, {api.Oct{N: 1, M: open(2).M}, api.ErrDbmSize},
		{api.Oct{N: 1, Empty: true, M: open(1).M}, api.ErrDbmSize}, {api.Oct{N: 1, Empty: true, M: []int64{0}}, api.ErrDbmSize}, {api.Oct{Empty: true, M: []int64{0}}, api.ErrDbmSize},
		{cells1(0, far+1, 2, 0), api.ErrDbmForm}, {cells1(0, 1, inf-1, 0), api.ErrDbmForm}, {cells1(0, -far-1, 2, 0), api.ErrDbmForm}, {cells1(0, 1, least, 0), api.ErrDbmForm}, {cells1(0, -inf, 2, 0), api.ErrDbmForm},
		{cells1(1, 1, 2, 0), api.ErrDbmForm}, {cells1(-1, 1, 2, -1), api.ErrDbmForm}, {cells1(0, 1, 2, 3), api.ErrDbmForm}, {cells1(inf, 1, 2, inf), api.ErrDbmForm}, {cells1(2, 1, 2, 2), api.ErrDbmForm},
		// The number of cells comes first.
		{cells1(1, far+1, 2), api.ErrDbmSize}, {api.Oct{N: 65, M: []int64{1, least, 2, 0}}, api.ErrDbmSize}, {api.Oct{N: 1, Empty: true, M: []int64{5, least, 2, 0}}, api.ErrDbmSize},
	} {
		if e := Check(r.o); e != r.want {
			t.Errorf("P12.1: %s: %d; want %d", told(r.o), e, r.want)
		}
	}
}

// TestEachCellIsHeld: in whatever cell a fault is, it is found; and a bound that stands at both places of a cell is none.
func TestEachCellIsHeldP121(t *testing.T) {
	for _, n := range []int{1, 2, 3, 8, 64} {
		o := open(n)
		step := 1 + n/6
		for i := 0; i < 2*n; i += step {
			for j := range 2 * n {
				k, l := 2*n*i+j, 2*n*over(j)+over(i)
				was := o.M[k]
				for _, c := range []int64{5, 0, far, -far, far + 1, -far - 1, least, inf - 1} {
					o.M[k] = c
					alone := api.Errno(api.ErrDbmForm)
					if k == l && -far <= c && c <= far || c == was {
						alone = api.OK
					}
					if e := Check(o); e != alone {
						t.Fatalf("P12.1: of %d variables %d at (%d, %d) alone: %d", n, c, i, j, e)
					}
					o.M[l] = c
					both := api.Errno(api.OK)
					if c < -far || c > far || i == j && c != 0 {
						both = api.ErrDbmForm
					}
					if e := Check(o); e != both {
						t.Fatalf("P12.1: of %d variables %d at (%d, %d) and across: %d", n, c, i, j, e)
					}
					o.M[k], o.M[l] = was, was
				}
			}
		}
	}
}

func TestGetP122(t *testing.T) {
	for n := range 5 {
		o := full(n)
		for i := -3; i <= 2*n+2; i++ {
			for j := -3; j <= 2*n+2; j++ {
				want, err := int64(0), api.Errno(api.ErrDbmPlace)
				if min(i, j) >= 0 && max(i, j) < 2*n {
					want, err = o.M[2*n*i+j], api.OK
				}
				if c, e := Get(o, i, j); c != want || e != err {
					t.Errorf("P12.2: (%d, %d) of %d variables: %d, %d; want %d, %d", i, j, n, c, e, want, err)
				}
				if c, e := Get(api.Oct{N: n, Empty: true}, i, j); c != 0 || e != api.ErrDbmPlace {
					t.Errorf("P12.2: (%d, %d) of an Empty one of %d variables: %d, %d", i, j, n, c, e)
				}
			}
		}
	}
	for _, c := range []int64{far, -far, inf, 0, far - 1} {
		if got, e := Get(cells1(0, c, 1, 0), 0, 1); got != c || e != api.OK {
			t.Errorf("P12.2: a cell %d: %d, %d", c, got, e)
		}
	}
}

// TestWith: what stands in a cell and what is laid on it, at each place, with what else there is left as it is.
func TestWithP122(t *testing.T) {
	for _, r := range []struct{ was, c, want int64 }{
		{inf, 5, 5}, {inf, -5, -5}, {inf, 0, 0}, {inf, far, far}, {inf, -far, -far}, {inf, inf, inf},
		{3, 5, 3}, {5, 3, 3}, {4, 4, 4}, {3, inf, 3}, {3, -1, -1}, {-3, 3, -3}, {0, 0, 0}, {0, -1, -1}, {0, 1, 0},
		{far, far - 1, far - 1}, {far - 1, far, far - 1}, {far, -far, -far}, {-far, far, -far}, {-far, 1 - far, -far}, {1 - far, -far, -far},
		{inf, far + 1, inf}, {inf, inf - 1, inf}, {far, far + 1, far}, {far, inf - 1, far}, {7, far + 7, 7}, {-far, inf - 1, -far},
		{inf, -far - 1, -far}, {inf, least, -far}, {inf, least + 1, -far}, {far, least, -far}, {-far, least, -far}, {1 - far, -far - 5, -far}, {0, -inf, -far},
	} {
		for _, n := range []int{1, 2, 3} {
			for i := range 2 * n {
				for j := range 2 * n {
					if i == j {
						continue
					}
					o, want := full(n), full(n)
					for _, k := range []int{2*n*i + j, 2*n*over(j) + over(i)} {
						o.M[k], want.M[k] = r.was, r.want
					}
					if got, e := With(o, i, j, r.c); told(got) != told(want) || e != api.OK {
						t.Errorf("P12.2: (%d, %d) %d with %d: %s, %d; want %s", i, j, r.was, r.c, told(got), e, told(want))
					}
				}
			}
		}
	}
}

func TestWithOfOneSideP122(t *testing.T) {
	for _, n := range []int{1, 2, 3} {
		for i := range 2 * n {
			for _, c := range []int64{0, 1, 7, far, far + 1, inf, inf - 1, -1, -7, -far, -far - 1, -inf, least} {
				want := full(n)
				if c < 0 {
					want = api.Oct{N: n, Empty: true}
				}
				if got, e := With(full(n), i, i, c); told(got) != told(want) || e != api.OK {
					t.Errorf("P12.2: (%d, %d) with %d: %s, %d", i, i, c, told(got), e)
				}
			}
		}
	}
}

func TestWithOfNoCellP122(t *testing.T) {
	for n := range 4 {
		for _, o := range []api.Oct{full(n), open(n), {N: n, Empty: true}} {
			for _, i := range []int{least, -4294967296, -2, -1, 2 * n, 2*n + 1, 128, 4294967296, most} {
				for _, at := range [][2]int{{i, 0}, {0, i}, {i, i}, {i, 2*n - 1}, {2*n - 1, i}, {i, -i}, {i, over(i)}} {
					for _, c := range []int64{0, -1, 3, inf} {
						if got, e := With(o, at[0], at[1], c); told(got) != told(api.Oct{}) || e != api.ErrDbmPlace {
							t.Errorf("P12.2: %v of %d variables: %s, %d", at, n, told(got), e)
						}
						if got, e := Get(o, at[0], at[1]); got != 0 || e != api.ErrDbmPlace {
							t.Errorf("P12.2: %v of %d variables: %d, %d", at, n, got, e)
						}
					}
				}
			}
		}
	}
}

func TestWithOfEmptyP122(t *testing.T) {
	for _, n := range []int{1, 2, 64} {
		o := api.Oct{N: n, Empty: true}
		for _, at := range [][2]int{{0, 1}, {0, 0}, {1, 0}, {2*n - 1, 2*n - 1}, {2*n - 1, 0}} {
			for _, c := range []int64{-1, 0, 5, inf, least} {
				if got, e := With(o, at[0], at[1], c); told(got) != told(o) || e != api.OK {
					t.Errorf("P12.2: %v of an Empty one: %s, %d", at, told(got), e)
				}
			}
		}
	}
}

func TestPointsOfOneP123(t *testing.T) {
	const half = far / 2
	for _, r := range []struct{ x, up, down int64 }{
		{0, 0, 0}, {1, 2, -2}, {-1, -2, 2}, {7, 14, -14}, {-1000, -2000, 2000},
		{half, far, -far}, {half - 1, far - 2, 2 - far}, {half + 1, inf, -far}, {-half, -far, far}, {1 - half, 2 - far, far - 2}, {-half - 1, -far, inf},
		{far, inf, -far}, {-far, -far, inf}, {most, inf, -far}, {most - 1, inf, -far}, {least, -far, inf}, {least + 1, -far, inf}, {far - 1, inf, -far}, {far + 1, inf, -far},
	} {
		want := cells1(0, r.up, r.down, 0)
		got, e := Points(1, [][]int64{{r.x}})
		if told(got) != told(want) || e != api.OK {
			t.Errorf("P12.3: of %d: %s, %d; want %s", r.x, told(got), e, told(want))
		}
		if !Has(got, []int64{r.x}) {
			t.Errorf("P12.3: %s hasn't %d", told(got), r.x)
		}
	}
}

// TestPointsOfTwo: x - y, y - x, x + y and -x - y; what x and y are alone stands in TestPointsOfOne.
func TestPointsOfTwoP123(t *testing.T) {
	for _, r := range []struct{ x, y, less, more, sum, back int64 }{
		{0, 0, 0, 0, 0, 0}, {5, 3, 2, -2, 8, -8}, {-5, 3, -8, 8, -2, 2}, {-5, -3, -2, 2, -8, 8},
		{most, most - 1, 1, -1, inf, -far}, {most, most, 0, 0, inf, -far}, {least, least, 0, 0, -far, inf}, {least + 1, least, 1, -1, -far, inf},
		{least, most, -far, inf, -1, 1}, {most, least, inf, -far, -1, 1}, {most, least + 1, inf, -far, 0, 0}, {most, -most + 5, inf, -far, 5, -5},
		{far, 0, far, -far, far, -far}, {far, 1, far - 1, 1 - far, inf, -far}, {far, -1, inf, -far, far - 1, 1 - far}, {0, far, -far, far, far, -far}, {0, far + 1, -far, inf, inf, -far}, {far + 1, 0, inf, -far, inf, -far},
		{-far, 0, -far, far, -far, far}, {-far - 1, 0, -far, inf, -far, inf}, {-far, -1, 1 - far, far - 1, -far, inf}, {-far, 1, -far, inf, 1 - far, far - 1},
		{least, 0, -far, inf, -far, inf}, {0, least, inf, -far, -far, inf}, {least, 1, -far, inf, -far, inf}, {least, -1, -far, inf, -far, inf}, {least, -far, -far, far, -far, inf}, {least, far, -far, inf, -far, far}, {least, far - 1, -far, inf, -far, inf}, {least, far + 1, -far, inf, 1 - far, far - 1},
		{most, far, far - 1, 1 - far, inf, -far}, {most, far - 1, far, -far, inf, -far}, {most, far - 2, inf, -far, inf, -far}, {most, -far, inf, -far, far - 1, 1 - far}, {most, 1 - far, inf, -far, far, -far}, {most, 2 - far, inf, -far, inf, -far},
	} {
		o, e := Points(2, [][]int64{{r.x, r.y}})
		if e != api.OK || len(o.M) != 16 {
			t.Fatalf("P12.3: of %d, %d: %s, %d", r.x, r.y, told(o), e)
		}
		got := []int64{o.M[4*0+2], o.M[4*2+0], o.M[4*0+3], o.M[4*1+2]}
		across := []int64{o.M[4*3+1], o.M[4*1+3], o.M[4*2+1], o.M[4*3+0]}
		if want := []int64{r.less, r.more, r.sum, r.back}; !slices.Equal(got, want) || !slices.Equal(across, want) {
			t.Errorf("P12.3: of %d, %d: %v, %v; want %v", r.x, r.y, got, across, want)
		}
		if !Has(o, []int64{r.x, r.y}) {
			t.Errorf("P12.3: %s hasn't %d, %d", told(o), r.x, r.y)
		}
	}
}

// TestPointsTogether: of several the greatest difference of each cell, wherever the point stands that has it.
func TestPointsTogetherP123(t *testing.T) {
	for _, r := range []struct {
		l    [][]int64
		want string
	}{
		{[][]int64{{3}, {5}}, "1: 0,1<=10 1,0<=-6"}, {[][]int64{{5}, {3}}, "1: 0,1<=10 1,0<=-6"}, {[][]int64{{5}, {4}, {-3}, {5}}, "1: 0,1<=10 1,0<=6"},
		{[][]int64{{least}, {most}}, "1:"}, {[][]int64{{most}, {0}}, "1: 1,0<=0"}, {[][]int64{{least}, {0}, {-3}}, "1: 0,1<=0"}, {[][]int64{{least}, {least}}, "1: 0,1<=-FAR"}, {[][]int64{{most}, {most}}, "1: 1,0<=-FAR"},
		{[][]int64{{0, 0}, {1, 0}, {0, 1}}, "2: 0,1<=2 1,0<=0 2,3<=2 3,2<=0 0,2<=1 2,0<=1 0,3<=1 3,0<=0"},
		{[][]int64{{1, 10}, {2, 20}}, "2: 0,1<=4 1,0<=-2 2,3<=40 3,2<=-20 0,2<=-9 2,0<=18 0,3<=22 3,0<=-11"},
		{[][]int64{{most, least}, {least, most}}, "2: 0,3<=-1 3,0<=1"}, {[][]int64{{most, most}, {least, least}}, "2: 0,2<=0 2,0<=0"}, {[][]int64{{most, most}, {most, most}}, "2: 0,2<=0 2,0<=0 1,0<=-FAR 3,2<=-FAR 3,0<=-FAR"},
		{[][]int64{nil}, "0:"}, {[][]int64{{}, nil, {}}, "0:"}, {nil, "0 empty"}, {nil, "3 empty"}, {[][]int64{}, "64 empty"},
		{[][]int64{{1, 2, 3}}, "3: 0,1<=2 1,0<=-2 2,3<=4 3,2<=-4 4,5<=6 5,4<=-6 0,2<=-1 2,0<=1 0,3<=3 3,0<=-3 0,4<=-2 4,0<=2 0,5<=4 5,0<=-4 2,4<=-1 4,2<=1 2,5<=5 5,2<=-5"},
	} {
		want := oct(t, r.want)
		got, e := Points(want.N, r.l)
		if told(got) != told(want) || e != api.OK {
			t.Errorf("P12.3: of %v: %s, %d; want %s", r.l, told(got), e, r.want)
		}
	}
}

func TestPointsOfOtherSizesP123(t *testing.T) {
	for _, r := range []struct {
		n int
		l [][]int64
	}{
		{2, [][]int64{{1}}}, {2, [][]int64{{1, 2, 3}}}, {2, [][]int64{{1, 2}, {1}}}, {2, [][]int64{{1}, {1, 2}}}, {2, [][]int64{{1, 2}, nil, {1, 2}}}, {0, [][]int64{{1}}}, {1, [][]int64{nil}}, {1, [][]int64{{}}}, {0, [][]int64{nil, {1}}},
		{64, [][]int64{make([]int64, 63)}}, {64, [][]int64{make([]int64, 65)}}, {65, [][]int64{make([]int64, 65)}}, {65, nil}, {-1, nil}, {-1, [][]int64{nil}}, {-1, [][]int64{{1}}}, {least, nil}, {most, nil}, {most, [][]int64{{1}}}, {65, [][]int64{{}}},
	} {
		if o, e := Points(r.n, r.l); told(o) != told(api.Oct{}) || e != api.ErrDbmSize {
			t.Errorf("P12.3: of %d variables and %v: %s, %d", r.n, r.l, told(o), e)
		}
	}
}

// TestHas: rows of an octagon, points that it has, and points that it hasn't.
func TestHasP123(t *testing.T) {
	for _, r := range []struct {
		o        string
		has, not [][]int64
	}{
		{"0:", [][]int64{nil, {}}, [][]int64{{0}, {1, 2}}}, {"0 empty", nil, [][]int64{nil, {}, {0}}}, {"1 empty", nil, [][]int64{{0}, nil, {least}}}, {"2 empty", nil, [][]int64{{0, 0}, nil}},
		{"1:", [][]int64{{0}, {least}, {most}}, [][]int64{nil, {}, {1, 2}, {0, 0}}}, {"2:", [][]int64{{0, 0}, {least, most}, {most, most}, {least, least}}, [][]int64{nil, {0}, {1, 2, 3}}},
		{"1: 0,1<=7", [][]int64{{3}, {0}, {-9}, {least}}, [][]int64{{4}, {most}, {far}}}, {"1: 1,0<=7", [][]int64{{-3}, {0}, {most}}, [][]int64{{-4}, {least}}},
		{"1: 0,1<=FAR", [][]int64{{far / 2}, {least}}, [][]int64{{far/2 + 1}, {far}, {most}}}, {"1: 1,0<=FAR", [][]int64{{-far / 2}, {most}}, [][]int64{{-far/2 - 1}, {-far}, {least}}},
		{"1: 0,1<=-FAR", [][]int64{{-far / 2}, {-far}, {least}}, [][]int64{{1 - far/2}, {0}, {most}}}, {"1: 1,0<=-FAR", [][]int64{{far / 2}, {far}, {most}}, [][]int64{{far/2 - 1}, {0}, {least}}},
		{"1: 0,1<=6 1,0<=-6", [][]int64{{3}}, [][]int64{{2}, {4}, {-3}}}, {"1: 0,1<=4 1,0<=-6", nil, [][]int64{{2}, {3}, {0}}},
		{"2: 0,2<=1", [][]int64{{5, 4}, {5, 5}, {most, most - 1}, {least, most}, {least + 1, least}}, [][]int64{{6, 4}, {most, least}, {most, most - 2}, {least + 2, least}, {0, least}}},
		{"2: 0,3<=-1", [][]int64{{least, most}, {most, least}, {-1, 0}, {least, least}}, [][]int64{{0, 0}, {most, least + 1}, {most, most}}},
		{"2: 1,2<=1", [][]int64{{least, most}, {most, most}, {0, -1}}, [][]int64{{least, most - 1}, {least, least}, {0, -2}}},
		{"2: 0,2<=-FAR", [][]int64{{least, most}, {0, far}, {least, 0}, {least, -far}}, [][]int64{{1, far}, {0, 0}, {most, least}, {least, -far - 1}}},
		{"2: 0,2<=FAR", [][]int64{{far, 0}, {0, -far}, {least, most}, {most, far - 1}}, [][]int64{{far + 1, 0}, {most, least}, {0, least}, {most, far - 2}}},
		{"2: 3,2<=-10 0,1<=20", [][]int64{{10, 5}, {-4, 9}}, [][]int64{{11, 5}, {10, 4}, {11, 4}}},
		{"3: 4,5<=2", [][]int64{{9, 9, 1}}, [][]int64{{0, 0, 2}}}, {"3: 0,5<=2", [][]int64{{1, 9, 1}}, [][]int64{{1, 9, 2}, {2, 9, 1}}}, {"3: 5,0<=2", [][]int64{{-1, 9, -1}}, [][]int64{{-2, 9, -1}}},
	} {
		o := oct(t, r.o)
		for _, x := range r.has {
			if !Has(o, x) {
				t.Errorf("P12.3: %q hasn't %v", r.o, x)
			}
		}
		for _, x := range r.not {
			if Has(o, x) {
				t.Errorf("P12.3: %q has %v", r.o, x)
			}
		}
	}
}

func TestEqualP124(t *testing.T) {
	list := []string{"0:", "0 empty", "1:", "1 empty", "2:", "2 empty", "64 empty", "1: 0,1<=3", "1: 0,1<=4", "1: 1,0<=3", "1: 0,1<=3 1,0<=3", "1: 0,1<=FAR", "1: 0,1<=-FAR", "2: 0,2<=3", "2: 2,0<=3", "2: 0,3<=3", "2: 3,0<=3", "2: 2,3<=3", "3: 0,2<=3", "1: 0,1<=-1 1,0<=-1", "2: 0,1<=-1 1,0<=-1"}
	for i, a := range list {
		for j, b := range list {
			if Equal(oct(t, a), oct(t, b)) != (i == j) {
				t.Errorf("P12.4: whether %q is %q: %v", a, b, i != j)
			}
		}
	}
	for _, o := range []api.Oct{{N: -1}, {N: 65, Empty: true}, {N: 1}, {N: 1, Empty: true, M: open(1).M}, cells1(0, far+1, 1, 0), cells1(1, 2, 3, 1), {N: 65, M: open(65).M}} {
		for _, p := range []api.Oct{o, open(1), {N: 1, Empty: true}, {}} {
			if Equal(o, p) || Equal(p, o) {
				t.Errorf("P12.4: %s, which may not be, is %s", told(o), told(p))
			}
		}
	}
}

func TestCellsP124(t *testing.T) {
	for _, r := range []struct{ o, want string }{
		{"0:", "[]"}, {"1:", "[]"}, {"64:", "[]"}, {"0 empty", "[]"}, {"1 empty", "[]"}, {"64 empty", "[]"},
		{"1: 0,1<=3", "[{[0 1] 3}]"}, {"1: 1,0<=-3", "[{[1 0] -3}]"}, {"1: 1,0<=-3 0,1<=0", "[{[0 1] 0} {[1 0] -3}]"}, {"1: 0,1<=FAR", "[{[0 1] 4611686018427387904}]"}, {"1: 1,0<=-FAR", "[{[1 0] -4611686018427387904}]"},
		{"2: 3,1<=1", "[{[0 2] 1}]"}, {"2: 0,2<=1", "[{[0 2] 1}]"}, {"2: 2,1<=1", "[{[0 3] 1}]"}, {"2: 3,0<=4 1,0<=-2", "[{[1 0] -2} {[1 2] 4}]"}, {"2: 2,0<=7", "[{[1 3] 7}]"}, {"2: 3,2<=1 2,3<=2", "[{[2 3] 2} {[3 2] 1}]"},
		{"2: 0,1<=1 0,2<=2 0,3<=3 1,0<=4 1,2<=5 1,3<=6 2,3<=7 3,2<=8", "[{[0 1] 1} {[0 2] 2} {[0 3] 3} {[1 0] 4} {[1 2] 5} {[1 3] 6} {[2 3] 7} {[3 2] 8}]"},
		{"3: 5,1<=1 3,1<=2 5,3<=3 4,3<=4 4,2<=5 5,2<=6", "[{[0 2] 2} {[0 4] 1} {[2 4] 3} {[2 5] 4} {[3 4] 6} {[3 5] 5}]"},
	} {
		got := gathered(oct(t, r.o))
		if fmt.Sprint(got) != r.want {
			t.Errorf("P12.4: %q: %v; want %s", r.o, got, r.want)
		}
	}
}

// TestErrorsOfCheckComeFirst: of all calls, with places that are none, too; beside them stands nothing.
func TestErrorsOfCheckComeFirstP121(t *testing.T) {
	for _, r := range []struct {
		o    api.Oct
		want api.Errno
	}{
		{api.Oct{N: -1}, api.ErrDbmSize}, {api.Oct{N: 65}, api.ErrDbmSize}, {api.Oct{N: 65, Empty: true}, api.ErrDbmSize}, {api.Oct{N: -1, Empty: true}, api.ErrDbmSize}, {api.Oct{N: 65, M: open(65).M}, api.ErrDbmSize}, {api.Oct{N: 1}, api.ErrDbmSize}, {api.Oct{N: 1, Empty: true, M: open(1).M}, api.ErrDbmSize}, {cells1(0, 1, 2), api.ErrDbmSize}, {api.Oct{N: most}, api.ErrDbmSize}, {api.Oct{N: least, M: open(1).M}, api.ErrDbmSize},
		{cells1(0, least, 2, 0), api.ErrDbmForm}, {cells1(1, 2, 2, 1), api.ErrDbmForm}, {api.Oct{N: 2, M: append([]int64{0, 1, 2}, open(2).M[3:]...)}, api.ErrDbmForm}, {cells1(0, 1, 2, -1), api.ErrDbmForm},
	} {
		for _, at := range [][2]int{{0, 1}, {0, 0}, {1, 0}, {-1, 0}, {0, 200}, {most, least}} {
			for _, c := range []int64{-1, 0, 5} {
				if o, e := With(r.o, at[0], at[1], c); told(o) != told(api.Oct{}) || e != r.want {
					t.Errorf("P12.1: With of %s: %s, %d", told(r.o), told(o), e)
				}
			}
			if c, e := Get(r.o, at[0], at[1]); c != 0 || e != r.want {
				t.Errorf("P12.1: Get of %s: %d, %d", told(r.o), c, e)
			}
		}
		for n := range 4 {
			if Has(r.o, make([]int64, n)) {
				t.Errorf("P12.3: %s has a point", told(r.o))
			}
		}
		if all := gathered(r.o); len(all) > 0 {
			t.Errorf("P12.4: %s gives cells: %v", told(r.o), all)
		}
	}
}
