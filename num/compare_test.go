package num

import (
	"math/big"
	"testing"

	"gnomon/api"
)

// compared: what Cmp tells of each op, from OpLt to OpGe.
func compared(a, b int64) [6]bool {
	var all [6]bool
	for op := api.OpLt; op <= api.OpGe; op++ {
		all[op-api.OpLt] = Cmp(op, a, b)
	}
	return all
}

func TestEachOpP72(t *testing.T) {
	// Of OpLt, OpLe, OpEq, OpNe, OpGt, OpGe.
	less := [6]bool{true, true, false, true, false, false}
	equal := [6]bool{false, true, true, false, false, true}
	greater := [6]bool{false, false, false, true, true, true}
	for _, r := range []struct {
		a, b int64
		want [6]bool
	}{
		{1, 2, less}, {2, 2, equal}, {3, 2, greater},
		{-2, -1, less}, {-2, -2, equal}, {-2, -3, greater},
		{-1, 0, less}, {0, 0, equal}, {1, 0, greater}, {-1, 1, less}, {1, -1, greater}, {0, 1, less}, {0, -1, greater},
		{least, most, less}, {most, least, greater}, {least, least, equal}, {most, most, equal},
		{least, least + 1, less}, {most, most - 1, greater}, {most - 1, most, less}, {least + 1, least, greater},
		{least, 0, less}, {0, least, greater}, {most, 0, greater}, {0, most, less}, {least, 1, less}, {most, -1, greater},
		{1<<53 + 1, 1 << 53, greater}, {1 << 62, 1<<62 + 1, less}, {1 << 32, 0, greater}, {-1 << 32, 0, less}, {1, 1<<32 + 1, less},
	} {
		if got := compared(r.a, r.b); got != r.want {
			t.Errorf("P7.2: %d and %d: %v, want %v", r.a, r.b, got, r.want)
		}
	}
}

func TestCmpAgainstWholeNumbersP72(t *testing.T) {
	for a, b := range pairs {
		c := big.NewInt(a).Cmp(big.NewInt(b))
		if got, want := compared(a, b), [6]bool{c < 0, c <= 0, c == 0, c != 0, c > 0, c >= 0}; got != want {
			t.Fatalf("P7.2: %d and %d: %v, want %v", a, b, got, want)
		}
	}
}

func TestNoOpsP72(t *testing.T) {
	for _, op := range ops() {
		if isOp(op) {
			continue
		}
		for _, a := range ends() {
			for _, b := range ends() {
				if Cmp(op, a, b) {
					t.Errorf("P7.2: Cmp(%d, %d, %d): true, though that is no op", op, a, b)
				}
			}
		}
		if got := Not(op); got != 0 {
			t.Errorf("P7.2: Not(%d): %d, though that is no op", op, got)
		}
	}
	for op := -5000; op <= 5000; op++ {
		if !isOp(op) && (Cmp(op, 1, 2) || Cmp(op, 2, 2) || Cmp(op, 3, 2) || Not(op) != 0) {
			t.Errorf("P7.2: %d is told of as if it were an op", op)
		}
	}
}

func TestNotP72(t *testing.T) {
	for _, r := range [][2]int{
		{api.OpLt, api.OpGe}, {api.OpLe, api.OpGt}, {api.OpEq, api.OpNe},
		{api.OpNe, api.OpEq}, {api.OpGt, api.OpLe}, {api.OpGe, api.OpLt},
		{0, 0}, {-1, 0}, {api.OpGe + 1, 0}, {least, 0}, {most, 0},
	} {
		if got := Not(r[0]); got != r[1] {
			t.Errorf("P7.2: Not(%d): %d, want %d", r[0], got, r[1])
		}
	}
}
