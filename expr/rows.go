package expr

import (
	"retrofit/api"
	"retrofit/wide"
)

// most is what an A or a B may be at most.
const most = 7

// row is what the document's table says of an instruction.
type row struct {
	word  string // none, if it is shown without brackets
	takes int
	names operands
	do    deed
}

// operands are which of A, B and K a row names.
type operands struct {
	a, b, k bool
}

// deed makes what an instruction puts out of what it takes, in order.
type deed func(i Ins, env Env, taken []api.Int) (api.Int, api.Errno)

// rowsOf has each instruction's row, if all of them are well formed.
func rowsOf(code []Ins) ([]row, api.Errno) {
	if len(code) > api.MaxExpr {
		return nil, api.ErrFull
	}
	rows, depth := make([]row, len(code)), 0
	for at, i := range code {
		r := rowOf(i.Op)
		if r.do == nil || !bounded(i) || depth < r.takes {
			return nil, api.ErrForm
		}
		rows[at] = r
		depth += 1 - r.takes
		if depth > api.MaxStack {
			return nil, api.ErrForm
		}
	}
	if depth != 1 {
		return nil, api.ErrForm
	}
	return rows, api.OK
}

// rowOf has no deed, if there is no such instruction.
func rowOf(op int) row {
	switch op {
	case Num:
		return row{names: operands{k: true}, do: number}
	case Elem:
		return row{names: operands{a: true, b: true}, do: element}
	case Here:
		return row{names: operands{a: true}, do: here}
	case Place:
		return row{do: place}
	case Add:
		return row{word: "add", takes: 2, do: ofTwo(wide.Add)}
	case Sub:
		return row{word: "sub", takes: 2, do: ofTwo(wide.Sub)}
	case Mul:
		return row{word: "mul", takes: 2, do: ofTwo(wide.Mul)}
	case Quo:
		return row{word: "quo", takes: 2, do: ofTwo(wide.Quo)}
	case Rem:
		return row{word: "rem", takes: 2, do: ofTwo(wide.Rem)}
	case Neg:
		return row{word: "neg", takes: 1, do: ofOne(withZero(wide.Sub))}
	case Least:
		return row{word: "least", takes: 2, do: ofTwo(chosen(less))}
	case Great:
		return row{word: "great", takes: 2, do: ofTwo(chosen(swapped(less)))}
	case Same:
		return row{word: "same", takes: 2, do: ofTwo(same)}
	case Less:
		return row{word: "less", takes: 2, do: ofTwo(less)}
	case Not:
		return row{word: "not", takes: 1, do: ofOne(withZero(same))}
	case Pick:
		return row{word: "pick", takes: 3, do: ofThree(pick)}
	case Need:
		return row{word: "need", takes: 2, do: ofTwo(need)}
	}
	return row{}
}

// bounded asks all three of each instruction, those too that its row doesn't
// name.
func bounded(i Ins) bool { return small(i.A) && small(i.B) && wide.Form(i.K) }

func small(n int) bool { return n >= 0 && n <= most }
