package field

import (
	"math"

	"retrofit/api"
)

// The kinds' numbers go from the first one to the last one.
const (
	firstKind = api.Bool
	lastKind  = api.Ref
)

// shape is all by which kinds differ. No kind's least number is above 0, nor
// its greatest one below: their sizes, below and above, tell them.
type shape struct {
	name         string
	bytes        int
	below, above uint64
}

// shapeOf is empty where there is no such kind.
func shapeOf(k api.Kind) shape {
	switch k {
	case api.Bool:
		return shape{"bool", 1, 0, 1}
	case api.I8:
		return shape{"i8", 1, -math.MinInt8, math.MaxInt8}
	case api.I16:
		return shape{"i16", 2, -math.MinInt16, math.MaxInt16}
	case api.I32:
		return shape{"i32", 4, -math.MinInt32, math.MaxInt32}
	case api.I64:
		return shape{"i64", 8, -math.MinInt64, math.MaxInt64}
	case api.U8:
		return shape{"u8", 1, 0, math.MaxUint8}
	case api.U16:
		return shape{"u16", 2, 0, math.MaxUint16}
	case api.U32:
		return shape{"u32", 4, 0, math.MaxUint32}
	case api.U64:
		return shape{"u64", 8, 0, math.MaxUint64}
	case api.Ref:
		return shape{"ref", 8, 0, math.MaxUint64}
	}
	return shape{}
}

func isKind(k api.Kind) bool { return firstKind <= k && k <= lastKind }
