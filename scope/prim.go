package scope

import "eddywheel/api"

// primitive is a name of the language, and how many it is done to.
type primitive struct {
	name string
	many int
}

// A primitive's number is its place; none has the number 0.
var primitives = [api.PrLast]primitive{
	api.PrAdd:     {"+", 2},
	api.PrSub:     {"-", 2},
	api.PrMul:     {"*", 2},
	api.PrQuo:     {"quotient", 2},
	api.PrRem:     {"remainder", 2},
	api.PrLess:    {"<", 2},
	api.PrEqual:   {"=", 2},
	api.PrSame:    {"eq?", 2},
	api.PrNot:     {"not", 1},
	api.PrNull:    {"null?", 1},
	api.PrPair:    {"pair?", 1},
	api.PrCons:    {"cons", 2},
	api.PrCar:     {"car", 1},
	api.PrCdr:     {"cdr", 1},
	api.PrInt:     {"number?", 1},
	api.PrName:    {"symbol?", 1},
	api.PrFn:      {"procedure?", 1},
	api.PrCC:      {"call/cc", 1},
	api.HoOut:     {"out", 1},
	api.HoSpawn:   {"spawn", 1},
	api.HoMicro:   {"micro", 1},
	api.HoAfter:   {"after", 2},
	api.HoCancel:  {"cancel", 1},
	api.HoPromise: {"promise", 0},
	api.HoSettle:  {"settle", 2},
	api.HoThen:    {"then", 2},
	api.HoStream:  {"stream", 1},
	api.HoWrite:   {"write", 2},
	api.HoRead:    {"read", 1},
	api.HoTime:    {"time", 0},
}

// Prim is what is done by a name of the language, and to how many.
func Prim(s string) (op, many int, ok bool) {
	for i, p := range primitives {
		if i > 0 && p.name == s {
			return i, p.many, true
		}
	}
	return 0, 0, false
}

func isPrimitive(s string) bool {
	_, _, ok := Prim(s)
	return ok
}
