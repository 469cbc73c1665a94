package assign_test

// all is what is declared for the tables.
const all = `
	type I int
	type I2 int
	type J I
	type B uint8
	type F float64
	type T string
	type Yes bool
	type L []int
	type L2 []int
	type Bs []uint8
	type BsB []B
	type BsBs []Bs
	type Ts T
	type M map[string]int
	type Fn func(int) string
	type Ptr *int
	type PtrI *I
	type A [3]int
	type S struct{a int}
	type S2 struct{a int}
	type SI struct{a I}
	type Any any
	type Face interface{M()}
	type Face2 interface{M()}
	type More interface{M(); N(int)}
	type Both interface{Face; N(int)}
	type Num interface{~int | ~float64}
	type Cmp interface{comparable}
	type NumM interface{Num; M()}

	type Val int
	func (v Val) M() {}
	type Po []int
	func (p *Po) M() {}
	type Em struct{Val}
	type EmBy struct{Po}
	type EmPtr struct{*Po}
	type Wrong int
	func (w Wrong) M() int {}
	type Has struct{M func()}
	type Rich struct{Val; x int}
	func (r Rich) N(a int) {}
	type VL []int
	func (v VL) M() {}

	type Pair[P any, Q any] struct{p P; q Q}
	type List[P any] []P
	type Other[P any] []P
	type Fixed[P any] []int
	type Boxed[P any] struct{p P}
	func (b Boxed[P]) M() {}
	type Use[P any] interface{Use(P)}
	type User[P any] struct{p []P}
	func (u User[P]) Use(p P) {}

	func further[
		N interface{~int | ~float64},
		N2 interface{~int | ~float64},
		Ints interface{int | int8 | uint8 | uint},
		Nums interface{int | int8 | uint8 | uint | float32 | float64},
		NT interface{int | string},
		Texts interface{~string},
		Yeses interface{bool | Yes},
		Bytes interface{string | []uint8},
		AllB interface{[]uint8 | Bs | BsB},
		Is interface{I | I2},
		Empty interface{int; string},
		Every any,
		EveryM Face,
		Cmps comparable,
		One interface{[]int},
		OneT interface{~[]int},
		OneL interface{L},
		Ls interface{L | []int},
		Ls2 interface{L | L2},
		Lss interface{[]int | []string},
		Ps interface{*int | Ptr},
		Fns interface{~func(int) string},
		Ms interface{map[string]int | M},
		Ss interface{S | struct{a int}},
		As interface{[3]int | A},
		FaceOf interface{Val | Rich},
		IntM interface{~int; M()},
		Mixed interface{int | []int},
		Of interface{[]N},
		Chan interface{List[int] | []int}]() {}`
