// Package instr is what scripts are compiled to: instructions over registers, and the
// functions that consist of them.
//
// Each run of a function has registers of its own. A register holds a value of the script,
// or a place, which is where the value of a name is kept that several functions share, or,
// within a loop over a table, the keys that are still to be visited. A function takes such
// places from the function around it when it is made, and keeps them.
package instr

// Instructions. A, B and C are registers, unless it is said otherwise. Steps are counted by
// Step alone, at the places where chapter 21 lets them begin; those with nothing between
// them are counted by one Step. What an instruction throws, and the cells that it costs,
// are those of the expression or statement that it is for.
const (
	Step       = 1 + iota // A (a number) steps begin, one after another
	Const                 // A = the constant B
	Move                  // A = B
	Share                 // A = a new place that keeps A
	Fetch                 // A = what the place B keeps
	Store                 // the place A keeps B
	FetchTaken            // A = what the place B, which was taken, keeps
	StoreTaken            // the place A, which was taken, keeps B
	MakeFunc              // A = a new function, by the function B of the script
	MakeTable             // A = a new table
	Index                 // A = the value of the key C of the table B
	SetIndex              // the key B of the table A has the value C
	Call                  // A = what A returns for the B (a number) arguments behind it
	Not                   // A = not B
	Minus                 // A = -B
	Len                   // A = #B
	Add                   // A = B + C; this one and the next ones in the order of api's operators
	Sub
	Mul
	Div
	Mod
	Join
	Same
	Other
	Less
	Most
	More
	Least
	Jump     // goes to the instruction B
	JumpIf   // goes to the instruction B if A is true
	JumpElse // goes to the instruction B if A is not true
	Count    // A is to count to A+1 in steps of A+2: A+3 = A, or goes to the instruction B if there is no turn
	Again    // A = A plus A+2: A+3 = A, and goes to the instruction B, if there is one more turn
	Visit    // A = the keys of the table A, which are to be visited
	Next     // A+1 and A+2 are the next key of A that is still there and its value, or goes to the instruction B
	Return   // the function ends, and returns A
)

// Instruction is one.
type Instruction struct{ Op, A, B, C int }

// Constant is nil, a boolean, an integer or a string, by Kind (a cell kind of api) as in
// api.Plain, or the built-in function that is called S.
type Constant struct {
	Kind int
	N    int64
	S    string
}

// Taken is a place that a function takes from the function around it.
type Taken struct {
	IsAgain bool // the function around it has taken it, too
	At      int  // which register of the function around it, or which of the places that that one has taken
}

// Function is one of a script. When it is called, its first registers hold the arguments.
type Function struct {
	Within    int // the function around it
	Params    int
	Registers int
	Taken     []Taken
	Code      []Instruction
}

// What has to be of an operand.
const (
	Any       = iota // it is not used
	Number           // at least 1
	Arguments        // a number of registers behind A
	Register
	Register3 // also the two behind it
	Register4 // also the three behind it
	OfConst   // a constant
	OfFunc    // a function within this one
	OfTaken   // a place that this function has taken
	OfCode    // an instruction of this function
)

// Operands returns what has to be of A, B and C of an instruction, and whether there is
// such an instruction.
func Operands(op int) ([3]int, bool) {
	switch op {
	case Step:
		return [3]int{Number}, true
	case Const:
		return [3]int{Register, OfConst}, true
	case Move, Fetch, Store, Not, Minus, Len:
		return [3]int{Register, Register}, true
	case Share, MakeTable, Visit, Return:
		return [3]int{Register}, true
	case FetchTaken:
		return [3]int{Register, OfTaken}, true
	case StoreTaken:
		return [3]int{OfTaken, Register}, true
	case MakeFunc:
		return [3]int{Register, OfFunc}, true
	case Call:
		return [3]int{Register, Arguments}, true
	case Index, SetIndex, Add, Sub, Mul, Div, Mod, Join, Same, Other, Less, Most, More, Least:
		return [3]int{Register, Register, Register}, true
	case Jump:
		return [3]int{Any, OfCode}, true
	case JumpIf, JumpElse:
		return [3]int{Register, OfCode}, true
	case Count, Again:
		return [3]int{Register4, OfCode}, true
	case Next:
		return [3]int{Register3, OfCode}, true
	}
	return [3]int{}, false
}
