package tree

import "scriptorium/api"

// statWriters returns the functions that write statements, by their kinds.
func statWriters() map[int]func(*writer, api.Stat) {
	return map[int]func(*writer, api.Stat){
		api.StatLocal:  writeLocal,
		api.StatFunc:   writeLocalFunction,
		api.StatSet:    writeSet,
		api.StatCall:   writeCallAlone,
		api.StatIf:     writeIf,
		api.StatWhile:  writeWhile,
		api.StatFor:    writeFor,
		api.StatEach:   writeEach,
		api.StatRepeat: writeRepeat,
		api.StatBreak:  writeBreak,
		api.StatReturn: writeReturn,
		api.StatDo:     writeDo,
	}
}

func writeLocal(w *writer, s api.Stat) {
	w.add("local ", at(s.Names, 0))
	if len(s.L) > 0 {
		w.add(" = ")
		w.exp(s.L[0])
	}
}

func writeLocalFunction(w *writer, s api.Stat) {
	w.add("local function ", at(s.Names, 0))
	w.body(at(s.L, 0))
}

func writeSet(w *writer, s api.Stat) {
	w.exp(at(s.L, 0))
	w.add(" = ")
	w.exp(at(s.L, 1))
}

func writeCallAlone(w *writer, s api.Stat) {
	w.exp(at(s.L, 0))
}

func writeIf(w *writer, s api.Stat) {
	word := "if "
	for i, condition := range s.L {
		w.add(word)
		w.exp(condition)
		w.add(" then\n")
		w.block(at(s.Blocks, i))
		word = "elseif "
	}
	if len(s.Blocks) > len(s.L) {
		w.add("else\n")
		w.block(s.Blocks[len(s.L)])
	}
	w.add("end")
}

func writeWhile(w *writer, s api.Stat) {
	w.add("while ")
	w.exp(at(s.L, 0))
	w.loop(s)
}

func writeFor(w *writer, s api.Stat) {
	w.add("for ", at(s.Names, 0), " = ")
	w.list(s.L)
	w.loop(s)
}

func writeEach(w *writer, s api.Stat) {
	w.add("for ", at(s.Names, 0), ", ", at(s.Names, 1), " in ")
	w.exp(at(s.L, 0))
	w.loop(s)
}

// loop writes the block of a loop behind what it goes by.
func (w *writer) loop(s api.Stat) {
	w.add(" ")
	writeDo(w, s)
}

func writeRepeat(w *writer, s api.Stat) {
	w.add("repeat\n")
	w.block(at(s.Blocks, 0))
	w.add("until ")
	w.exp(at(s.L, 0))
}

func writeBreak(w *writer, s api.Stat) {
	w.add("break")
}

func writeReturn(w *writer, s api.Stat) {
	w.add("return")
	if len(s.L) > 0 {
		w.add(" ")
		w.exp(s.L[0])
	}
}

func writeDo(w *writer, s api.Stat) {
	w.add("do\n")
	w.block(at(s.Blocks, 0))
	w.add("end")
}
