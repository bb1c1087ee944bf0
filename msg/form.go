package msg

import (
	"buttery/api"
	"buttery/bin"
	"buttery/txn"
)

// form is the bytes of m, which is formed. So are all parts of it, and each has a form: there are no errors here and below. Each is put by itself, since the layers below copy what stands ahead.
func form(m api.Msg) []byte {
	b := putNums(nil, m.Kind, m.Ticket, flag(m.Whole))
	for _, v := range []api.Vec{m.Vec, m.From} {
		b = putNums(b, len(v))
		b = putNums(b, v...)
	}
	for _, z := range [][]string{m.Zone, m.Want} {
		b = putNums(b, len(z))
		b = putTexts(b, z...)
	}
	b = putNums(b, len(m.Items))
	for _, x := range m.Items {
		b = putItem(b, x)
	}
	b = putNums(b, len(m.Txns))
	for _, t := range m.Txns {
		transaction, _ := txn.Put(nil, t)
		b = append(b, transaction...)
	}
	return b
}

// flag is the number that stands for yes or no.
func flag(yes bool) int {
	if yes {
		return 1
	}
	return 0
}

func putItem(b []byte, x api.Item) []byte {
	b = putTexts(b, x.Key, x.Field)
	b = putNums(b, x.Kind)
	b = putTexts(b, x.Elem)
	b = append(b, bin.PutInt(nil, x.N)...)
	return putNums(b, x.Dot.Node, x.Dot.Seq, x.Dot.At)
}

func putNums(b []byte, l ...int) []byte {
	for _, n := range l {
		number, _ := bin.PutNum(nil, n)
		b = append(b, number...)
	}
	return b
}

func putTexts(b []byte, l ...string) []byte {
	for _, s := range l {
		text, _ := bin.PutText(nil, s)
		b = append(b, text...)
	}
	return b
}
