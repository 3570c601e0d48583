package model

import (
	"math"

	"almanac/api"
	"almanac/codec"
)

// Each kind of operation has a type of its own.
type (
	making     struct{}
	mapping    struct{ pid, at, n, prot int }
	unmapping  struct{ pid, at, n int }
	protecting struct{ pid, at, n, prot int }
	loading    struct{ pid, at, n int }
	storing    struct {
		pid, at int
		data    []byte
	}
	forking struct{ pid int }
	exiting struct{ pid int }
	listing struct{}
)

// kindOf tells an operation as its kind's, and an operation again with the fields alone that the kind has.
func kindOf(op api.Op) (any, api.Op) {
	has := api.Op{Kind: op.Kind, Pid: op.Pid}
	switch op.Kind {
	case api.OMake:
		return making{}, api.Op{Kind: op.Kind}
	case api.OMap:
		has.At, has.N, has.Prot = op.At, op.N, op.Prot
		return mapping{op.Pid, op.At, op.N, op.Prot}, has
	case api.OUnmap:
		has.At, has.N = op.At, op.N
		return unmapping{op.Pid, op.At, op.N}, has
	case api.OProtect:
		has.At, has.N, has.Prot = op.At, op.N, op.Prot
		return protecting{op.Pid, op.At, op.N, op.Prot}, has
	case api.OLoad:
		has.At, has.N = op.At, op.N
		return loading{op.Pid, op.At, op.N}, has
	case api.OStore:
		has.At, has.Data = op.At, op.Data
		return storing{op.Pid, op.At, op.Data}, has
	case api.OFork:
		return forking{op.Pid}, has
	case api.OExit:
		return exiting{op.Pid}, has
	case api.OList:
		return listing{}, api.Op{Kind: op.Kind}
	}
	return nil, api.Op{}
}

// Right, Changes tell of operations; Delta how much two differ; Encode, Decode are bytes.
func Right(op api.Op) bool {
	kind, has := kindOf(op)
	return kind != nil && op.Pid == has.Pid && op.At == has.At && op.N == has.N && op.Prot == has.Prot && len(op.Data) == len(has.Data)
}

func Changes(kind int) bool { return kind != api.OLoad && kind != api.OList }

func Encode(op api.Op) []byte {
	w := codec.NewWriter()
	for _, v := range []int{op.Kind, op.Pid, op.At, op.N, op.Prot} {
		w.Int(int64(v))
	}
	return w.Bytes(op.Data).Done()
}

func Decode(b []byte) (api.Op, api.Errno) {
	r := codec.NewReader(b)
	var op api.Op
	for _, v := range []*int{&op.Kind, &op.Pid, &op.At, &op.N, &op.Prot} {
		*v = r.Between(math.MinInt, math.MaxInt)
	}
	op.Data = r.Bytes(api.MaxValue)
	if r.End() != api.OK || !Right(op) {
		return api.Op{}, api.ErrForm
	}
	return op, api.OK
}
