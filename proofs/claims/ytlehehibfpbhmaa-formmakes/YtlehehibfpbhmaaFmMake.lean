/- Six forms are made, in whatever order: the region of FormMakes that calls the makers. -/
import Derived.Test.YtlehehibfpbhmaaHn
namespace Go.Proofs.Ytlehehibfpbhmaa
open Go.RowKit Fo
set_option linter.unusedSimpArgs false
def r4_4_0 : Oper := { dst := some 58, op := Op.indexAddr 28 (Operand.tmp 3) (Operand.const (Value.int IntKind.i64 0)), type := 0, pos := "law.go:62", after := #[], guard := none }
def r4_4_1 : Oper := { dst := some 59, op := Op.load 3 (Operand.tmp 58), type := 3, pos := "law.go:62", after := #[{ on := 0, ground := Ground.data }], guard := none }
def r4_4_2 : Oper := { dst := some 60, op := Op.call { callee := Callee.value (Operand.func 12), args := #[Operand.tmp 59], argTypes := #[3] }, type := 24, pos := "law.go:62", after := #[{ on := 1, ground := Ground.data }], guard := none }
def r4_4_3 : Oper := { dst := some 61, op := Op.indexAddr 28 (Operand.tmp 3) (Operand.const (Value.int IntKind.i64 0)), type := 0, pos := "law.go:62", after := #[], guard := none }
def r4_4_4 : Oper := { dst := some 62, op := Op.load 3 (Operand.tmp 61), type := 3, pos := "law.go:62", after := #[{ on := 3, ground := Ground.data }], guard := none }
def r4_4_5 : Oper := { dst := some 63, op := Op.indexAddr 28 (Operand.tmp 3) (Operand.const (Value.int IntKind.i64 1)), type := 0, pos := "law.go:62", after := #[], guard := none }
def r4_4_6 : Oper := { dst := some 64, op := Op.load 3 (Operand.tmp 63), type := 3, pos := "law.go:62", after := #[{ on := 5, ground := Ground.data }], guard := none }
def r4_4_7 : Oper := { dst := some 65, op := Op.indexAddr 28 (Operand.tmp 3) (Operand.const (Value.int IntKind.i64 2)), type := 0, pos := "law.go:62", after := #[], guard := none }
def r4_4_8 : Oper := { dst := some 66, op := Op.load 3 (Operand.tmp 65), type := 3, pos := "law.go:62", after := #[{ on := 7, ground := Ground.data }], guard := none }
def r4_4_9 : Oper := { dst := some 67, op := Op.call { callee := Callee.value (Operand.func 13), args := #[Operand.tmp 62, Operand.tmp 64, Operand.tmp 66], argTypes := #[3, 3, 3] }, type := 24, pos := "law.go:62", after := #[{ on := 4, ground := Ground.data }, { on := 6, ground := Ground.data }, { on := 8, ground := Ground.data }, { on := 2, ground := Ground.chain }], guard := none }
def r4_4_10 : Oper := { dst := some 68, op := Op.indexAddr 28 (Operand.tmp 3) (Operand.const (Value.int IntKind.i64 0)), type := 0, pos := "law.go:62", after := #[], guard := none }
def r4_4_11 : Oper := { dst := some 69, op := Op.load 3 (Operand.tmp 68), type := 3, pos := "law.go:62", after := #[{ on := 10, ground := Ground.data }], guard := none }
def r4_4_12 : Oper := { dst := some 70, op := Op.indexAddr 28 (Operand.tmp 3) (Operand.const (Value.int IntKind.i64 1)), type := 0, pos := "law.go:62", after := #[], guard := none }
def r4_4_13 : Oper := { dst := some 71, op := Op.load 3 (Operand.tmp 70), type := 3, pos := "law.go:62", after := #[{ on := 12, ground := Ground.data }], guard := none }
def r4_4_14 : Oper := { dst := some 72, op := Op.indexAddr 28 (Operand.tmp 3) (Operand.const (Value.int IntKind.i64 2)), type := 0, pos := "law.go:62", after := #[], guard := none }
def r4_4_15 : Oper := { dst := some 73, op := Op.load 3 (Operand.tmp 72), type := 3, pos := "law.go:62", after := #[{ on := 14, ground := Ground.data }], guard := none }
def r4_4_16 : Oper := { dst := some 74, op := Op.indexAddr 28 (Operand.tmp 3) (Operand.const (Value.int IntKind.i64 3)), type := 0, pos := "law.go:62", after := #[], guard := none }
def r4_4_17 : Oper := { dst := some 75, op := Op.load 3 (Operand.tmp 74), type := 3, pos := "law.go:62", after := #[{ on := 16, ground := Ground.data }], guard := none }
def r4_4_18 : Oper := { dst := some 76, op := Op.load 24 (Operand.tmp 4), type := 24, pos := "law.go:62", after := #[], guard := none }
def r4_4_19 : Oper := { dst := some 77, op := Op.call { callee := Callee.value (Operand.func 14), args := #[Operand.tmp 69, Operand.tmp 71, Operand.tmp 73, Operand.tmp 75, Operand.tmp 76], argTypes := #[3, 3, 3, 3, 24] }, type := 24, pos := "law.go:62", after := #[{ on := 11, ground := Ground.data }, { on := 13, ground := Ground.data }, { on := 15, ground := Ground.data }, { on := 17, ground := Ground.data }, { on := 18, ground := Ground.data }, { on := 9, ground := Ground.chain }], guard := none }
def r4_4_20 : Oper := { dst := some 78, op := Op.load 24 (Operand.tmp 4), type := 24, pos := "law.go:62", after := #[], guard := none }
def r4_4_21 : Oper := { dst := some 79, op := Op.load 24 (Operand.tmp 5), type := 24, pos := "law.go:62", after := #[], guard := none }
def r4_4_22 : Oper := { dst := some 80, op := Op.buildSlice 22 2 #[(0, Operand.tmp 78), (1, Operand.tmp 79)], type := 22, pos := "law.go:62", after := #[{ on := 20, ground := Ground.data }, { on := 21, ground := Ground.data }], guard := none }
def r4_4_23 : Oper := { dst := some 81, op := Op.call { callee := Callee.value (Operand.func 15), args := #[Operand.tmp 80], argTypes := #[22] }, type := 24, pos := "law.go:62", after := #[{ on := 22, ground := Ground.data }, { on := 19, ground := Ground.chain }], guard := none }
def r4_4_24 : Oper := { dst := some 82, op := Op.indexAddr 28 (Operand.tmp 3) (Operand.const (Value.int IntKind.i64 1)), type := 0, pos := "law.go:62", after := #[], guard := none }
def r4_4_25 : Oper := { dst := some 83, op := Op.load 3 (Operand.tmp 82), type := 3, pos := "law.go:62", after := #[{ on := 24, ground := Ground.data }], guard := none }
def r4_4_26 : Oper := { dst := some 84, op := Op.indexAddr 28 (Operand.tmp 3) (Operand.const (Value.int IntKind.i64 2)), type := 0, pos := "law.go:62", after := #[], guard := none }
def r4_4_27 : Oper := { dst := some 85, op := Op.load 3 (Operand.tmp 84), type := 3, pos := "law.go:62", after := #[{ on := 26, ground := Ground.data }], guard := none }
def r4_4_28 : Oper := { dst := some 86, op := Op.call { callee := Callee.value (Operand.func 16), args := #[Operand.tmp 83, Operand.tmp 85], argTypes := #[3, 3] }, type := 24, pos := "law.go:62", after := #[{ on := 25, ground := Ground.data }, { on := 27, ground := Ground.data }, { on := 23, ground := Ground.chain }], guard := none }
def r4_4_29 : Oper := { dst := some 87, op := Op.indexAddr 28 (Operand.tmp 3) (Operand.const (Value.int IntKind.i64 1)), type := 0, pos := "law.go:62", after := #[], guard := none }
def r4_4_30 : Oper := { dst := some 88, op := Op.load 3 (Operand.tmp 87), type := 3, pos := "law.go:62", after := #[{ on := 29, ground := Ground.data }], guard := none }
def r4_4_31 : Oper := { dst := some 89, op := Op.call { callee := Callee.value (Operand.func 17), args := #[Operand.tmp 88], argTypes := #[3] }, type := 24, pos := "law.go:62", after := #[{ on := 30, ground := Ground.data }, { on := 28, ground := Ground.chain }], guard := none }
def r4_4_32 : Oper := { dst := some 90, op := Op.buildSlice 22 6 #[(0, Operand.tmp 60), (1, Operand.tmp 67), (2, Operand.tmp 77), (3, Operand.tmp 81), (4, Operand.tmp 86), (5, Operand.tmp 89)], type := 22, pos := "law.go:62", after := #[{ on := 2, ground := Ground.data }, { on := 9, ground := Ground.data }, { on := 19, ground := Ground.data }, { on := 23, ground := Ground.data }, { on := 28, ground := Ground.data }, { on := 31, ground := Ground.data }], guard := none }
def r4_4_33 : Oper := { dst := some 8, op := Op.assign (Operand.tmp 90), type := 22, pos := "law.go:62", after := #[{ on := 32, ground := Ground.data }, { on := 31, ground := Ground.chain }, { on := 0, ground := Ground.phase }, { on := 1, ground := Ground.phase }, { on := 2, ground := Ground.phase }, { on := 3, ground := Ground.phase }, { on := 4, ground := Ground.phase }, { on := 5, ground := Ground.phase }, { on := 6, ground := Ground.phase }, { on := 7, ground := Ground.phase }, { on := 8, ground := Ground.phase }, { on := 9, ground := Ground.phase }, { on := 10, ground := Ground.phase }, { on := 11, ground := Ground.phase }, { on := 12, ground := Ground.phase }, { on := 13, ground := Ground.phase }, { on := 14, ground := Ground.phase }, { on := 15, ground := Ground.phase }, { on := 16, ground := Ground.phase }, { on := 17, ground := Ground.phase }, { on := 18, ground := Ground.phase }, { on := 19, ground := Ground.phase }, { on := 20, ground := Ground.phase }, { on := 21, ground := Ground.phase }, { on := 22, ground := Ground.phase }, { on := 23, ground := Ground.phase }, { on := 24, ground := Ground.phase }, { on := 25, ground := Ground.phase }, { on := 26, ground := Ground.phase }, { on := 27, ground := Ground.phase }, { on := 28, ground := Ground.phase }, { on := 29, ground := Ground.phase }, { on := 30, ground := Ground.phase }, { on := 31, ground := Ground.phase }, { on := 32, ground := Ground.phase }], guard := none }
def r4_4 : Array Oper := #[{ dst := some 58, op := Op.indexAddr 28 (Operand.tmp 3) (Operand.const (Value.int IntKind.i64 0)), type := 0, pos := "law.go:62", after := #[], guard := none }, { dst := some 59, op := Op.load 3 (Operand.tmp 58), type := 3, pos := "law.go:62", after := #[{ on := 0, ground := Ground.data }], guard := none }, { dst := some 60, op := Op.call { callee := Callee.value (Operand.func 12), args := #[Operand.tmp 59], argTypes := #[3] }, type := 24, pos := "law.go:62", after := #[{ on := 1, ground := Ground.data }], guard := none }, { dst := some 61, op := Op.indexAddr 28 (Operand.tmp 3) (Operand.const (Value.int IntKind.i64 0)), type := 0, pos := "law.go:62", after := #[], guard := none }, { dst := some 62, op := Op.load 3 (Operand.tmp 61), type := 3, pos := "law.go:62", after := #[{ on := 3, ground := Ground.data }], guard := none }, { dst := some 63, op := Op.indexAddr 28 (Operand.tmp 3) (Operand.const (Value.int IntKind.i64 1)), type := 0, pos := "law.go:62", after := #[], guard := none }, { dst := some 64, op := Op.load 3 (Operand.tmp 63), type := 3, pos := "law.go:62", after := #[{ on := 5, ground := Ground.data }], guard := none }, { dst := some 65, op := Op.indexAddr 28 (Operand.tmp 3) (Operand.const (Value.int IntKind.i64 2)), type := 0, pos := "law.go:62", after := #[], guard := none }, { dst := some 66, op := Op.load 3 (Operand.tmp 65), type := 3, pos := "law.go:62", after := #[{ on := 7, ground := Ground.data }], guard := none }, { dst := some 67, op := Op.call { callee := Callee.value (Operand.func 13), args := #[Operand.tmp 62, Operand.tmp 64, Operand.tmp 66], argTypes := #[3, 3, 3] }, type := 24, pos := "law.go:62", after := #[{ on := 4, ground := Ground.data }, { on := 6, ground := Ground.data }, { on := 8, ground := Ground.data }, { on := 2, ground := Ground.chain }], guard := none }, { dst := some 68, op := Op.indexAddr 28 (Operand.tmp 3) (Operand.const (Value.int IntKind.i64 0)), type := 0, pos := "law.go:62", after := #[], guard := none }, { dst := some 69, op := Op.load 3 (Operand.tmp 68), type := 3, pos := "law.go:62", after := #[{ on := 10, ground := Ground.data }], guard := none }, { dst := some 70, op := Op.indexAddr 28 (Operand.tmp 3) (Operand.const (Value.int IntKind.i64 1)), type := 0, pos := "law.go:62", after := #[], guard := none }, { dst := some 71, op := Op.load 3 (Operand.tmp 70), type := 3, pos := "law.go:62", after := #[{ on := 12, ground := Ground.data }], guard := none }, { dst := some 72, op := Op.indexAddr 28 (Operand.tmp 3) (Operand.const (Value.int IntKind.i64 2)), type := 0, pos := "law.go:62", after := #[], guard := none }, { dst := some 73, op := Op.load 3 (Operand.tmp 72), type := 3, pos := "law.go:62", after := #[{ on := 14, ground := Ground.data }], guard := none }, { dst := some 74, op := Op.indexAddr 28 (Operand.tmp 3) (Operand.const (Value.int IntKind.i64 3)), type := 0, pos := "law.go:62", after := #[], guard := none }, { dst := some 75, op := Op.load 3 (Operand.tmp 74), type := 3, pos := "law.go:62", after := #[{ on := 16, ground := Ground.data }], guard := none }, { dst := some 76, op := Op.load 24 (Operand.tmp 4), type := 24, pos := "law.go:62", after := #[], guard := none }, { dst := some 77, op := Op.call { callee := Callee.value (Operand.func 14), args := #[Operand.tmp 69, Operand.tmp 71, Operand.tmp 73, Operand.tmp 75, Operand.tmp 76], argTypes := #[3, 3, 3, 3, 24] }, type := 24, pos := "law.go:62", after := #[{ on := 11, ground := Ground.data }, { on := 13, ground := Ground.data }, { on := 15, ground := Ground.data }, { on := 17, ground := Ground.data }, { on := 18, ground := Ground.data }, { on := 9, ground := Ground.chain }], guard := none }, { dst := some 78, op := Op.load 24 (Operand.tmp 4), type := 24, pos := "law.go:62", after := #[], guard := none }, { dst := some 79, op := Op.load 24 (Operand.tmp 5), type := 24, pos := "law.go:62", after := #[], guard := none }, { dst := some 80, op := Op.buildSlice 22 2 #[(0, Operand.tmp 78), (1, Operand.tmp 79)], type := 22, pos := "law.go:62", after := #[{ on := 20, ground := Ground.data }, { on := 21, ground := Ground.data }], guard := none }, { dst := some 81, op := Op.call { callee := Callee.value (Operand.func 15), args := #[Operand.tmp 80], argTypes := #[22] }, type := 24, pos := "law.go:62", after := #[{ on := 22, ground := Ground.data }, { on := 19, ground := Ground.chain }], guard := none }, { dst := some 82, op := Op.indexAddr 28 (Operand.tmp 3) (Operand.const (Value.int IntKind.i64 1)), type := 0, pos := "law.go:62", after := #[], guard := none }, { dst := some 83, op := Op.load 3 (Operand.tmp 82), type := 3, pos := "law.go:62", after := #[{ on := 24, ground := Ground.data }], guard := none }, { dst := some 84, op := Op.indexAddr 28 (Operand.tmp 3) (Operand.const (Value.int IntKind.i64 2)), type := 0, pos := "law.go:62", after := #[], guard := none }, { dst := some 85, op := Op.load 3 (Operand.tmp 84), type := 3, pos := "law.go:62", after := #[{ on := 26, ground := Ground.data }], guard := none }, { dst := some 86, op := Op.call { callee := Callee.value (Operand.func 16), args := #[Operand.tmp 83, Operand.tmp 85], argTypes := #[3, 3] }, type := 24, pos := "law.go:62", after := #[{ on := 25, ground := Ground.data }, { on := 27, ground := Ground.data }, { on := 23, ground := Ground.chain }], guard := none }, { dst := some 87, op := Op.indexAddr 28 (Operand.tmp 3) (Operand.const (Value.int IntKind.i64 1)), type := 0, pos := "law.go:62", after := #[], guard := none }, { dst := some 88, op := Op.load 3 (Operand.tmp 87), type := 3, pos := "law.go:62", after := #[{ on := 29, ground := Ground.data }], guard := none }, { dst := some 89, op := Op.call { callee := Callee.value (Operand.func 17), args := #[Operand.tmp 88], argTypes := #[3] }, type := 24, pos := "law.go:62", after := #[{ on := 30, ground := Ground.data }, { on := 28, ground := Ground.chain }], guard := none }, { dst := some 90, op := Op.buildSlice 22 6 #[(0, Operand.tmp 60), (1, Operand.tmp 67), (2, Operand.tmp 77), (3, Operand.tmp 81), (4, Operand.tmp 86), (5, Operand.tmp 89)], type := 22, pos := "law.go:62", after := #[{ on := 2, ground := Ground.data }, { on := 9, ground := Ground.data }, { on := 19, ground := Ground.data }, { on := 23, ground := Ground.data }, { on := 28, ground := Ground.data }, { on := 31, ground := Ground.data }], guard := none }, { dst := some 8, op := Op.assign (Operand.tmp 90), type := 22, pos := "law.go:62", after := #[{ on := 32, ground := Ground.data }, { on := 31, ground := Ground.chain }, { on := 0, ground := Ground.phase }, { on := 1, ground := Ground.phase }, { on := 2, ground := Ground.phase }, { on := 3, ground := Ground.phase }, { on := 4, ground := Ground.phase }, { on := 5, ground := Ground.phase }, { on := 6, ground := Ground.phase }, { on := 7, ground := Ground.phase }, { on := 8, ground := Ground.phase }, { on := 9, ground := Ground.phase }, { on := 10, ground := Ground.phase }, { on := 11, ground := Ground.phase }, { on := 12, ground := Ground.phase }, { on := 13, ground := Ground.phase }, { on := 14, ground := Ground.phase }, { on := 15, ground := Ground.phase }, { on := 16, ground := Ground.phase }, { on := 17, ground := Ground.phase }, { on := 18, ground := Ground.phase }, { on := 19, ground := Ground.phase }, { on := 20, ground := Ground.phase }, { on := 21, ground := Ground.phase }, { on := 22, ground := Ground.phase }, { on := 23, ground := Ground.phase }, { on := 24, ground := Ground.phase }, { on := 25, ground := Ground.phase }, { on := 26, ground := Ground.phase }, { on := 27, ground := Ground.phase }, { on := 28, ground := Ground.phase }, { on := 29, ground := Ground.phase }, { on := 30, ground := Ground.phase }, { on := 31, ground := Ground.phase }, { on := 32, ground := Ground.phase }], guard := none }]
theorem h4_4_0 : r4_4[0]? = some r4_4_0 := by kernel_rfl
theorem d4_4_0 : r4_4_0.dst = some 58 := rfl
theorem h4_4_1 : r4_4[1]? = some r4_4_1 := by kernel_rfl
theorem d4_4_1 : r4_4_1.dst = some 59 := rfl
theorem h4_4_2 : r4_4[2]? = some r4_4_2 := by kernel_rfl
theorem d4_4_2 : r4_4_2.dst = some 60 := rfl
theorem h4_4_3 : r4_4[3]? = some r4_4_3 := by kernel_rfl
theorem d4_4_3 : r4_4_3.dst = some 61 := rfl
theorem h4_4_4 : r4_4[4]? = some r4_4_4 := by kernel_rfl
theorem d4_4_4 : r4_4_4.dst = some 62 := rfl
theorem h4_4_5 : r4_4[5]? = some r4_4_5 := by kernel_rfl
theorem d4_4_5 : r4_4_5.dst = some 63 := rfl
theorem h4_4_6 : r4_4[6]? = some r4_4_6 := by kernel_rfl
theorem d4_4_6 : r4_4_6.dst = some 64 := rfl
theorem h4_4_7 : r4_4[7]? = some r4_4_7 := by kernel_rfl
theorem d4_4_7 : r4_4_7.dst = some 65 := rfl
theorem h4_4_8 : r4_4[8]? = some r4_4_8 := by kernel_rfl
theorem d4_4_8 : r4_4_8.dst = some 66 := rfl
theorem h4_4_9 : r4_4[9]? = some r4_4_9 := by kernel_rfl
theorem d4_4_9 : r4_4_9.dst = some 67 := rfl
theorem h4_4_10 : r4_4[10]? = some r4_4_10 := by kernel_rfl
theorem d4_4_10 : r4_4_10.dst = some 68 := rfl
theorem h4_4_11 : r4_4[11]? = some r4_4_11 := by kernel_rfl
theorem d4_4_11 : r4_4_11.dst = some 69 := rfl
theorem h4_4_12 : r4_4[12]? = some r4_4_12 := by kernel_rfl
theorem d4_4_12 : r4_4_12.dst = some 70 := rfl
theorem h4_4_13 : r4_4[13]? = some r4_4_13 := by kernel_rfl
theorem d4_4_13 : r4_4_13.dst = some 71 := rfl
theorem h4_4_14 : r4_4[14]? = some r4_4_14 := by kernel_rfl
theorem d4_4_14 : r4_4_14.dst = some 72 := rfl
theorem h4_4_15 : r4_4[15]? = some r4_4_15 := by kernel_rfl
theorem d4_4_15 : r4_4_15.dst = some 73 := rfl
theorem h4_4_16 : r4_4[16]? = some r4_4_16 := by kernel_rfl
theorem d4_4_16 : r4_4_16.dst = some 74 := rfl
theorem h4_4_17 : r4_4[17]? = some r4_4_17 := by kernel_rfl
theorem d4_4_17 : r4_4_17.dst = some 75 := rfl
theorem h4_4_18 : r4_4[18]? = some r4_4_18 := by kernel_rfl
theorem d4_4_18 : r4_4_18.dst = some 76 := rfl
theorem h4_4_19 : r4_4[19]? = some r4_4_19 := by kernel_rfl
theorem d4_4_19 : r4_4_19.dst = some 77 := rfl
theorem h4_4_20 : r4_4[20]? = some r4_4_20 := by kernel_rfl
theorem d4_4_20 : r4_4_20.dst = some 78 := rfl
theorem h4_4_21 : r4_4[21]? = some r4_4_21 := by kernel_rfl
theorem d4_4_21 : r4_4_21.dst = some 79 := rfl
theorem h4_4_22 : r4_4[22]? = some r4_4_22 := by kernel_rfl
theorem d4_4_22 : r4_4_22.dst = some 80 := rfl
theorem h4_4_23 : r4_4[23]? = some r4_4_23 := by kernel_rfl
theorem d4_4_23 : r4_4_23.dst = some 81 := rfl
theorem h4_4_24 : r4_4[24]? = some r4_4_24 := by kernel_rfl
theorem d4_4_24 : r4_4_24.dst = some 82 := rfl
theorem h4_4_25 : r4_4[25]? = some r4_4_25 := by kernel_rfl
theorem d4_4_25 : r4_4_25.dst = some 83 := rfl
theorem h4_4_26 : r4_4[26]? = some r4_4_26 := by kernel_rfl
theorem d4_4_26 : r4_4_26.dst = some 84 := rfl
theorem h4_4_27 : r4_4[27]? = some r4_4_27 := by kernel_rfl
theorem d4_4_27 : r4_4_27.dst = some 85 := rfl
theorem h4_4_28 : r4_4[28]? = some r4_4_28 := by kernel_rfl
theorem d4_4_28 : r4_4_28.dst = some 86 := rfl
theorem h4_4_29 : r4_4[29]? = some r4_4_29 := by kernel_rfl
theorem d4_4_29 : r4_4_29.dst = some 87 := rfl
theorem h4_4_30 : r4_4[30]? = some r4_4_30 := by kernel_rfl
theorem d4_4_30 : r4_4_30.dst = some 88 := rfl
theorem h4_4_31 : r4_4[31]? = some r4_4_31 := by kernel_rfl
theorem d4_4_31 : r4_4_31.dst = some 89 := rfl
theorem h4_4_32 : r4_4[32]? = some r4_4_32 := by kernel_rfl
theorem d4_4_32 : r4_4_32.dst = some 90 := rfl
theorem h4_4_33 : r4_4[33]? = some r4_4_33 := by kernel_rfl
theorem d4_4_33 : r4_4_33.dst = some 8 := rfl
theorem wpAnyH_cast {P : Program} {md : Region.Mode} {ops : Array Oper} {Q : Exit → Act → World → Prop} {S : World → Prop} {fuel fuel' : Nat} {l l' : Array Bool} {a : Act} {w : World} (e : fuel = fuel') (e' : l = l') (h : wpAnyH P md ops Q S fuel' l' a w) : wpAnyH P md ops Q S fuel l a w := by
  subst e e'; exact h
/-- The reads, in their order. -/
def reads4 (A0 : Act) (q3 : Nat) (x0 x1 x2 x3 : Int) (a b : Fo) : Act :=
  (((((((((((((((((((((((((A0.put (some 58) (.pointer (some ⟨q3, 0, none⟩))).put (some 59) (.int .i64 x0)).put (some 61) (.pointer (some ⟨q3, 0, none⟩))).put (some 62) (.int .i64 x0)).put (some 63) (.pointer (some ⟨q3, 1, none⟩))).put (some 64) (.int .i64 x1)).put (some 65) (.pointer (some ⟨q3, 2, none⟩))).put (some 66) (.int .i64 x2)).put (some 68) (.pointer (some ⟨q3, 0, none⟩))).put (some 69) (.int .i64 x0)).put (some 70) (.pointer (some ⟨q3, 1, none⟩))).put (some 71) (.int .i64 x1)).put (some 72) (.pointer (some ⟨q3, 2, none⟩))).put (some 73) (.int .i64 x2)).put (some 74) (.pointer (some ⟨q3, 3, none⟩))).put (some 75) (.int .i64 x3)).put (some 76) (a.val)).put (some 78) (a.val)).put (some 79) (b.val)).put (some 82) (.pointer (some ⟨q3, 1, none⟩))).put (some 83) (.int .i64 x1)).put (some 84) (.pointer (some ⟨q3, 2, none⟩))).put (some 85) (.int .i64 x2)).put (some 87) (.pointer (some ⟨q3, 1, none⟩))).put (some 88) (.int .i64 x1))
/-- The made ones, where two lie at AL and AR. -/
def gots (x0 x1 x2 x3 : Int) (a b : Fo) (AL : Option Addr) (cL : Nat) (AR : Option Addr) (cR : Nat) : List Fo :=
  [.mk 0 x0 0 0 0 none 0 [], .mk 1 x0 x1 x2 1 none 0 [], .mk 2 x0 x1 x2 x3 AL cL [a], .mk 3 0 0 0 0 AR cR [a, b], .mk 4 0 x1 x2 0 none 0 [], .mk 5 0 x1 0 0 none 0 []]
/-- What holds behind the making. -/
def GotT (A3 : Act) (V : World) (x0 x1 x2 x3 : Int) (a b : Fo) (AL : Option Addr) (cL : Nat) (a' : Act) (W9 : World) : Prop :=
  ∃ AR cR B9, a' = (((((A3.put (some 81) (Fo.mk 3 0 0 0 0 AR cR [a, b]).val).put (some 86) (Fo.mk 4 0 x1 x2 0 none 0 []).val).put (some 89) (Fo.mk 5 0 x1 0 0 none 0 []).val).put (some 90) (.slice (some ⟨B9, 0, none⟩) 6 6)).put (some 8) (.slice (some ⟨B9, 0, none⟩) 6 6)) ∧
    Lie W9 (some ⟨B9, 0, none⟩) (gots x0 x1 x2 x3 a b AL cL AR cR) ∧ (Fo.mk 2 x0 x1 x2 x3 AL cL [a]).In W9 ∧ (Fo.mk 3 0 0 0 0 AR cR [a, b]).In W9 ∧ Grew V W9 none
/-- The same with what was ahead. -/
def MakeT (A0 : Act) (V : World) (q3 : Nat) (x0 x1 x2 x3 : Int) (a b : Fo) (a' : Act) (W9 : World) : Prop :=
  ∃ Bx AL cL, GotT (((((reads4 A0 q3 x0 x1 x2 x3 a b).put (some 60) (Fo.mk 0 x0 0 0 0 none 0 []).val).put (some 67) (Fo.mk 1 x0 x1 x2 1 none 0 []).val).put (some 77) (Fo.mk 2 x0 x1 x2 x3 AL cL [a]).val).put (some 80) (.slice (some ⟨Bx, 0, none⟩) 2 2)) V x0 x1 x2 x3 a b AL cL a' W9

set_option maxRecDepth 100000 in
set_option maxHeartbeats 1000000 in
theorem make_tail (Q : Exit → Act → World → Prop) (A3 : Act) (V W : World) (x0 x1 x2 x3 : Int) (a b : Fo) (Bx : Nat) (AL : Option Addr) (cL : Nat) (e60 : A3.eval (.tmp 60) = (Fo.mk 0 x0 0 0 0 none 0 []).val) (e67 : A3.eval (.tmp 67) = (Fo.mk 1 x0 x1 x2 1 none 0 []).val) (e77 : A3.eval (.tmp 77) = (Fo.mk 2 x0 x1 x2 x3 AL cL [a]).val) (e80 : A3.eval (.tmp 80) = .slice (some ⟨Bx, 0, none⟩) 2 2)
    (e83 : A3.eval (.tmp 83) = .int .i64 x1) (e85 : A3.eval (.tmp 85) = .int .i64 x2) (e88 : A3.eval (.tmp 88) = .int .i64 x1) (hsz3 : A3.tmps.size = 170) (HL : Hid ((Fo.mk 2 x0 x1 x2 x3 AL cL [a]).In W)) (HS : Hid (Lie W (some ⟨Bx, 0, none⟩) [a, b])) (HAV : Hid (a.In V)) (HBV : Hid (b.In V)) (GW : Hid (Grew V W none))
    (HQ : Hid (∀ a' W9, GotT A3 V x0 x1 x2 x3 a b AL cL a' W9 → Q .normal a' W9)) :
    wpAnyH Try.prog .any r4_4 Q (fun w' => Grew V w' none) 5 #[true, true, true, true, true, true, true, true, true, true, true, true, true, true, true, true, true, true, true, true, true, true, true, false, true, true, true, true, false, true, true, false, false, false] A3 W := by
  refine wpAnyH_ready (rs := [23]) (by kernel_rfl) (by simp) ?_
  refine AllReadyH.cons h4_4_23 (fun K hK => ?_) AllReadyH.nil
  refine wp_callH rfl rfl enter_Row (vs := #[.slice (some ⟨Bx, 0, none⟩) 2 2]) (by simp [e60, e67, e77, e80, e83, e85, e88, hsz3]) ?_
  refine (row_any _ (some ⟨Bx, 0, none⟩) 2 [a, b] HS.out (fun p hp => by rcases List.mem_cons.1 hp with rfl | hp; exact HAV.out.grew GW.out; rw [List.mem_singleton] at hp; subst hp; exact HBV.out.grew GW.out) (by simp)).mono ?_
  rintro e wR ⟨AR, cR, rfl, hR, gR, _⟩
  have GR := Lib.hid (grew_trans GW.out gR)
  have HL2 := Lib.hid (HL.out.grew gR)
  have HR2 := Lib.hid hR
  refine ⟨_, rfl, hK.out _ _ GR.out (fun _ => ?_)⟩
  clear hK K hR gR HL HS GW
  rw [d4_4_23]
  refine wpAnyH_ready (rs := [28]) (by kernel_rfl) (by simp) ?_
  refine AllReadyH.cons h4_4_28 (fun K hK => ?_) AllReadyH.nil
  refine wp_callH rfl rfl enter_Rest (vs := #[.int .i64 x1, .int .i64 x2]) (by simp [ev_ne, sz_put, e60, e67, e77, e80, e83, e85, e88, hsz3]) ?_
  refine (rest_any _ x1 x2).mono ?_
  rintro e wE ⟨rfl, gE⟩
  have GE := Lib.hid (grew_trans GR.out gE)
  have HL3 := Lib.hid (HL2.out.grew gE)
  have HR3 := Lib.hid (HR2.out.grew gE)
  refine ⟨_, rfl, hK.out _ _ GE.out (fun _ => ?_)⟩
  clear hK K gE HL2 HR2 GR
  rw [d4_4_28]
  refine wpAnyH_ready (rs := [31]) (by kernel_rfl) (by simp) ?_
  refine AllReadyH.cons h4_4_31 (fun K hK => ?_) AllReadyH.nil
  refine wp_callH rfl rfl enter_Fixed (vs := #[.int .i64 x1]) (by simp [ev_ne, sz_put, e60, e67, e77, e80, e83, e85, e88, hsz3]) ?_
  refine (fixed_any _ x1).mono ?_
  rintro e wF ⟨rfl, gF⟩
  have GF := Lib.hid (grew_trans GE.out gF)
  have HL4 := Lib.hid (HL3.out.grew gF)
  have HR4 := Lib.hid (HR3.out.grew gF)
  refine ⟨_, rfl, hK.out _ _ GF.out (fun _ => ?_)⟩
  clear hK K gF HL3 HR3 GE
  rw [d4_4_31]
  refine wpAnyH_ready (rs := [32]) (by kernel_rfl) (by simp) ?_
  refine AllReadyH.cons h4_4_32 (fun K hK => ?_) AllReadyH.nil
  refine wp_build6H (f0 := .mk 0 x0 0 0 0 none 0 []) (f1 := .mk 1 x0 x1 x2 1 none 0 []) (f2 := .mk 2 x0 x1 x2 x3 AL cL [a]) (f3 := .mk 3 0 0 0 0 AR cR [a, b]) (f4 := .mk 4 0 x1 x2 0 none 0 []) (f5 := .mk 5 0 x1 0 0 none 0 []) rfl rfl (by simp [ev_ne, ev_self, sz_put, e60, e67, e77, e80, e83, e85, e88, hsz3]) (by simp [ev_ne, ev_self, sz_put, e60, e67, e77, e80, e83, e85, e88, hsz3]) (by simp [ev_ne, ev_self, sz_put, e60, e67, e77, e80, e83, e85, e88, hsz3]) (by simp [ev_ne, ev_self, sz_put, e60, e67, e77, e80, e83, e85, e88, hsz3]) (by simp [ev_ne, ev_self, sz_put, e60, e67, e77, e80, e83, e85, e88, hsz3]) (by simp [ev_ne, ev_self, sz_put, e60, e67, e77, e80, e83, e85, e88, hsz3]) (fun B9 W9 l9 g9 _ => hK.out _ _ (grew_trans GF.out g9) (fun _ => ?_))
  clear hK K
  rw [d4_4_32]
  have G9 := Lib.hid (grew_trans GF.out g9)
  have HL5 := Lib.hid (HL4.out.grew g9)
  have HR5 := Lib.hid (HR4.out.grew g9)
  clear GF HL4 HR4 g9
  refine wpAnyH_ready (rs := [33]) (by kernel_rfl) (by simp) ?_
  refine AllReadyH.cons h4_4_33 (fun K hK => ?_) AllReadyH.nil
  refine wp_runH rfl (v := .slice (some ⟨B9, 0, none⟩) 6 6) ((BigFrame.run_assign _ rfl _).trans (by rw [show Act.eval _ (.tmp 90) = .slice (some ⟨B9, 0, none⟩) 6 6 from (by simp [ev_ne, ev_self, sz_put, hsz3])])) ?_
  refine hK.out _ _ G9.out (fun _ => ?_)
  clear hK K
  rw [d4_4_33]
  refine wpAnyH_done (by kernel_rfl) ?_ _
  exact HQ.out _ _ ⟨AR, cR, B9, rfl, l9, HL5.out, HR5.out, G9.out⟩

set_option maxRecDepth 100000 in
set_option maxHeartbeats 2000000 in
theorem make_wp (A0 : Act) (V : World) (q3 q4 q5 : Nat) (x0 x1 x2 x3 : Int) (a b : Fo) (hA3 : A0.eval (.tmp 3) = .pointer (some ⟨q3, 0, none⟩)) (hA4 : A0.eval (.tmp 4) = .pointer (some ⟨q4, 0, none⟩)) (hA5 : A0.eval (.tmp 5) = .pointer (some ⟨q5, 0, none⟩)) (hsz : A0.tmps.size = 170)
    (k0 : Hid (∀ w', Grew V w' none → w'.cell? ⟨q3, 0, none⟩ = some (.int .i64 x0))) (k1 : Hid (∀ w', Grew V w' none → w'.cell? ⟨q3, 1, none⟩ = some (.int .i64 x1))) (k2 : Hid (∀ w', Grew V w' none → w'.cell? ⟨q3, 2, none⟩ = some (.int .i64 x2))) (k3 : Hid (∀ w', Grew V w' none → w'.cell? ⟨q3, 3, none⟩ = some (.int .i64 x3)))
    (KA : Hid (∀ w', Grew V w' none → Whole w' q4 a.cells 24)) (KB : Hid (∀ w', Grew V w' none → Whole w' q5 b.cells 24)) (HAV : Hid (a.In V)) (HBV : Hid (b.In V)) :
    (Code.region 4 r4_4 true).wp Try.prog (fun e a' W9 => e = .normal ∧ MakeT A0 V q3 x0 x1 x2 x3 a b a' W9) A0 V := by
  have G0 := Lib.hid (grew_drew (grew_refl V none))
  refine wp_region_held (S := fun w' => Grew V w' none) (by kernel_rfl) ?_
  change wpAnyH _ _ _ _ _ _ _ _ (World.drew V)
  refine wpAnyH_take (i := 0) (v := .pointer (some ⟨q3, 0, none⟩)) h4_4_0 (by kernel_rfl) (by kernel_rfl) (by kernel_rfl) (fun _ _ _ h => by cases h.1) (yi rfl (fun w _ => run_at4 (q := q3) (i := 0) rfl (by simp [ev_ne, ev_self, sz_put, hA3, hA4, hA5, hsz]) rfl (by omega) w)) G0.out ?_
  rw [d4_4_0]
  refine wpAnyH_take (i := 1) (v := .int .i64 x0) h4_4_1 (by kernel_rfl) (by kernel_rfl) (by kernel_rfl) (fun _ _ _ h => by cases h.1) (yi rfl (fun w g => run_int (q := q3) (i := 0) (v := x0) rfl (by simp [ev_ne, ev_self, sz_put, hA3, hA4, hA5, hsz]) (k0.out w g))) G0.out ?_
  rw [d4_4_1]
  refine wpAnyH_take (i := 3) (v := .pointer (some ⟨q3, 0, none⟩)) h4_4_3 (by kernel_rfl) (by kernel_rfl) (by kernel_rfl) (fun _ _ _ h => by cases h.1) (yi rfl (fun w _ => run_at4 (q := q3) (i := 0) rfl (by simp [ev_ne, ev_self, sz_put, hA3, hA4, hA5, hsz]) rfl (by omega) w)) G0.out ?_
  rw [d4_4_3]
  refine wpAnyH_take (i := 4) (v := .int .i64 x0) h4_4_4 (by kernel_rfl) (by kernel_rfl) (by kernel_rfl) (fun _ _ _ h => by cases h.1) (yi rfl (fun w g => run_int (q := q3) (i := 0) (v := x0) rfl (by simp [ev_ne, ev_self, sz_put, hA3, hA4, hA5, hsz]) (k0.out w g))) G0.out ?_
  rw [d4_4_4]
  refine wpAnyH_take (i := 5) (v := .pointer (some ⟨q3, 1, none⟩)) h4_4_5 (by kernel_rfl) (by kernel_rfl) (by kernel_rfl) (fun _ _ _ h => by cases h.1) (yi rfl (fun w _ => run_at4 (q := q3) (i := 1) rfl (by simp [ev_ne, ev_self, sz_put, hA3, hA4, hA5, hsz]) rfl (by omega) w)) G0.out ?_
  rw [d4_4_5]
  refine wpAnyH_take (i := 6) (v := .int .i64 x1) h4_4_6 (by kernel_rfl) (by kernel_rfl) (by kernel_rfl) (fun _ _ _ h => by cases h.1) (yi rfl (fun w g => run_int (q := q3) (i := 1) (v := x1) rfl (by simp [ev_ne, ev_self, sz_put, hA3, hA4, hA5, hsz]) (k1.out w g))) G0.out ?_
  rw [d4_4_6]
  refine wpAnyH_take (i := 7) (v := .pointer (some ⟨q3, 2, none⟩)) h4_4_7 (by kernel_rfl) (by kernel_rfl) (by kernel_rfl) (fun _ _ _ h => by cases h.1) (yi rfl (fun w _ => run_at4 (q := q3) (i := 2) rfl (by simp [ev_ne, ev_self, sz_put, hA3, hA4, hA5, hsz]) rfl (by omega) w)) G0.out ?_
  rw [d4_4_7]
  refine wpAnyH_take (i := 8) (v := .int .i64 x2) h4_4_8 (by kernel_rfl) (by kernel_rfl) (by kernel_rfl) (fun _ _ _ h => by cases h.1) (yi rfl (fun w g => run_int (q := q3) (i := 2) (v := x2) rfl (by simp [ev_ne, ev_self, sz_put, hA3, hA4, hA5, hsz]) (k2.out w g))) G0.out ?_
  rw [d4_4_8]
  refine wpAnyH_take (i := 10) (v := .pointer (some ⟨q3, 0, none⟩)) h4_4_10 (by kernel_rfl) (by kernel_rfl) (by kernel_rfl) (fun _ _ _ h => by cases h.1) (yi rfl (fun w _ => run_at4 (q := q3) (i := 0) rfl (by simp [ev_ne, ev_self, sz_put, hA3, hA4, hA5, hsz]) rfl (by omega) w)) G0.out ?_
  rw [d4_4_10]
  refine wpAnyH_take (i := 11) (v := .int .i64 x0) h4_4_11 (by kernel_rfl) (by kernel_rfl) (by kernel_rfl) (fun _ _ _ h => by cases h.1) (yi rfl (fun w g => run_int (q := q3) (i := 0) (v := x0) rfl (by simp [ev_ne, ev_self, sz_put, hA3, hA4, hA5, hsz]) (k0.out w g))) G0.out ?_
  rw [d4_4_11]
  refine wpAnyH_take (i := 12) (v := .pointer (some ⟨q3, 1, none⟩)) h4_4_12 (by kernel_rfl) (by kernel_rfl) (by kernel_rfl) (fun _ _ _ h => by cases h.1) (yi rfl (fun w _ => run_at4 (q := q3) (i := 1) rfl (by simp [ev_ne, ev_self, sz_put, hA3, hA4, hA5, hsz]) rfl (by omega) w)) G0.out ?_
  rw [d4_4_12]
  refine wpAnyH_take (i := 13) (v := .int .i64 x1) h4_4_13 (by kernel_rfl) (by kernel_rfl) (by kernel_rfl) (fun _ _ _ h => by cases h.1) (yi rfl (fun w g => run_int (q := q3) (i := 1) (v := x1) rfl (by simp [ev_ne, ev_self, sz_put, hA3, hA4, hA5, hsz]) (k1.out w g))) G0.out ?_
  rw [d4_4_13]
  refine wpAnyH_take (i := 14) (v := .pointer (some ⟨q3, 2, none⟩)) h4_4_14 (by kernel_rfl) (by kernel_rfl) (by kernel_rfl) (fun _ _ _ h => by cases h.1) (yi rfl (fun w _ => run_at4 (q := q3) (i := 2) rfl (by simp [ev_ne, ev_self, sz_put, hA3, hA4, hA5, hsz]) rfl (by omega) w)) G0.out ?_
  rw [d4_4_14]
  refine wpAnyH_take (i := 15) (v := .int .i64 x2) h4_4_15 (by kernel_rfl) (by kernel_rfl) (by kernel_rfl) (fun _ _ _ h => by cases h.1) (yi rfl (fun w g => run_int (q := q3) (i := 2) (v := x2) rfl (by simp [ev_ne, ev_self, sz_put, hA3, hA4, hA5, hsz]) (k2.out w g))) G0.out ?_
  rw [d4_4_15]
  refine wpAnyH_take (i := 16) (v := .pointer (some ⟨q3, 3, none⟩)) h4_4_16 (by kernel_rfl) (by kernel_rfl) (by kernel_rfl) (fun _ _ _ h => by cases h.1) (yi rfl (fun w _ => run_at4 (q := q3) (i := 3) rfl (by simp [ev_ne, ev_self, sz_put, hA3, hA4, hA5, hsz]) rfl (by omega) w)) G0.out ?_
  rw [d4_4_16]
  refine wpAnyH_take (i := 17) (v := .int .i64 x3) h4_4_17 (by kernel_rfl) (by kernel_rfl) (by kernel_rfl) (fun _ _ _ h => by cases h.1) (yi rfl (fun w g => run_int (q := q3) (i := 3) (v := x3) rfl (by simp [ev_ne, ev_self, sz_put, hA3, hA4, hA5, hsz]) (k3.out w g))) G0.out ?_
  rw [d4_4_17]
  refine wpAnyH_take (i := 18) (v := a.val) h4_4_18 (by kernel_rfl) (by kernel_rfl) (by kernel_rfl) (fun _ _ _ h => by cases h.1) (yi rfl (fun w g => run_form (q := q4) (f := a) rfl (by simp [ev_ne, ev_self, sz_put, hA3, hA4, hA5, hsz]) (KA.out w g))) G0.out ?_
  rw [d4_4_18]
  refine wpAnyH_take (i := 20) (v := a.val) h4_4_20 (by kernel_rfl) (by kernel_rfl) (by kernel_rfl) (fun _ _ _ h => by cases h.1) (yi rfl (fun w g => run_form (q := q4) (f := a) rfl (by simp [ev_ne, ev_self, sz_put, hA3, hA4, hA5, hsz]) (KA.out w g))) G0.out ?_
  rw [d4_4_20]
  refine wpAnyH_take (i := 21) (v := b.val) h4_4_21 (by kernel_rfl) (by kernel_rfl) (by kernel_rfl) (fun _ _ _ h => by cases h.1) (yi rfl (fun w g => run_form (q := q5) (f := b) rfl (by simp [ev_ne, ev_self, sz_put, hA3, hA4, hA5, hsz]) (KB.out w g))) G0.out ?_
  rw [d4_4_21]
  refine wpAnyH_take (i := 24) (v := .pointer (some ⟨q3, 1, none⟩)) h4_4_24 (by kernel_rfl) (by kernel_rfl) (by kernel_rfl) (fun _ _ _ h => by cases h.1) (yi rfl (fun w _ => run_at4 (q := q3) (i := 1) rfl (by simp [ev_ne, ev_self, sz_put, hA3, hA4, hA5, hsz]) rfl (by omega) w)) G0.out ?_
  rw [d4_4_24]
  refine wpAnyH_take (i := 25) (v := .int .i64 x1) h4_4_25 (by kernel_rfl) (by kernel_rfl) (by kernel_rfl) (fun _ _ _ h => by cases h.1) (yi rfl (fun w g => run_int (q := q3) (i := 1) (v := x1) rfl (by simp [ev_ne, ev_self, sz_put, hA3, hA4, hA5, hsz]) (k1.out w g))) G0.out ?_
  rw [d4_4_25]
  refine wpAnyH_take (i := 26) (v := .pointer (some ⟨q3, 2, none⟩)) h4_4_26 (by kernel_rfl) (by kernel_rfl) (by kernel_rfl) (fun _ _ _ h => by cases h.1) (yi rfl (fun w _ => run_at4 (q := q3) (i := 2) rfl (by simp [ev_ne, ev_self, sz_put, hA3, hA4, hA5, hsz]) rfl (by omega) w)) G0.out ?_
  rw [d4_4_26]
  refine wpAnyH_take (i := 27) (v := .int .i64 x2) h4_4_27 (by kernel_rfl) (by kernel_rfl) (by kernel_rfl) (fun _ _ _ h => by cases h.1) (yi rfl (fun w g => run_int (q := q3) (i := 2) (v := x2) rfl (by simp [ev_ne, ev_self, sz_put, hA3, hA4, hA5, hsz]) (k2.out w g))) G0.out ?_
  rw [d4_4_27]
  refine wpAnyH_take (i := 29) (v := .pointer (some ⟨q3, 1, none⟩)) h4_4_29 (by kernel_rfl) (by kernel_rfl) (by kernel_rfl) (fun _ _ _ h => by cases h.1) (yi rfl (fun w _ => run_at4 (q := q3) (i := 1) rfl (by simp [ev_ne, ev_self, sz_put, hA3, hA4, hA5, hsz]) rfl (by omega) w)) G0.out ?_
  rw [d4_4_29]
  refine wpAnyH_take (i := 30) (v := .int .i64 x1) h4_4_30 (by kernel_rfl) (by kernel_rfl) (by kernel_rfl) (fun _ _ _ h => by cases h.1) (yi rfl (fun w g => run_int (q := q3) (i := 1) (v := x1) rfl (by simp [ev_ne, ev_self, sz_put, hA3, hA4, hA5, hsz]) (k1.out w g))) G0.out ?_
  rw [d4_4_30]
  refine wpAnyH_cast (fuel' := 9) (l' := #[true, true, false, true, true, true, true, true, true, false, true, true, true, true, true, true, true, true, true, false, true, true, false, false, true, true, true, true, false, true, true, false, false, false]) (by kernel_rfl) (by kernel_rfl) ?_
  refine act_letter (fun A2 hA2 => ?_)
  have e59 : A2.eval (.tmp 59) = .int .i64 x0 := by rw [← hA2]; simp [ev_ne, ev_self, sz_put, hsz]
  have e62 : A2.eval (.tmp 62) = .int .i64 x0 := by rw [← hA2]; simp [ev_ne, ev_self, sz_put, hsz]
  have e64 : A2.eval (.tmp 64) = .int .i64 x1 := by rw [← hA2]; simp [ev_ne, ev_self, sz_put, hsz]
  have e66 : A2.eval (.tmp 66) = .int .i64 x2 := by rw [← hA2]; simp [ev_ne, ev_self, sz_put, hsz]
  have e69 : A2.eval (.tmp 69) = .int .i64 x0 := by rw [← hA2]; simp [ev_ne, ev_self, sz_put, hsz]
  have e71 : A2.eval (.tmp 71) = .int .i64 x1 := by rw [← hA2]; simp [ev_ne, ev_self, sz_put, hsz]
  have e73 : A2.eval (.tmp 73) = .int .i64 x2 := by rw [← hA2]; simp [ev_ne, ev_self, sz_put, hsz]
  have e75 : A2.eval (.tmp 75) = .int .i64 x3 := by rw [← hA2]; simp [ev_ne, ev_self, sz_put, hsz]
  have e83 : A2.eval (.tmp 83) = .int .i64 x1 := by rw [← hA2]; simp [ev_ne, ev_self, sz_put, hsz]
  have e85 : A2.eval (.tmp 85) = .int .i64 x2 := by rw [← hA2]; simp [ev_ne, ev_self, sz_put, hsz]
  have e88 : A2.eval (.tmp 88) = .int .i64 x1 := by rw [← hA2]; simp [ev_ne, ev_self, sz_put, hsz]
  have e76 : A2.eval (.tmp 76) = a.val := by rw [← hA2]; simp [ev_ne, ev_self, sz_put, hsz]
  have e78 : A2.eval (.tmp 78) = a.val := by rw [← hA2]; simp [ev_ne, ev_self, sz_put, hsz]
  have e79 : A2.eval (.tmp 79) = b.val := by rw [← hA2]; simp [ev_ne, ev_self, sz_put, hsz]
  have hsz2 : A2.tmps.size = 170 := by rw [← hA2]; simp [sz_put, hsz]
  have HA2 := Lib.hid (show A2 = reads4 A0 q3 x0 x1 x2 x3 a b from hA2.symm)
  clear hA2 hA3 hA4 hA5 hsz k0 k1 k2 k3 KA KB
  have HQ := Lib.hid (show ∀ Bx AL cL a' W9, GotT ((((A2.put (some 60) (Fo.mk 0 x0 0 0 0 none 0 []).val).put (some 67) (Fo.mk 1 x0 x1 x2 1 none 0 []).val).put (some 77) (Fo.mk 2 x0 x1 x2 x3 AL cL [a]).val).put (some 80) (.slice (some ⟨Bx, 0, none⟩) 2 2)) V x0 x1 x2 x3 a b AL cL a' W9 → MakeT A0 V q3 x0 x1 x2 x3 a b a' W9 from fun Bx AL cL a' W9 h => by rw [HA2.out] at h; exact ⟨Bx, AL, cL, h⟩)
  refine wpAnyH_ready (rs := [2, 22]) (by kernel_rfl) (by simp) ?_
  refine AllReadyH.cons h4_4_2 (fun K hK => ?_) (AllReadyH.cons h4_4_22 (fun K hK => ?_) AllReadyH.nil)
  · refine wp_callH rfl rfl enter_Number (vs := #[.int .i64 x0]) (by simp [ev_ne, ev_self, sz_put, e59, e62, e64, e66, e69, e71, e73, e75, e83, e85, e88, e76, e78, e79, hsz2]) ?_
    refine (number_any _ x0).mono ?_
    rintro e w0 ⟨rfl, g0⟩
    have G1 := Lib.hid (grew_trans G0.out g0)
    refine ⟨_, rfl, hK.out _ _ G1.out (fun _ => ?_)⟩
    clear hK K
    rw [d4_4_2]
    refine wpAnyH_ready (rs := [9, 22]) (by kernel_rfl) (by simp) ?_
    refine AllReadyH.cons h4_4_9 (fun K hK => ?_) (AllReadyH.cons h4_4_22 (fun K hK => ?_) AllReadyH.nil)
    · refine wp_callH rfl rfl enter_Opaque (vs := #[.int .i64 x0, .int .i64 x1, .int .i64 x2]) (by simp [ev_ne, ev_self, sz_put, e59, e62, e64, e66, e69, e71, e73, e75, e83, e85, e88, e76, e78, e79, hsz2]) ?_
      refine (opaque_any _ x0 x1 x2).mono ?_
      rintro e w1 ⟨rfl, g1⟩
      have G2 := Lib.hid (grew_trans G1.out g1)
      refine ⟨_, rfl, hK.out _ _ G2.out (fun _ => ?_)⟩
      clear hK K
      rw [d4_4_9]
      refine wpAnyH_ready (rs := [19, 22]) (by kernel_rfl) (by simp) ?_
      refine AllReadyH.cons h4_4_19 (fun K hK => ?_) (AllReadyH.cons h4_4_22 (fun K hK => ?_) AllReadyH.nil)
      · refine wp_callH rfl rfl enter_List (vs := #[.int .i64 x0, .int .i64 x1, .int .i64 x2, .int .i64 x3, a.val]) (by simp [ev_ne, ev_self, sz_put, e59, e62, e64, e66, e69, e71, e73, e75, e83, e85, e88, e76, e78, e79, hsz2]) ?_
        refine (list_any _ x0 x1 x2 x3 a (HAV.out.grew G2.out)).mono ?_
        rintro e w2 ⟨AL, cL, rfl, hL, g2, _⟩
        have G3 := Lib.hid (grew_trans G2.out g2)
        have HL := Lib.hid hL
        refine ⟨_, rfl, hK.out _ _ G3.out (fun _ => ?_)⟩
        clear hK K
        rw [d4_4_19]
        refine wpAnyH_ready (rs := [22]) (by kernel_rfl) (by simp) ?_
        refine AllReadyH.cons h4_4_22 (fun K hK => ?_) AllReadyH.nil
        refine wp_build2H (f := a) (g := b) rfl rfl (by simp [ev_ne, ev_self, sz_put, e59, e62, e64, e66, e69, e71, e73, e75, e83, e85, e88, e76, e78, e79, hsz2]) (by simp [ev_ne, ev_self, sz_put, e59, e62, e64, e66, e69, e71, e73, e75, e83, e85, e88, e76, e78, e79, hsz2]) (fun Bx WB lB gB _ => hK.out _ _ (grew_trans G3.out gB) (fun _ => ?_))
        clear hK K
        rw [d4_4_22]
        have GB := Lib.hid (grew_trans G3.out gB)
        have HS := Lib.hid lB
        have HL := Lib.hid (HL.out.grew gB)
        refine wpAnyH_cast (fuel' := 5) (l' := #[true, true, true, true, true, true, true, true, true, true, true, true, true, true, true, true, true, true, true, true, true, true, true, false, true, true, true, true, false, true, true, false, false, false]) (by kernel_rfl) (by kernel_rfl) ?_
        exact make_tail _ _ V _ x0 x1 x2 x3 a b Bx AL cL (by simp [ev_ne, ev_self, sz_put, e59, e62, e64, e66, e69, e71, e73, e75, e83, e85, e88, e76, e78, e79, hsz2]) (by simp [ev_ne, ev_self, sz_put, e59, e62, e64, e66, e69, e71, e73, e75, e83, e85, e88, e76, e78, e79, hsz2]) (by simp [ev_ne, ev_self, sz_put, e59, e62, e64, e66, e69, e71, e73, e75, e83, e85, e88, e76, e78, e79, hsz2]) (by simp [ev_ne, ev_self, sz_put, e59, e62, e64, e66, e69, e71, e73, e75, e83, e85, e88, e76, e78, e79, hsz2]) (by simp [ev_ne, ev_self, sz_put, e59, e62, e64, e66, e69, e71, e73, e75, e83, e85, e88, e76, e78, e79, hsz2]) (by simp [ev_ne, ev_self, sz_put, e59, e62, e64, e66, e69, e71, e73, e75, e83, e85, e88, e76, e78, e79, hsz2]) (by simp [ev_ne, ev_self, sz_put, e59, e62, e64, e66, e69, e71, e73, e75, e83, e85, e88, e76, e78, e79, hsz2]) (by simp [ev_ne, ev_self, sz_put, e59, e62, e64, e66, e69, e71, e73, e75, e83, e85, e88, e76, e78, e79, hsz2]) HL HS HAV HBV GB (Lib.hid fun a' W9 h => ⟨rfl, HQ.out Bx AL cL a' W9 h⟩)
      · refine wp_build2H (f := a) (g := b) rfl rfl (by simp [ev_ne, ev_self, sz_put, e59, e62, e64, e66, e69, e71, e73, e75, e83, e85, e88, e76, e78, e79, hsz2]) (by simp [ev_ne, ev_self, sz_put, e59, e62, e64, e66, e69, e71, e73, e75, e83, e85, e88, e76, e78, e79, hsz2]) (fun Bx WB lB gB _ => hK.out _ _ (grew_trans G2.out gB) (fun _ => ?_))
        clear hK K
        rw [d4_4_22]
        have GB := Lib.hid (grew_trans G2.out gB)
        have HS := Lib.hid lB
        refine wpAnyH_ready (rs := [19]) (by kernel_rfl) (by simp) ?_
        refine AllReadyH.cons h4_4_19 (fun K hK => ?_) AllReadyH.nil
        refine wp_callH rfl rfl enter_List (vs := #[.int .i64 x0, .int .i64 x1, .int .i64 x2, .int .i64 x3, a.val]) (by simp [ev_ne, ev_self, sz_put, e59, e62, e64, e66, e69, e71, e73, e75, e83, e85, e88, e76, e78, e79, hsz2]) ?_
        refine (list_any _ x0 x1 x2 x3 a (HAV.out.grew GB.out)).mono ?_
        rintro e w2 ⟨AL, cL, rfl, hL, g2, _⟩
        have G3 := Lib.hid (grew_trans GB.out g2)
        have HS := Lib.hid (HS.out.grew g2)
        have HL := Lib.hid hL
        refine ⟨_, rfl, hK.out _ _ G3.out (fun _ => ?_)⟩
        clear hK K
        rw [d4_4_19]
        rw [comm80_2]
        refine wpAnyH_cast (fuel' := 5) (l' := #[true, true, true, true, true, true, true, true, true, true, true, true, true, true, true, true, true, true, true, true, true, true, true, false, true, true, true, true, false, true, true, false, false, false]) (by kernel_rfl) (by kernel_rfl) ?_
        exact make_tail _ _ V _ x0 x1 x2 x3 a b Bx AL cL (by simp [ev_ne, ev_self, sz_put, e59, e62, e64, e66, e69, e71, e73, e75, e83, e85, e88, e76, e78, e79, hsz2]) (by simp [ev_ne, ev_self, sz_put, e59, e62, e64, e66, e69, e71, e73, e75, e83, e85, e88, e76, e78, e79, hsz2]) (by simp [ev_ne, ev_self, sz_put, e59, e62, e64, e66, e69, e71, e73, e75, e83, e85, e88, e76, e78, e79, hsz2]) (by simp [ev_ne, ev_self, sz_put, e59, e62, e64, e66, e69, e71, e73, e75, e83, e85, e88, e76, e78, e79, hsz2]) (by simp [ev_ne, ev_self, sz_put, e59, e62, e64, e66, e69, e71, e73, e75, e83, e85, e88, e76, e78, e79, hsz2]) (by simp [ev_ne, ev_self, sz_put, e59, e62, e64, e66, e69, e71, e73, e75, e83, e85, e88, e76, e78, e79, hsz2]) (by simp [ev_ne, ev_self, sz_put, e59, e62, e64, e66, e69, e71, e73, e75, e83, e85, e88, e76, e78, e79, hsz2]) (by simp [ev_ne, ev_self, sz_put, e59, e62, e64, e66, e69, e71, e73, e75, e83, e85, e88, e76, e78, e79, hsz2]) HL HS HAV HBV G3 (Lib.hid fun a' W9 h => ⟨rfl, HQ.out Bx AL cL a' W9 h⟩)
    · refine wp_build2H (f := a) (g := b) rfl rfl (by simp [ev_ne, ev_self, sz_put, e59, e62, e64, e66, e69, e71, e73, e75, e83, e85, e88, e76, e78, e79, hsz2]) (by simp [ev_ne, ev_self, sz_put, e59, e62, e64, e66, e69, e71, e73, e75, e83, e85, e88, e76, e78, e79, hsz2]) (fun Bx WB lB gB _ => hK.out _ _ (grew_trans G1.out gB) (fun _ => ?_))
      clear hK K
      rw [d4_4_22]
      have GB := Lib.hid (grew_trans G1.out gB)
      have HS := Lib.hid lB
      refine wpAnyH_ready (rs := [9]) (by kernel_rfl) (by simp) ?_
      refine AllReadyH.cons h4_4_9 (fun K hK => ?_) AllReadyH.nil
      refine wp_callH rfl rfl enter_Opaque (vs := #[.int .i64 x0, .int .i64 x1, .int .i64 x2]) (by simp [ev_ne, ev_self, sz_put, e59, e62, e64, e66, e69, e71, e73, e75, e83, e85, e88, e76, e78, e79, hsz2]) ?_
      refine (opaque_any _ x0 x1 x2).mono ?_
      rintro e w1 ⟨rfl, g1⟩
      have G2 := Lib.hid (grew_trans GB.out g1)
      have HS := Lib.hid (HS.out.grew g1)
      refine ⟨_, rfl, hK.out _ _ G2.out (fun _ => ?_)⟩
      clear hK K
      rw [d4_4_9]
      refine wpAnyH_ready (rs := [19]) (by kernel_rfl) (by simp) ?_
      refine AllReadyH.cons h4_4_19 (fun K hK => ?_) AllReadyH.nil
      refine wp_callH rfl rfl enter_List (vs := #[.int .i64 x0, .int .i64 x1, .int .i64 x2, .int .i64 x3, a.val]) (by simp [ev_ne, ev_self, sz_put, e59, e62, e64, e66, e69, e71, e73, e75, e83, e85, e88, e76, e78, e79, hsz2]) ?_
      refine (list_any _ x0 x1 x2 x3 a (HAV.out.grew G2.out)).mono ?_
      rintro e w2 ⟨AL, cL, rfl, hL, g2, _⟩
      have G3 := Lib.hid (grew_trans G2.out g2)
      have HS := Lib.hid (HS.out.grew g2)
      have HL := Lib.hid hL
      refine ⟨_, rfl, hK.out _ _ G3.out (fun _ => ?_)⟩
      clear hK K
      rw [d4_4_19]
      rw [comm80_1]
      refine wpAnyH_cast (fuel' := 5) (l' := #[true, true, true, true, true, true, true, true, true, true, true, true, true, true, true, true, true, true, true, true, true, true, true, false, true, true, true, true, false, true, true, false, false, false]) (by kernel_rfl) (by kernel_rfl) ?_
      exact make_tail _ _ V _ x0 x1 x2 x3 a b Bx AL cL (by simp [ev_ne, ev_self, sz_put, e59, e62, e64, e66, e69, e71, e73, e75, e83, e85, e88, e76, e78, e79, hsz2]) (by simp [ev_ne, ev_self, sz_put, e59, e62, e64, e66, e69, e71, e73, e75, e83, e85, e88, e76, e78, e79, hsz2]) (by simp [ev_ne, ev_self, sz_put, e59, e62, e64, e66, e69, e71, e73, e75, e83, e85, e88, e76, e78, e79, hsz2]) (by simp [ev_ne, ev_self, sz_put, e59, e62, e64, e66, e69, e71, e73, e75, e83, e85, e88, e76, e78, e79, hsz2]) (by simp [ev_ne, ev_self, sz_put, e59, e62, e64, e66, e69, e71, e73, e75, e83, e85, e88, e76, e78, e79, hsz2]) (by simp [ev_ne, ev_self, sz_put, e59, e62, e64, e66, e69, e71, e73, e75, e83, e85, e88, e76, e78, e79, hsz2]) (by simp [ev_ne, ev_self, sz_put, e59, e62, e64, e66, e69, e71, e73, e75, e83, e85, e88, e76, e78, e79, hsz2]) (by simp [ev_ne, ev_self, sz_put, e59, e62, e64, e66, e69, e71, e73, e75, e83, e85, e88, e76, e78, e79, hsz2]) HL HS HAV HBV G3 (Lib.hid fun a' W9 h => ⟨rfl, HQ.out Bx AL cL a' W9 h⟩)
  · refine wp_build2H (f := a) (g := b) rfl rfl (by simp [ev_ne, ev_self, sz_put, e59, e62, e64, e66, e69, e71, e73, e75, e83, e85, e88, e76, e78, e79, hsz2]) (by simp [ev_ne, ev_self, sz_put, e59, e62, e64, e66, e69, e71, e73, e75, e83, e85, e88, e76, e78, e79, hsz2]) (fun Bx WB lB gB _ => hK.out _ _ (grew_trans G0.out gB) (fun _ => ?_))
    clear hK K
    rw [d4_4_22]
    have GB := Lib.hid (grew_trans G0.out gB)
    have HS := Lib.hid lB
    refine wpAnyH_ready (rs := [2]) (by kernel_rfl) (by simp) ?_
    refine AllReadyH.cons h4_4_2 (fun K hK => ?_) AllReadyH.nil
    refine wp_callH rfl rfl enter_Number (vs := #[.int .i64 x0]) (by simp [ev_ne, ev_self, sz_put, e59, e62, e64, e66, e69, e71, e73, e75, e83, e85, e88, e76, e78, e79, hsz2]) ?_
    refine (number_any _ x0).mono ?_
    rintro e w0 ⟨rfl, g0⟩
    have G1 := Lib.hid (grew_trans GB.out g0)
    have HS := Lib.hid (HS.out.grew g0)
    refine ⟨_, rfl, hK.out _ _ G1.out (fun _ => ?_)⟩
    clear hK K
    rw [d4_4_2]
    refine wpAnyH_ready (rs := [9]) (by kernel_rfl) (by simp) ?_
    refine AllReadyH.cons h4_4_9 (fun K hK => ?_) AllReadyH.nil
    refine wp_callH rfl rfl enter_Opaque (vs := #[.int .i64 x0, .int .i64 x1, .int .i64 x2]) (by simp [ev_ne, ev_self, sz_put, e59, e62, e64, e66, e69, e71, e73, e75, e83, e85, e88, e76, e78, e79, hsz2]) ?_
    refine (opaque_any _ x0 x1 x2).mono ?_
    rintro e w1 ⟨rfl, g1⟩
    have G2 := Lib.hid (grew_trans G1.out g1)
    have HS := Lib.hid (HS.out.grew g1)
    refine ⟨_, rfl, hK.out _ _ G2.out (fun _ => ?_)⟩
    clear hK K
    rw [d4_4_9]
    refine wpAnyH_ready (rs := [19]) (by kernel_rfl) (by simp) ?_
    refine AllReadyH.cons h4_4_19 (fun K hK => ?_) AllReadyH.nil
    refine wp_callH rfl rfl enter_List (vs := #[.int .i64 x0, .int .i64 x1, .int .i64 x2, .int .i64 x3, a.val]) (by simp [ev_ne, ev_self, sz_put, e59, e62, e64, e66, e69, e71, e73, e75, e83, e85, e88, e76, e78, e79, hsz2]) ?_
    refine (list_any _ x0 x1 x2 x3 a (HAV.out.grew G2.out)).mono ?_
    rintro e w2 ⟨AL, cL, rfl, hL, g2, _⟩
    have G3 := Lib.hid (grew_trans G2.out g2)
    have HS := Lib.hid (HS.out.grew g2)
    have HL := Lib.hid hL
    refine ⟨_, rfl, hK.out _ _ G3.out (fun _ => ?_)⟩
    clear hK K
    rw [d4_4_19]
    rw [comm80_0]
    refine wpAnyH_cast (fuel' := 5) (l' := #[true, true, true, true, true, true, true, true, true, true, true, true, true, true, true, true, true, true, true, true, true, true, true, false, true, true, true, true, false, true, true, false, false, false]) (by kernel_rfl) (by kernel_rfl) ?_
    exact make_tail _ _ V _ x0 x1 x2 x3 a b Bx AL cL (by simp [ev_ne, ev_self, sz_put, e59, e62, e64, e66, e69, e71, e73, e75, e83, e85, e88, e76, e78, e79, hsz2]) (by simp [ev_ne, ev_self, sz_put, e59, e62, e64, e66, e69, e71, e73, e75, e83, e85, e88, e76, e78, e79, hsz2]) (by simp [ev_ne, ev_self, sz_put, e59, e62, e64, e66, e69, e71, e73, e75, e83, e85, e88, e76, e78, e79, hsz2]) (by simp [ev_ne, ev_self, sz_put, e59, e62, e64, e66, e69, e71, e73, e75, e83, e85, e88, e76, e78, e79, hsz2]) (by simp [ev_ne, ev_self, sz_put, e59, e62, e64, e66, e69, e71, e73, e75, e83, e85, e88, e76, e78, e79, hsz2]) (by simp [ev_ne, ev_self, sz_put, e59, e62, e64, e66, e69, e71, e73, e75, e83, e85, e88, e76, e78, e79, hsz2]) (by simp [ev_ne, ev_self, sz_put, e59, e62, e64, e66, e69, e71, e73, e75, e83, e85, e88, e76, e78, e79, hsz2]) (by simp [ev_ne, ev_self, sz_put, e59, e62, e64, e66, e69, e71, e73, e75, e83, e85, e88, e76, e78, e79, hsz2]) HL HS HAV HBV G3 (Lib.hid fun a' W9 h => ⟨rfl, HQ.out Bx AL cL a' W9 h⟩)
end Go.Proofs.Ytlehehibfpbhmaa

