/- The types that this program's operations name, as a table, held against the program. -/
import Derived.Test.YtabanfgnnelfcaaShZa
import Derived.Test.YtabanfgnnelfcaaChecked
namespace Go.Proofs.Ytabanfgnnelfcaa
set_option linter.unusedVariables false
set_option linter.unusedSimpArgs false
open Go.Proofs.Ytabanfgnnelfcaa.Sh
def TL : List (Nat × TI) := [(2, ⟨1, 8, .int .i64, [.int .i64 0], false⟩),
  (3, ⟨1, 8, .int .i64, [.int .i64 0], false⟩),
  (4, ⟨1, 1, .bool, [.bool false], false⟩),
  (5, ⟨1, 1, .int .u8, [.int .u8 0], false⟩),
  (6, ⟨1, 1, .int .u8, [.int .u8 0], false⟩),
  (7, ⟨4, 24, .struct [(0, 2), (1, 3), (2, 4), (3, 6)], [.int .i64 0, .int .i64 0, .bool false, .int .u8 0], true⟩),
  (8, ⟨4, 24, .struct [(0, 2), (1, 3), (2, 4), (3, 6)], [.int .i64 0, .int .i64 0, .bool false, .int .u8 0], true⟩),
  (9, ⟨1, 16, .str, [.string ⟨#[]⟩], false⟩),
  (10, ⟨1, 16, .str, [.string ⟨#[]⟩], false⟩),
  (11, ⟨1, 16, .str, [.string ⟨#[]⟩], false⟩),
  (12, ⟨1, 8, .int .u64, [.int .u64 0], false⟩),
  (13, ⟨2, 24, .struct [(0, 9), (1, 12)], [.string ⟨#[]⟩, .int .u64 0], false⟩),
  (14, ⟨2, 24, .struct [(0, 9), (1, 12)], [.string ⟨#[]⟩, .int .u64 0], false⟩),
  (15, ⟨1, 8, .ptr, [.pointer none], false⟩),
  (16, ⟨1, 8, .ptr, [.pointer none], false⟩),
  (17, ⟨1, 8, .ptr, [.pointer none], false⟩),
  (18, ⟨1, 8, .struct [(0, 17)], [.pointer none], false⟩),
  (19, ⟨1, 8, .struct [(0, 17)], [.pointer none], false⟩),
  (21, ⟨1, 4, .int .i32, [.int .i32 0], false⟩),
  (22, ⟨1, 24, .slice 3, [.slice none 0 0], false⟩),
  (25, ⟨1, 8, .ptr, [.pointer none], false⟩),
  (27, ⟨1, 24, .slice 32, [.slice none 0 0], false⟩),
  (28, ⟨2, 32, .struct [(0, 3), (1, 27)], [.int .i64 0, .slice none 0 0], false⟩),
  (29, ⟨2, 32, .struct [(0, 3), (1, 27)], [.int .i64 0, .slice none 0 0], false⟩),
  (31, ⟨4, 32, .struct [(0, 3), (1, 3), (2, 3), (3, 4)], [.int .i64 0, .int .i64 0, .int .i64 0, .bool false], true⟩),
  (32, ⟨4, 32, .struct [(0, 3), (1, 3), (2, 3), (3, 4)], [.int .i64 0, .int .i64 0, .int .i64 0, .bool false], true⟩),
  (33, ⟨1, 8, .int .i64, [.int .i64 0], false⟩),
  (38, ⟨1, 2, .int .u16, [.int .u16 0], false⟩),
  (44, ⟨1, 24, .slice 29, [.slice none 0 0], false⟩),
  (53, ⟨1, 8, .map 3 3, [.map none], false⟩),
  (56, ⟨2, 32, .struct [(0, 22), (1, 3)], [.slice none 0 0, .int .i64 0], false⟩),
  (57, ⟨2, 32, .struct [(0, 22), (1, 3)], [.slice none 0 0, .int .i64 0], false⟩),
  (62, ⟨1, 8, .ptr, [.pointer none], false⟩),
  (78, ⟨1, 8, .int .u64, [.int .u64 0], false⟩),
  (81, ⟨4, 40, .struct [(0, 17), (1, 17), (2, 17), (3, 9)], [.pointer none, .pointer none, .pointer none, .string ⟨#[]⟩], false⟩),
  (82, ⟨4, 40, .struct [(0, 17), (1, 17), (2, 17), (3, 9)], [.pointer none, .pointer none, .pointer none, .string ⟨#[]⟩], false⟩),
  (86, ⟨1, 4, .int .u32, [.int .u32 0], false⟩),
  (87, ⟨1, 1, .int .u8, [.int .u8 0], false⟩),
  (88, ⟨1, 1, .int .u8, [.int .u8 0], false⟩),
  (89, ⟨1, 8, .oth, [.nilFunc], false⟩),
  (90, ⟨1, 8, .ptr, [.pointer none], false⟩),
  (91, ⟨1, 4, .int .i32, [.int .i32 0], false⟩),
  (92, ⟨1, 4, .int .i32, [.int .i32 0], false⟩),
  (93, ⟨11, 48, .struct [(0, 12), (1, 12), (2, 86), (3, 87), (4, 5), (5, 5), (6, 88), (7, 89), (8, 90), (9, 91), (10, 92)], [.int .u64 0, .int .u64 0, .int .u32 0, .int .u8 0, .int .u8 0, .int .u8 0, .int .u8 0, .nilFunc, .pointer none, .int .i32 0, .int .i32 0], false⟩),
  (94, ⟨11, 48, .struct [(0, 12), (1, 12), (2, 86), (3, 87), (4, 5), (5, 5), (6, 88), (7, 89), (8, 90), (9, 91), (10, 92)], [.int .u64 0, .int .u64 0, .int .u32 0, .int .u8 0, .int .u8 0, .int .u8 0, .int .u8 0, .nilFunc, .pointer none, .int .i32 0, .int .i32 0], false⟩)]
def TT : Tab := ⟨TL, false⟩
theorem TL_ok : chkT Try.prog TL = true := by kernel_rfl
theorem TT_ok : TOk Try.prog TT := chkT_ok TL_ok
theorem TT_cl : TClosed TT = true := by kernel_rfl
theorem mixed : Try.prog.follows .mixedOrders = true := by kernel_rfl
theorem l2 : slot 2 TT.ts = some ⟨1, 8, .int .i64, [.int .i64 0], false⟩ := rfl
theorem l3 : slot 3 TT.ts = some ⟨1, 8, .int .i64, [.int .i64 0], false⟩ := rfl
theorem l4 : slot 4 TT.ts = some ⟨1, 1, .bool, [.bool false], false⟩ := rfl
theorem l5 : slot 5 TT.ts = some ⟨1, 1, .int .u8, [.int .u8 0], false⟩ := rfl
theorem l6 : slot 6 TT.ts = some ⟨1, 1, .int .u8, [.int .u8 0], false⟩ := rfl
theorem l7 : slot 7 TT.ts = some ⟨4, 24, .struct [(0, 2), (1, 3), (2, 4), (3, 6)], [.int .i64 0, .int .i64 0, .bool false, .int .u8 0], true⟩ := rfl
theorem l8 : slot 8 TT.ts = some ⟨4, 24, .struct [(0, 2), (1, 3), (2, 4), (3, 6)], [.int .i64 0, .int .i64 0, .bool false, .int .u8 0], true⟩ := rfl
theorem l9 : slot 9 TT.ts = some ⟨1, 16, .str, [.string ⟨#[]⟩], false⟩ := rfl
theorem l10 : slot 10 TT.ts = some ⟨1, 16, .str, [.string ⟨#[]⟩], false⟩ := rfl
theorem l11 : slot 11 TT.ts = some ⟨1, 16, .str, [.string ⟨#[]⟩], false⟩ := rfl
theorem l12 : slot 12 TT.ts = some ⟨1, 8, .int .u64, [.int .u64 0], false⟩ := rfl
theorem l13 : slot 13 TT.ts = some ⟨2, 24, .struct [(0, 9), (1, 12)], [.string ⟨#[]⟩, .int .u64 0], false⟩ := rfl
theorem l14 : slot 14 TT.ts = some ⟨2, 24, .struct [(0, 9), (1, 12)], [.string ⟨#[]⟩, .int .u64 0], false⟩ := rfl
theorem l15 : slot 15 TT.ts = some ⟨1, 8, .ptr, [.pointer none], false⟩ := rfl
theorem l16 : slot 16 TT.ts = some ⟨1, 8, .ptr, [.pointer none], false⟩ := rfl
theorem l17 : slot 17 TT.ts = some ⟨1, 8, .ptr, [.pointer none], false⟩ := rfl
theorem l18 : slot 18 TT.ts = some ⟨1, 8, .struct [(0, 17)], [.pointer none], false⟩ := rfl
theorem l19 : slot 19 TT.ts = some ⟨1, 8, .struct [(0, 17)], [.pointer none], false⟩ := rfl
theorem l21 : slot 21 TT.ts = some ⟨1, 4, .int .i32, [.int .i32 0], false⟩ := rfl
theorem l22 : slot 22 TT.ts = some ⟨1, 24, .slice 3, [.slice none 0 0], false⟩ := rfl
theorem l25 : slot 25 TT.ts = some ⟨1, 8, .ptr, [.pointer none], false⟩ := rfl
theorem l27 : slot 27 TT.ts = some ⟨1, 24, .slice 32, [.slice none 0 0], false⟩ := rfl
theorem l28 : slot 28 TT.ts = some ⟨2, 32, .struct [(0, 3), (1, 27)], [.int .i64 0, .slice none 0 0], false⟩ := rfl
theorem l29 : slot 29 TT.ts = some ⟨2, 32, .struct [(0, 3), (1, 27)], [.int .i64 0, .slice none 0 0], false⟩ := rfl
theorem l31 : slot 31 TT.ts = some ⟨4, 32, .struct [(0, 3), (1, 3), (2, 3), (3, 4)], [.int .i64 0, .int .i64 0, .int .i64 0, .bool false], true⟩ := rfl
theorem l32 : slot 32 TT.ts = some ⟨4, 32, .struct [(0, 3), (1, 3), (2, 3), (3, 4)], [.int .i64 0, .int .i64 0, .int .i64 0, .bool false], true⟩ := rfl
theorem l33 : slot 33 TT.ts = some ⟨1, 8, .int .i64, [.int .i64 0], false⟩ := rfl
theorem l38 : slot 38 TT.ts = some ⟨1, 2, .int .u16, [.int .u16 0], false⟩ := rfl
theorem l44 : slot 44 TT.ts = some ⟨1, 24, .slice 29, [.slice none 0 0], false⟩ := rfl
theorem l53 : slot 53 TT.ts = some ⟨1, 8, .map 3 3, [.map none], false⟩ := rfl
theorem l56 : slot 56 TT.ts = some ⟨2, 32, .struct [(0, 22), (1, 3)], [.slice none 0 0, .int .i64 0], false⟩ := rfl
theorem l57 : slot 57 TT.ts = some ⟨2, 32, .struct [(0, 22), (1, 3)], [.slice none 0 0, .int .i64 0], false⟩ := rfl
theorem l62 : slot 62 TT.ts = some ⟨1, 8, .ptr, [.pointer none], false⟩ := rfl
theorem l78 : slot 78 TT.ts = some ⟨1, 8, .int .u64, [.int .u64 0], false⟩ := rfl
theorem l81 : slot 81 TT.ts = some ⟨4, 40, .struct [(0, 17), (1, 17), (2, 17), (3, 9)], [.pointer none, .pointer none, .pointer none, .string ⟨#[]⟩], false⟩ := rfl
theorem l82 : slot 82 TT.ts = some ⟨4, 40, .struct [(0, 17), (1, 17), (2, 17), (3, 9)], [.pointer none, .pointer none, .pointer none, .string ⟨#[]⟩], false⟩ := rfl
theorem l86 : slot 86 TT.ts = some ⟨1, 4, .int .u32, [.int .u32 0], false⟩ := rfl
theorem l87 : slot 87 TT.ts = some ⟨1, 1, .int .u8, [.int .u8 0], false⟩ := rfl
theorem l88 : slot 88 TT.ts = some ⟨1, 1, .int .u8, [.int .u8 0], false⟩ := rfl
theorem l89 : slot 89 TT.ts = some ⟨1, 8, .oth, [.nilFunc], false⟩ := rfl
theorem l90 : slot 90 TT.ts = some ⟨1, 8, .ptr, [.pointer none], false⟩ := rfl
theorem l91 : slot 91 TT.ts = some ⟨1, 4, .int .i32, [.int .i32 0], false⟩ := rfl
theorem l92 : slot 92 TT.ts = some ⟨1, 4, .int .i32, [.int .i32 0], false⟩ := rfl
theorem l93 : slot 93 TT.ts = some ⟨11, 48, .struct [(0, 12), (1, 12), (2, 86), (3, 87), (4, 5), (5, 5), (6, 88), (7, 89), (8, 90), (9, 91), (10, 92)], [.int .u64 0, .int .u64 0, .int .u32 0, .int .u8 0, .int .u8 0, .int .u8 0, .int .u8 0, .nilFunc, .pointer none, .int .i32 0, .int .i32 0], false⟩ := rfl
theorem l94 : slot 94 TT.ts = some ⟨11, 48, .struct [(0, 12), (1, 12), (2, 86), (3, 87), (4, 5), (5, 5), (6, 88), (7, 89), (8, 90), (9, 91), (10, 92)], [.int .u64 0, .int .u64 0, .int .u32 0, .int .u8 0, .int .u8 0, .int .u8 0, .int .u8 0, .nilFunc, .pointer none, .int .i32 0, .int .i32 0], false⟩ := rfl
theorem TT_wr : TT.wr = false := rfl
attribute [go_sem] TT_wr l2 l3 l4 l5 l6 l7 l8 l9 l10 l11 l12 l13 l14 l15 l16 l17 l18 l19 l21 l22 l25 l27 l28 l29 l31 l32 l33 l38 l44 l53 l56 l57 l62 l78 l81 l82 l86 l87 l88 l89 l90 l91 l92 l93 l94
end Go.Proofs.Ytabanfgnnelfcaa
