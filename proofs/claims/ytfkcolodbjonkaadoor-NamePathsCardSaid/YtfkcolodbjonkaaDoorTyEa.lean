/- The types that this program's operations name, as a table, held against the program. -/
import Derived.Test.YtfkcolodbjonkaaDoorShZa
import Derived.Test.YtfkcolodbjonkaaDoorChecked
namespace Go.Proofs.YtfkcolodbjonkaaDoor
set_option linter.unusedVariables false
set_option linter.unusedSimpArgs false
open Go.Proofs.YtfkcolodbjonkaaDoor.Sh
def TL : List (Nat × TI) := [(2, ⟨1, 8, .int .i64, [.int .i64 0], false⟩),
  (3, ⟨1, 8, .int .i64, [.int .i64 0], false⟩),
  (4, ⟨1, 1, .bool, [.bool false], false⟩),
  (5, ⟨1, 1, .int .u8, [.int .u8 0], false⟩),
  (6, ⟨1, 1, .int .u8, [.int .u8 0], false⟩),
  (7, ⟨4, 24, .struct [(0, 2), (1, 3), (2, 4), (3, 6)], [.int .i64 0, .int .i64 0, .bool false, .int .u8 0], true⟩),
  (8, ⟨4, 24, .struct [(0, 2), (1, 3), (2, 4), (3, 6)], [.int .i64 0, .int .i64 0, .bool false, .int .u8 0], true⟩),
  (9, ⟨1, 16, .str, [.string ⟨#[]⟩], false⟩),
  (10, ⟨1, 16, .str, [.string ⟨#[]⟩], false⟩),
  (11, ⟨1, 16, .str, [.string ⟨#[]⟩], false⟩),
  (12, ⟨1, 8, .int .u64, [.int .u64 0], false⟩),
  (13, ⟨2, 24, .struct [(0, 9), (1, 12)], [.string ⟨#[]⟩, .int .u64 0], false⟩),
  (14, ⟨2, 24, .struct [(0, 9), (1, 12)], [.string ⟨#[]⟩, .int .u64 0], false⟩),
  (15, ⟨1, 8, .ptr, [.pointer none], false⟩),
  (16, ⟨1, 8, .ptr, [.pointer none], false⟩),
  (17, ⟨1, 8, .ptr, [.pointer none], false⟩),
  (18, ⟨1, 8, .struct [(0, 17)], [.pointer none], false⟩),
  (19, ⟨1, 8, .struct [(0, 17)], [.pointer none], false⟩),
  (21, ⟨1, 4, .int .i32, [.int .i32 0], false⟩),
  (22, ⟨1, 24, .slice 9, [.slice none 0 0], false⟩),
  (23, ⟨1, 8, .int .i64, [.int .i64 0], false⟩),
  (31, ⟨1, 24, .slice 3, [.slice none 0 0], false⟩),
  (33, ⟨1, 8, .ptr, [.pointer none], false⟩),
  (41, ⟨1, 24, .slice 22, [.slice none 0 0], false⟩),
  (43, ⟨2, 32, .array 2 9, [.string ⟨#[]⟩, .string ⟨#[]⟩], true⟩),
  (44, ⟨1, 24, .slice 43, [.slice none 0 0], false⟩),
  (54, ⟨2, 32, .struct [(0, 31), (1, 3)], [.slice none 0 0, .int .i64 0], false⟩),
  (55, ⟨2, 32, .struct [(0, 31), (1, 3)], [.slice none 0 0, .int .i64 0], false⟩),
  (59, ⟨1, 8, .ptr, [.pointer none], false⟩),
  (60, ⟨1, 24, .slice 5, [.slice none 0 0], false⟩),
  (61, ⟨2, 32, .struct [(0, 59), (1, 60)], [.pointer none, .slice none 0 0], false⟩),
  (62, ⟨2, 32, .struct [(0, 59), (1, 60)], [.pointer none, .slice none 0 0], false⟩),
  (71, ⟨1, 8, .ptr, [.pointer none], false⟩),
  (80, ⟨1, 8, .int .u64, [.int .u64 0], false⟩),
  (81, ⟨256, 256, .array 256 5, [.int .u8 0, .int .u8 0, .int .u8 0, .int .u8 0, .int .u8 0, .int .u8 0, .int .u8 0, .int .u8 0, .int .u8 0, .int .u8 0, .int .u8 0, .int .u8 0, .int .u8 0, .int .u8 0, .int .u8 0, .int .u8 0, .int .u8 0, .int .u8 0, .int .u8 0, .int .u8 0, .int .u8 0, .int .u8 0, .int .u8 0, .int .u8 0, .int .u8 0, .int .u8 0, .int .u8 0, .int .u8 0, .int .u8 0, .int .u8 0, .int .u8 0, .int .u8 0, .int .u8 0, .int .u8 0, .int .u8 0, .int .u8 0, .int .u8 0, .int .u8 0, .int .u8 0, .int .u8 0, .int .u8 0, .int .u8 0, .int .u8 0, .int .u8 0, .int .u8 0, .int .u8 0, .int .u8 0, .int .u8 0, .int .u8 0, .int .u8 0, .int .u8 0, .int .u8 0, .int .u8 0, .int .u8 0, .int .u8 0, .int .u8 0, .int .u8 0, .int .u8 0, .int .u8 0, .int .u8 0, .int .u8 0, .int .u8 0, .int .u8 0, .int .u8 0, .int .u8 0, .int .u8 0, .int .u8 0, .int .u8 0, .int .u8 0, .int .u8 0, .int .u8 0, .int .u8 0, .int .u8 0, .int .u8 0, .int .u8 0, .int .u8 0, .int .u8 0, .int .u8 0, .int .u8 0, .int .u8 0, .int .u8 0, .int .u8 0, .int .u8 0, .int .u8 0, .int .u8 0, .int .u8 0, .int .u8 0, .int .u8 0, .int .u8 0, .int .u8 0, .int .u8 0, .int .u8 0, .int .u8 0, .int .u8 0, .int .u8 0, .int .u8 0, .int .u8 0, .int .u8 0, .int .u8 0, .int .u8 0, .int .u8 0, .int .u8 0, .int .u8 0, .int .u8 0, .int .u8 0, .int .u8 0, .int .u8 0, .int .u8 0, .int .u8 0, .int .u8 0, .int .u8 0, .int .u8 0, .int .u8 0, .int .u8 0, .int .u8 0, .int .u8 0, .int .u8 0, .int .u8 0, .int .u8 0, .int .u8 0, .int .u8 0, .int .u8 0, .int .u8 0, .int .u8 0, .int .u8 0, .int .u8 0, .int .u8 0, .int .u8 0, .int .u8 0, .int .u8 0, .int .u8 0, .int .u8 0, .int .u8 0, .int .u8 0, .int .u8 0, .int .u8 0, .int .u8 0, .int .u8 0, .int .u8 0, .int .u8 0, .int .u8 0, .int .u8 0, .int .u8 0, .int .u8 0, .int .u8 0, .int .u8 0, .int .u8 0, .int .u8 0, .int .u8 0, .int .u8 0, .int .u8 0, .int .u8 0, .int .u8 0, .int .u8 0, .int .u8 0, .int .u8 0, .int .u8 0, .int .u8 0, .int .u8 0, .int .u8 0, .int .u8 0, .int .u8 0, .int .u8 0, .int .u8 0, .int .u8 0, .int .u8 0, .int .u8 0, .int .u8 0, .int .u8 0, .int .u8 0, .int .u8 0, .int .u8 0, .int .u8 0, .int .u8 0, .int .u8 0, .int .u8 0, .int .u8 0, .int .u8 0, .int .u8 0, .int .u8 0, .int .u8 0, .int .u8 0, .int .u8 0, .int .u8 0, .int .u8 0, .int .u8 0, .int .u8 0, .int .u8 0, .int .u8 0, .int .u8 0, .int .u8 0, .int .u8 0, .int .u8 0, .int .u8 0, .int .u8 0, .int .u8 0, .int .u8 0, .int .u8 0, .int .u8 0, .int .u8 0, .int .u8 0, .int .u8 0, .int .u8 0, .int .u8 0, .int .u8 0, .int .u8 0, .int .u8 0, .int .u8 0, .int .u8 0, .int .u8 0, .int .u8 0, .int .u8 0, .int .u8 0, .int .u8 0, .int .u8 0, .int .u8 0, .int .u8 0, .int .u8 0, .int .u8 0, .int .u8 0, .int .u8 0, .int .u8 0, .int .u8 0, .int .u8 0, .int .u8 0, .int .u8 0, .int .u8 0, .int .u8 0, .int .u8 0, .int .u8 0, .int .u8 0, .int .u8 0, .int .u8 0, .int .u8 0, .int .u8 0, .int .u8 0, .int .u8 0, .int .u8 0, .int .u8 0, .int .u8 0, .int .u8 0, .int .u8 0, .int .u8 0, .int .u8 0, .int .u8 0, .int .u8 0, .int .u8 0, .int .u8 0, .int .u8 0, .int .u8 0, .int .u8 0, .int .u8 0, .int .u8 0, .int .u8 0, .int .u8 0, .int .u8 0], true⟩),
  (82, ⟨2, 2, .struct [(0, 5), (1, 5)], [.int .u8 0, .int .u8 0], true⟩),
  (83, ⟨2, 2, .struct [(0, 5), (1, 5)], [.int .u8 0, .int .u8 0], true⟩),
  (84, ⟨32, 32, .array 16 83, [.int .u8 0, .int .u8 0, .int .u8 0, .int .u8 0, .int .u8 0, .int .u8 0, .int .u8 0, .int .u8 0, .int .u8 0, .int .u8 0, .int .u8 0, .int .u8 0, .int .u8 0, .int .u8 0, .int .u8 0, .int .u8 0, .int .u8 0, .int .u8 0, .int .u8 0, .int .u8 0, .int .u8 0, .int .u8 0, .int .u8 0, .int .u8 0, .int .u8 0, .int .u8 0, .int .u8 0, .int .u8 0, .int .u8 0, .int .u8 0, .int .u8 0, .int .u8 0], true⟩),
  (85, ⟨1, 4, .int .u32, [.int .u32 0], false⟩),
  (88, ⟨4, 40, .struct [(0, 17), (1, 17), (2, 17), (3, 9)], [.pointer none, .pointer none, .pointer none, .string ⟨#[]⟩], false⟩),
  (89, ⟨4, 40, .struct [(0, 17), (1, 17), (2, 17), (3, 9)], [.pointer none, .pointer none, .pointer none, .string ⟨#[]⟩], false⟩),
  (94, ⟨1, 1, .int .u8, [.int .u8 0], false⟩),
  (95, ⟨1, 1, .int .u8, [.int .u8 0], false⟩),
  (96, ⟨1, 8, .oth, [.nilFunc], false⟩),
  (97, ⟨1, 4, .int .i32, [.int .i32 0], false⟩),
  (98, ⟨1, 4, .int .i32, [.int .i32 0], false⟩),
  (99, ⟨11, 48, .struct [(0, 12), (1, 12), (2, 85), (3, 94), (4, 5), (5, 5), (6, 95), (7, 96), (8, 71), (9, 97), (10, 98)], [.int .u64 0, .int .u64 0, .int .u32 0, .int .u8 0, .int .u8 0, .int .u8 0, .int .u8 0, .nilFunc, .pointer none, .int .i32 0, .int .i32 0], false⟩),
  (100, ⟨11, 48, .struct [(0, 12), (1, 12), (2, 85), (3, 94), (4, 5), (5, 5), (6, 95), (7, 96), (8, 71), (9, 97), (10, 98)], [.int .u64 0, .int .u64 0, .int .u32 0, .int .u8 0, .int .u8 0, .int .u8 0, .int .u8 0, .nilFunc, .pointer none, .int .i32 0, .int .i32 0], false⟩)]
def TT : Tab := ⟨TL, false⟩
theorem TL_ok : chkT Tryd.prog TL = true := by kernel_rfl
theorem TT_ok : TOk Tryd.prog TT := chkT_ok TL_ok
theorem TT_cl : TClosed TT = true := by kernel_rfl
theorem mixed : Tryd.prog.follows .mixedOrders = true := by kernel_rfl
theorem l2 : slot 2 TT.ts = some ⟨1, 8, .int .i64, [.int .i64 0], false⟩ := rfl
theorem l3 : slot 3 TT.ts = some ⟨1, 8, .int .i64, [.int .i64 0], false⟩ := rfl
theorem l4 : slot 4 TT.ts = some ⟨1, 1, .bool, [.bool false], false⟩ := rfl
theorem l5 : slot 5 TT.ts = some ⟨1, 1, .int .u8, [.int .u8 0], false⟩ := rfl
theorem l6 : slot 6 TT.ts = some ⟨1, 1, .int .u8, [.int .u8 0], false⟩ := rfl
theorem l7 : slot 7 TT.ts = some ⟨4, 24, .struct [(0, 2), (1, 3), (2, 4), (3, 6)], [.int .i64 0, .int .i64 0, .bool false, .int .u8 0], true⟩ := rfl
theorem l8 : slot 8 TT.ts = some ⟨4, 24, .struct [(0, 2), (1, 3), (2, 4), (3, 6)], [.int .i64 0, .int .i64 0, .bool false, .int .u8 0], true⟩ := rfl
theorem l9 : slot 9 TT.ts = some ⟨1, 16, .str, [.string ⟨#[]⟩], false⟩ := rfl
theorem l10 : slot 10 TT.ts = some ⟨1, 16, .str, [.string ⟨#[]⟩], false⟩ := rfl
theorem l11 : slot 11 TT.ts = some ⟨1, 16, .str, [.string ⟨#[]⟩], false⟩ := rfl
theorem l12 : slot 12 TT.ts = some ⟨1, 8, .int .u64, [.int .u64 0], false⟩ := rfl
theorem l13 : slot 13 TT.ts = some ⟨2, 24, .struct [(0, 9), (1, 12)], [.string ⟨#[]⟩, .int .u64 0], false⟩ := rfl
theorem l14 : slot 14 TT.ts = some ⟨2, 24, .struct [(0, 9), (1, 12)], [.string ⟨#[]⟩, .int .u64 0], false⟩ := rfl
theorem l15 : slot 15 TT.ts = some ⟨1, 8, .ptr, [.pointer none], false⟩ := rfl
theorem l16 : slot 16 TT.ts = some ⟨1, 8, .ptr, [.pointer none], false⟩ := rfl
theorem l17 : slot 17 TT.ts = some ⟨1, 8, .ptr, [.pointer none], false⟩ := rfl
theorem l18 : slot 18 TT.ts = some ⟨1, 8, .struct [(0, 17)], [.pointer none], false⟩ := rfl
theorem l19 : slot 19 TT.ts = some ⟨1, 8, .struct [(0, 17)], [.pointer none], false⟩ := rfl
theorem l21 : slot 21 TT.ts = some ⟨1, 4, .int .i32, [.int .i32 0], false⟩ := rfl
theorem l22 : slot 22 TT.ts = some ⟨1, 24, .slice 9, [.slice none 0 0], false⟩ := rfl
theorem l23 : slot 23 TT.ts = some ⟨1, 8, .int .i64, [.int .i64 0], false⟩ := rfl
theorem l31 : slot 31 TT.ts = some ⟨1, 24, .slice 3, [.slice none 0 0], false⟩ := rfl
theorem l33 : slot 33 TT.ts = some ⟨1, 8, .ptr, [.pointer none], false⟩ := rfl
theorem l41 : slot 41 TT.ts = some ⟨1, 24, .slice 22, [.slice none 0 0], false⟩ := rfl
theorem l43 : slot 43 TT.ts = some ⟨2, 32, .array 2 9, [.string ⟨#[]⟩, .string ⟨#[]⟩], true⟩ := rfl
theorem l44 : slot 44 TT.ts = some ⟨1, 24, .slice 43, [.slice none 0 0], false⟩ := rfl
theorem l54 : slot 54 TT.ts = some ⟨2, 32, .struct [(0, 31), (1, 3)], [.slice none 0 0, .int .i64 0], false⟩ := rfl
theorem l55 : slot 55 TT.ts = some ⟨2, 32, .struct [(0, 31), (1, 3)], [.slice none 0 0, .int .i64 0], false⟩ := rfl
theorem l59 : slot 59 TT.ts = some ⟨1, 8, .ptr, [.pointer none], false⟩ := rfl
theorem l60 : slot 60 TT.ts = some ⟨1, 24, .slice 5, [.slice none 0 0], false⟩ := rfl
theorem l61 : slot 61 TT.ts = some ⟨2, 32, .struct [(0, 59), (1, 60)], [.pointer none, .slice none 0 0], false⟩ := rfl
theorem l62 : slot 62 TT.ts = some ⟨2, 32, .struct [(0, 59), (1, 60)], [.pointer none, .slice none 0 0], false⟩ := rfl
theorem l71 : slot 71 TT.ts = some ⟨1, 8, .ptr, [.pointer none], false⟩ := rfl
theorem l80 : slot 80 TT.ts = some ⟨1, 8, .int .u64, [.int .u64 0], false⟩ := rfl
theorem l81 : slot 81 TT.ts = some ⟨256, 256, .array 256 5, [.int .u8 0, .int .u8 0, .int .u8 0, .int .u8 0, .int .u8 0, .int .u8 0, .int .u8 0, .int .u8 0, .int .u8 0, .int .u8 0, .int .u8 0, .int .u8 0, .int .u8 0, .int .u8 0, .int .u8 0, .int .u8 0, .int .u8 0, .int .u8 0, .int .u8 0, .int .u8 0, .int .u8 0, .int .u8 0, .int .u8 0, .int .u8 0, .int .u8 0, .int .u8 0, .int .u8 0, .int .u8 0, .int .u8 0, .int .u8 0, .int .u8 0, .int .u8 0, .int .u8 0, .int .u8 0, .int .u8 0, .int .u8 0, .int .u8 0, .int .u8 0, .int .u8 0, .int .u8 0, .int .u8 0, .int .u8 0, .int .u8 0, .int .u8 0, .int .u8 0, .int .u8 0, .int .u8 0, .int .u8 0, .int .u8 0, .int .u8 0, .int .u8 0, .int .u8 0, .int .u8 0, .int .u8 0, .int .u8 0, .int .u8 0, .int .u8 0, .int .u8 0, .int .u8 0, .int .u8 0, .int .u8 0, .int .u8 0, .int .u8 0, .int .u8 0, .int .u8 0, .int .u8 0, .int .u8 0, .int .u8 0, .int .u8 0, .int .u8 0, .int .u8 0, .int .u8 0, .int .u8 0, .int .u8 0, .int .u8 0, .int .u8 0, .int .u8 0, .int .u8 0, .int .u8 0, .int .u8 0, .int .u8 0, .int .u8 0, .int .u8 0, .int .u8 0, .int .u8 0, .int .u8 0, .int .u8 0, .int .u8 0, .int .u8 0, .int .u8 0, .int .u8 0, .int .u8 0, .int .u8 0, .int .u8 0, .int .u8 0, .int .u8 0, .int .u8 0, .int .u8 0, .int .u8 0, .int .u8 0, .int .u8 0, .int .u8 0, .int .u8 0, .int .u8 0, .int .u8 0, .int .u8 0, .int .u8 0, .int .u8 0, .int .u8 0, .int .u8 0, .int .u8 0, .int .u8 0, .int .u8 0, .int .u8 0, .int .u8 0, .int .u8 0, .int .u8 0, .int .u8 0, .int .u8 0, .int .u8 0, .int .u8 0, .int .u8 0, .int .u8 0, .int .u8 0, .int .u8 0, .int .u8 0, .int .u8 0, .int .u8 0, .int .u8 0, .int .u8 0, .int .u8 0, .int .u8 0, .int .u8 0, .int .u8 0, .int .u8 0, .int .u8 0, .int .u8 0, .int .u8 0, .int .u8 0, .int .u8 0, .int .u8 0, .int .u8 0, .int .u8 0, .int .u8 0, .int .u8 0, .int .u8 0, .int .u8 0, .int .u8 0, .int .u8 0, .int .u8 0, .int .u8 0, .int .u8 0, .int .u8 0, .int .u8 0, .int .u8 0, .int .u8 0, .int .u8 0, .int .u8 0, .int .u8 0, .int .u8 0, .int .u8 0, .int .u8 0, .int .u8 0, .int .u8 0, .int .u8 0, .int .u8 0, .int .u8 0, .int .u8 0, .int .u8 0, .int .u8 0, .int .u8 0, .int .u8 0, .int .u8 0, .int .u8 0, .int .u8 0, .int .u8 0, .int .u8 0, .int .u8 0, .int .u8 0, .int .u8 0, .int .u8 0, .int .u8 0, .int .u8 0, .int .u8 0, .int .u8 0, .int .u8 0, .int .u8 0, .int .u8 0, .int .u8 0, .int .u8 0, .int .u8 0, .int .u8 0, .int .u8 0, .int .u8 0, .int .u8 0, .int .u8 0, .int .u8 0, .int .u8 0, .int .u8 0, .int .u8 0, .int .u8 0, .int .u8 0, .int .u8 0, .int .u8 0, .int .u8 0, .int .u8 0, .int .u8 0, .int .u8 0, .int .u8 0, .int .u8 0, .int .u8 0, .int .u8 0, .int .u8 0, .int .u8 0, .int .u8 0, .int .u8 0, .int .u8 0, .int .u8 0, .int .u8 0, .int .u8 0, .int .u8 0, .int .u8 0, .int .u8 0, .int .u8 0, .int .u8 0, .int .u8 0, .int .u8 0, .int .u8 0, .int .u8 0, .int .u8 0, .int .u8 0, .int .u8 0, .int .u8 0, .int .u8 0, .int .u8 0, .int .u8 0, .int .u8 0, .int .u8 0, .int .u8 0, .int .u8 0, .int .u8 0, .int .u8 0, .int .u8 0, .int .u8 0, .int .u8 0, .int .u8 0, .int .u8 0, .int .u8 0, .int .u8 0, .int .u8 0, .int .u8 0, .int .u8 0, .int .u8 0, .int .u8 0, .int .u8 0, .int .u8 0], true⟩ := rfl
theorem l82 : slot 82 TT.ts = some ⟨2, 2, .struct [(0, 5), (1, 5)], [.int .u8 0, .int .u8 0], true⟩ := rfl
theorem l83 : slot 83 TT.ts = some ⟨2, 2, .struct [(0, 5), (1, 5)], [.int .u8 0, .int .u8 0], true⟩ := rfl
theorem l84 : slot 84 TT.ts = some ⟨32, 32, .array 16 83, [.int .u8 0, .int .u8 0, .int .u8 0, .int .u8 0, .int .u8 0, .int .u8 0, .int .u8 0, .int .u8 0, .int .u8 0, .int .u8 0, .int .u8 0, .int .u8 0, .int .u8 0, .int .u8 0, .int .u8 0, .int .u8 0, .int .u8 0, .int .u8 0, .int .u8 0, .int .u8 0, .int .u8 0, .int .u8 0, .int .u8 0, .int .u8 0, .int .u8 0, .int .u8 0, .int .u8 0, .int .u8 0, .int .u8 0, .int .u8 0, .int .u8 0, .int .u8 0], true⟩ := rfl
theorem l85 : slot 85 TT.ts = some ⟨1, 4, .int .u32, [.int .u32 0], false⟩ := rfl
theorem l88 : slot 88 TT.ts = some ⟨4, 40, .struct [(0, 17), (1, 17), (2, 17), (3, 9)], [.pointer none, .pointer none, .pointer none, .string ⟨#[]⟩], false⟩ := rfl
theorem l89 : slot 89 TT.ts = some ⟨4, 40, .struct [(0, 17), (1, 17), (2, 17), (3, 9)], [.pointer none, .pointer none, .pointer none, .string ⟨#[]⟩], false⟩ := rfl
theorem l94 : slot 94 TT.ts = some ⟨1, 1, .int .u8, [.int .u8 0], false⟩ := rfl
theorem l95 : slot 95 TT.ts = some ⟨1, 1, .int .u8, [.int .u8 0], false⟩ := rfl
theorem l96 : slot 96 TT.ts = some ⟨1, 8, .oth, [.nilFunc], false⟩ := rfl
theorem l97 : slot 97 TT.ts = some ⟨1, 4, .int .i32, [.int .i32 0], false⟩ := rfl
theorem l98 : slot 98 TT.ts = some ⟨1, 4, .int .i32, [.int .i32 0], false⟩ := rfl
theorem l99 : slot 99 TT.ts = some ⟨11, 48, .struct [(0, 12), (1, 12), (2, 85), (3, 94), (4, 5), (5, 5), (6, 95), (7, 96), (8, 71), (9, 97), (10, 98)], [.int .u64 0, .int .u64 0, .int .u32 0, .int .u8 0, .int .u8 0, .int .u8 0, .int .u8 0, .nilFunc, .pointer none, .int .i32 0, .int .i32 0], false⟩ := rfl
theorem l100 : slot 100 TT.ts = some ⟨11, 48, .struct [(0, 12), (1, 12), (2, 85), (3, 94), (4, 5), (5, 5), (6, 95), (7, 96), (8, 71), (9, 97), (10, 98)], [.int .u64 0, .int .u64 0, .int .u32 0, .int .u8 0, .int .u8 0, .int .u8 0, .int .u8 0, .nilFunc, .pointer none, .int .i32 0, .int .i32 0], false⟩ := rfl
theorem TT_wr : TT.wr = false := rfl
attribute [go_sem] TT_wr l2 l3 l4 l5 l6 l7 l8 l9 l10 l11 l12 l13 l14 l15 l16 l17 l18 l19 l21 l22 l23 l31 l33 l41 l43 l44 l54 l55 l59 l60 l61 l62 l71 l80 l81 l82 l83 l84 l85 l88 l89 l94 l95 l96 l97 l98 l99 l100
end Go.Proofs.YtfkcolodbjonkaaDoor
