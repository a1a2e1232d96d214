/- The types that this program's operations name, as a table, held against the program. -/
import Derived.Test.YtcfkmkabjalgjabShU
import Derived.Test.YtcfkmkabjalgjabChecked
namespace Go.Proofs.Ytcfkmkabjalgjab
set_option linter.unusedVariables false
set_option linter.unusedSimpArgs false
open Go.Proofs.Ytcfkmkabjalgjab.Sh
def TL : List (Nat × TI) := [(2, ⟨1, 8, .int .i64, [.int .i64 0], false⟩),
  (3, ⟨1, 8, .int .i64, [.int .i64 0], false⟩),
  (4, ⟨1, 1, .bool, [.bool false], false⟩),
  (5, ⟨1, 1, .int .u8, [.int .u8 0], false⟩),
  (6, ⟨1, 1, .int .u8, [.int .u8 0], false⟩),
  (7, ⟨4, 24, .struct [(0, 2), (1, 3), (2, 4), (3, 6)], [.int .i64 0, .int .i64 0, .bool false, .int .u8 0], true⟩),
  (8, ⟨4, 24, .struct [(0, 2), (1, 3), (2, 4), (3, 6)], [.int .i64 0, .int .i64 0, .bool false, .int .u8 0], true⟩),
  (9, ⟨1, 16, .str, [.string ⟨#[]⟩], false⟩),
  (10, ⟨1, 16, .str, [.string ⟨#[]⟩], false⟩),
  (11, ⟨1, 16, .str, [.string ⟨#[]⟩], false⟩),
  (12, ⟨1, 8, .int .u64, [.int .u64 0], false⟩),
  (13, ⟨2, 24, .struct [(0, 9), (1, 12)], [.string ⟨#[]⟩, .int .u64 0], false⟩),
  (14, ⟨2, 24, .struct [(0, 9), (1, 12)], [.string ⟨#[]⟩, .int .u64 0], false⟩),
  (15, ⟨1, 8, .ptr, [.pointer none], false⟩),
  (16, ⟨1, 8, .ptr, [.pointer none], false⟩),
  (17, ⟨1, 8, .ptr, [.pointer none], false⟩),
  (18, ⟨1, 8, .struct [(0, 17)], [.pointer none], false⟩),
  (19, ⟨1, 8, .struct [(0, 17)], [.pointer none], false⟩),
  (21, ⟨1, 4, .int .i32, [.int .i32 0], false⟩),
  (22, ⟨1, 24, .slice 3, [.slice none 0 0], false⟩),
  (25, ⟨1, 8, .ptr, [.pointer none], false⟩),
  (40, ⟨3, 72, .array 3 22, [.slice none 0 0, .slice none 0 0, .slice none 0 0], false⟩),
  (42, ⟨1, 24, .slice 40, [.slice none 0 0], false⟩),
  (44, ⟨1, 2, .int .u16, [.int .u16 0], false⟩),
  (46, ⟨5, 40, .struct [(0, 3), (1, 3), (2, 3), (3, 3), (4, 3)], [.int .i64 0, .int .i64 0, .int .i64 0, .int .i64 0, .int .i64 0], true⟩),
  (47, ⟨5, 40, .struct [(0, 3), (1, 3), (2, 3), (3, 3), (4, 3)], [.int .i64 0, .int .i64 0, .int .i64 0, .int .i64 0, .int .i64 0], true⟩),
  (49, ⟨1, 8, .int .i64, [.int .i64 0], false⟩),
  (53, ⟨2, 32, .struct [(0, 22), (1, 3)], [.slice none 0 0, .int .i64 0], false⟩),
  (54, ⟨2, 32, .struct [(0, 22), (1, 3)], [.slice none 0 0, .int .i64 0], false⟩),
  (59, ⟨1, 24, .slice 4, [.slice none 0 0], false⟩),
  (70, ⟨4, 40, .struct [(0, 17), (1, 17), (2, 17), (3, 9)], [.pointer none, .pointer none, .pointer none, .string ⟨#[]⟩], false⟩),
  (71, ⟨4, 40, .struct [(0, 17), (1, 17), (2, 17), (3, 9)], [.pointer none, .pointer none, .pointer none, .string ⟨#[]⟩], false⟩),
  (75, ⟨1, 4, .int .u32, [.int .u32 0], false⟩),
  (76, ⟨1, 1, .int .u8, [.int .u8 0], false⟩),
  (77, ⟨1, 1, .int .u8, [.int .u8 0], false⟩),
  (78, ⟨1, 8, .oth, [.nilFunc], false⟩),
  (79, ⟨1, 8, .ptr, [.pointer none], false⟩),
  (80, ⟨1, 4, .int .i32, [.int .i32 0], false⟩),
  (81, ⟨1, 4, .int .i32, [.int .i32 0], false⟩),
  (82, ⟨11, 48, .struct [(0, 12), (1, 12), (2, 75), (3, 76), (4, 5), (5, 5), (6, 77), (7, 78), (8, 79), (9, 80), (10, 81)], [.int .u64 0, .int .u64 0, .int .u32 0, .int .u8 0, .int .u8 0, .int .u8 0, .int .u8 0, .nilFunc, .pointer none, .int .i32 0, .int .i32 0], false⟩),
  (83, ⟨11, 48, .struct [(0, 12), (1, 12), (2, 75), (3, 76), (4, 5), (5, 5), (6, 77), (7, 78), (8, 79), (9, 80), (10, 81)], [.int .u64 0, .int .u64 0, .int .u32 0, .int .u8 0, .int .u8 0, .int .u8 0, .int .u8 0, .nilFunc, .pointer none, .int .i32 0, .int .i32 0], false⟩)]
def TT : Tab := ⟨TL, false⟩
def TW : Tab := ⟨TL, true⟩
theorem TL_ok : chkT Try.prog TL = true := by kernel_rfl
theorem TT_ok : TOk Try.prog TT := chkT_ok TL_ok
theorem TW_ok : TOk Try.prog TW := chkT_ok TL_ok
theorem TT_cl : TClosed TT = true := by kernel_rfl
theorem TW_cl : TClosed TW = true := by kernel_rfl
theorem mixed : Try.prog.follows .mixedOrders = true := by kernel_rfl
theorem l2 : slot 2 TT.ts = some ⟨1, 8, .int .i64, [.int .i64 0], false⟩ := rfl
theorem l3 : slot 3 TT.ts = some ⟨1, 8, .int .i64, [.int .i64 0], false⟩ := rfl
theorem l4 : slot 4 TT.ts = some ⟨1, 1, .bool, [.bool false], false⟩ := rfl
theorem l5 : slot 5 TT.ts = some ⟨1, 1, .int .u8, [.int .u8 0], false⟩ := rfl
theorem l6 : slot 6 TT.ts = some ⟨1, 1, .int .u8, [.int .u8 0], false⟩ := rfl
theorem l7 : slot 7 TT.ts = some ⟨4, 24, .struct [(0, 2), (1, 3), (2, 4), (3, 6)], [.int .i64 0, .int .i64 0, .bool false, .int .u8 0], true⟩ := rfl
theorem l8 : slot 8 TT.ts = some ⟨4, 24, .struct [(0, 2), (1, 3), (2, 4), (3, 6)], [.int .i64 0, .int .i64 0, .bool false, .int .u8 0], true⟩ := rfl
theorem l9 : slot 9 TT.ts = some ⟨1, 16, .str, [.string ⟨#[]⟩], false⟩ := rfl
theorem l10 : slot 10 TT.ts = some ⟨1, 16, .str, [.string ⟨#[]⟩], false⟩ := rfl
theorem l11 : slot 11 TT.ts = some ⟨1, 16, .str, [.string ⟨#[]⟩], false⟩ := rfl
theorem l12 : slot 12 TT.ts = some ⟨1, 8, .int .u64, [.int .u64 0], false⟩ := rfl
theorem l13 : slot 13 TT.ts = some ⟨2, 24, .struct [(0, 9), (1, 12)], [.string ⟨#[]⟩, .int .u64 0], false⟩ := rfl
theorem l14 : slot 14 TT.ts = some ⟨2, 24, .struct [(0, 9), (1, 12)], [.string ⟨#[]⟩, .int .u64 0], false⟩ := rfl
theorem l15 : slot 15 TT.ts = some ⟨1, 8, .ptr, [.pointer none], false⟩ := rfl
theorem l16 : slot 16 TT.ts = some ⟨1, 8, .ptr, [.pointer none], false⟩ := rfl
theorem l17 : slot 17 TT.ts = some ⟨1, 8, .ptr, [.pointer none], false⟩ := rfl
theorem l18 : slot 18 TT.ts = some ⟨1, 8, .struct [(0, 17)], [.pointer none], false⟩ := rfl
theorem l19 : slot 19 TT.ts = some ⟨1, 8, .struct [(0, 17)], [.pointer none], false⟩ := rfl
theorem l21 : slot 21 TT.ts = some ⟨1, 4, .int .i32, [.int .i32 0], false⟩ := rfl
theorem l22 : slot 22 TT.ts = some ⟨1, 24, .slice 3, [.slice none 0 0], false⟩ := rfl
theorem l25 : slot 25 TT.ts = some ⟨1, 8, .ptr, [.pointer none], false⟩ := rfl
theorem l40 : slot 40 TT.ts = some ⟨3, 72, .array 3 22, [.slice none 0 0, .slice none 0 0, .slice none 0 0], false⟩ := rfl
theorem l42 : slot 42 TT.ts = some ⟨1, 24, .slice 40, [.slice none 0 0], false⟩ := rfl
theorem l44 : slot 44 TT.ts = some ⟨1, 2, .int .u16, [.int .u16 0], false⟩ := rfl
theorem l46 : slot 46 TT.ts = some ⟨5, 40, .struct [(0, 3), (1, 3), (2, 3), (3, 3), (4, 3)], [.int .i64 0, .int .i64 0, .int .i64 0, .int .i64 0, .int .i64 0], true⟩ := rfl
theorem l47 : slot 47 TT.ts = some ⟨5, 40, .struct [(0, 3), (1, 3), (2, 3), (3, 3), (4, 3)], [.int .i64 0, .int .i64 0, .int .i64 0, .int .i64 0, .int .i64 0], true⟩ := rfl
theorem l49 : slot 49 TT.ts = some ⟨1, 8, .int .i64, [.int .i64 0], false⟩ := rfl
theorem l53 : slot 53 TT.ts = some ⟨2, 32, .struct [(0, 22), (1, 3)], [.slice none 0 0, .int .i64 0], false⟩ := rfl
theorem l54 : slot 54 TT.ts = some ⟨2, 32, .struct [(0, 22), (1, 3)], [.slice none 0 0, .int .i64 0], false⟩ := rfl
theorem l59 : slot 59 TT.ts = some ⟨1, 24, .slice 4, [.slice none 0 0], false⟩ := rfl
theorem l70 : slot 70 TT.ts = some ⟨4, 40, .struct [(0, 17), (1, 17), (2, 17), (3, 9)], [.pointer none, .pointer none, .pointer none, .string ⟨#[]⟩], false⟩ := rfl
theorem l71 : slot 71 TT.ts = some ⟨4, 40, .struct [(0, 17), (1, 17), (2, 17), (3, 9)], [.pointer none, .pointer none, .pointer none, .string ⟨#[]⟩], false⟩ := rfl
theorem l75 : slot 75 TT.ts = some ⟨1, 4, .int .u32, [.int .u32 0], false⟩ := rfl
theorem l76 : slot 76 TT.ts = some ⟨1, 1, .int .u8, [.int .u8 0], false⟩ := rfl
theorem l77 : slot 77 TT.ts = some ⟨1, 1, .int .u8, [.int .u8 0], false⟩ := rfl
theorem l78 : slot 78 TT.ts = some ⟨1, 8, .oth, [.nilFunc], false⟩ := rfl
theorem l79 : slot 79 TT.ts = some ⟨1, 8, .ptr, [.pointer none], false⟩ := rfl
theorem l80 : slot 80 TT.ts = some ⟨1, 4, .int .i32, [.int .i32 0], false⟩ := rfl
theorem l81 : slot 81 TT.ts = some ⟨1, 4, .int .i32, [.int .i32 0], false⟩ := rfl
theorem l82 : slot 82 TT.ts = some ⟨11, 48, .struct [(0, 12), (1, 12), (2, 75), (3, 76), (4, 5), (5, 5), (6, 77), (7, 78), (8, 79), (9, 80), (10, 81)], [.int .u64 0, .int .u64 0, .int .u32 0, .int .u8 0, .int .u8 0, .int .u8 0, .int .u8 0, .nilFunc, .pointer none, .int .i32 0, .int .i32 0], false⟩ := rfl
theorem l83 : slot 83 TT.ts = some ⟨11, 48, .struct [(0, 12), (1, 12), (2, 75), (3, 76), (4, 5), (5, 5), (6, 77), (7, 78), (8, 79), (9, 80), (10, 81)], [.int .u64 0, .int .u64 0, .int .u32 0, .int .u8 0, .int .u8 0, .int .u8 0, .int .u8 0, .nilFunc, .pointer none, .int .i32 0, .int .i32 0], false⟩ := rfl
theorem TT_wr : TT.wr = false := rfl
theorem wr_l : TW.wr = true := rfl
attribute [go_sem] TT_wr l2 l3 l4 l5 l6 l7 l8 l9 l10 l11 l12 l13 l14 l15 l16 l17 l18 l19 l21 l22 l25 l40 l42 l44 l46 l47 l49 l53 l54 l59 l70 l71 l75 l76 l77 l78 l79 l80 l81 l82 l83
end Go.Proofs.Ytcfkmkabjalgjab
