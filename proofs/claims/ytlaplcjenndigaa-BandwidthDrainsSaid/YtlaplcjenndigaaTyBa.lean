/- The types that this program's operations name, as a table, held against the program. -/
import Derived.Test.YtlaplcjenndigaaShY
import Derived.Test.YtlaplcjenndigaaChecked
namespace Go.Proofs.Ytlaplcjenndigaa
set_option linter.unusedVariables false
set_option linter.unusedSimpArgs false
open Go.Proofs.Ytlaplcjenndigaa.Sh
def TL : List (Nat × TI) := [(2, ⟨1, 8, .int .i64, [.int .i64 0], false⟩),
  (3, ⟨1, 8, .int .i64, [.int .i64 0], false⟩),
  (4, ⟨1, 1, .bool, [.bool false], false⟩),
  (5, ⟨1, 1, .int .u8, [.int .u8 0], false⟩),
  (6, ⟨1, 1, .int .u8, [.int .u8 0], false⟩),
  (7, ⟨4, 24, .struct [(0, 2), (1, 3), (2, 4), (3, 6)], [.int .i64 0, .int .i64 0, .bool false, .int .u8 0], true⟩),
  (8, ⟨4, 24, .struct [(0, 2), (1, 3), (2, 4), (3, 6)], [.int .i64 0, .int .i64 0, .bool false, .int .u8 0], true⟩),
  (9, ⟨1, 16, .str, [.string ⟨#[]⟩], false⟩),
  (10, ⟨1, 16, .str, [.string ⟨#[]⟩], false⟩),
  (11, ⟨1, 16, .str, [.string ⟨#[]⟩], false⟩),
  (12, ⟨1, 8, .int .u64, [.int .u64 0], false⟩),
  (13, ⟨2, 24, .struct [(0, 9), (1, 12)], [.string ⟨#[]⟩, .int .u64 0], false⟩),
  (14, ⟨2, 24, .struct [(0, 9), (1, 12)], [.string ⟨#[]⟩, .int .u64 0], false⟩),
  (15, ⟨1, 8, .ptr, [.pointer none], false⟩),
  (16, ⟨1, 8, .ptr, [.pointer none], false⟩),
  (17, ⟨1, 8, .ptr, [.pointer none], false⟩),
  (18, ⟨1, 8, .struct [(0, 17)], [.pointer none], false⟩),
  (19, ⟨1, 8, .struct [(0, 17)], [.pointer none], false⟩),
  (21, ⟨1, 4, .int .i32, [.int .i32 0], false⟩),
  (22, ⟨1, 24, .slice 3, [.slice none 0 0], false⟩),
  (25, ⟨10, 96, .struct [(0, 3), (1, 3), (2, 3), (3, 3), (4, 3), (5, 22), (6, 3), (7, 3), (8, 3), (9, 4)], [.int .i64 0, .int .i64 0, .int .i64 0, .int .i64 0, .int .i64 0, .slice none 0 0, .int .i64 0, .int .i64 0, .int .i64 0, .bool false], false⟩),
  (26, ⟨10, 96, .struct [(0, 3), (1, 3), (2, 3), (3, 3), (4, 3), (5, 22), (6, 3), (7, 3), (8, 3), (9, 4)], [.int .i64 0, .int .i64 0, .int .i64 0, .int .i64 0, .int .i64 0, .slice none 0 0, .int .i64 0, .int .i64 0, .int .i64 0, .bool false], false⟩),
  (27, ⟨1, 8, .ptr, [.pointer none], false⟩),
  (30, ⟨1, 8, .int .i64, [.int .i64 0], false⟩),
  (40, ⟨1, 24, .slice 26, [.slice none 0 0], false⟩),
  (42, ⟨2, 16, .array 2 3, [.int .i64 0, .int .i64 0], true⟩),
  (43, ⟨1, 24, .slice 42, [.slice none 0 0], false⟩),
  (48, ⟨2, 32, .struct [(0, 22), (1, 3)], [.slice none 0 0, .int .i64 0], false⟩),
  (49, ⟨2, 32, .struct [(0, 22), (1, 3)], [.slice none 0 0, .int .i64 0], false⟩),
  (54, ⟨1, 8, .ptr, [.pointer none], false⟩),
  (61, ⟨4, 40, .struct [(0, 17), (1, 17), (2, 17), (3, 9)], [.pointer none, .pointer none, .pointer none, .string ⟨#[]⟩], false⟩),
  (62, ⟨4, 40, .struct [(0, 17), (1, 17), (2, 17), (3, 9)], [.pointer none, .pointer none, .pointer none, .string ⟨#[]⟩], false⟩),
  (67, ⟨1, 4, .int .u32, [.int .u32 0], false⟩),
  (68, ⟨1, 1, .int .u8, [.int .u8 0], false⟩),
  (69, ⟨1, 1, .int .u8, [.int .u8 0], false⟩),
  (70, ⟨1, 8, .oth, [.nilFunc], false⟩),
  (71, ⟨1, 8, .ptr, [.pointer none], false⟩),
  (72, ⟨1, 4, .int .i32, [.int .i32 0], false⟩),
  (73, ⟨1, 4, .int .i32, [.int .i32 0], false⟩),
  (74, ⟨11, 48, .struct [(0, 12), (1, 12), (2, 67), (3, 68), (4, 5), (5, 5), (6, 69), (7, 70), (8, 71), (9, 72), (10, 73)], [.int .u64 0, .int .u64 0, .int .u32 0, .int .u8 0, .int .u8 0, .int .u8 0, .int .u8 0, .nilFunc, .pointer none, .int .i32 0, .int .i32 0], false⟩),
  (75, ⟨11, 48, .struct [(0, 12), (1, 12), (2, 67), (3, 68), (4, 5), (5, 5), (6, 69), (7, 70), (8, 71), (9, 72), (10, 73)], [.int .u64 0, .int .u64 0, .int .u32 0, .int .u8 0, .int .u8 0, .int .u8 0, .int .u8 0, .nilFunc, .pointer none, .int .i32 0, .int .i32 0], false⟩)]
def TT : Tab := ⟨TL, false⟩
def TW : Tab := ⟨TL, true⟩
theorem TL_ok : chkT Try.prog TL = true := by kernel_rfl
theorem TT_ok : TOk Try.prog TT := chkT_ok TL_ok
theorem TW_ok : TOk Try.prog TW := chkT_ok TL_ok
theorem TT_cl : TClosed TT = true := by kernel_rfl
theorem TW_cl : TClosed TW = true := by kernel_rfl
theorem mixed : Try.prog.follows .mixedOrders = true := by kernel_rfl
theorem l2 : slot 2 TT.ts = some ⟨1, 8, .int .i64, [.int .i64 0], false⟩ := rfl
theorem l3 : slot 3 TT.ts = some ⟨1, 8, .int .i64, [.int .i64 0], false⟩ := rfl
theorem l4 : slot 4 TT.ts = some ⟨1, 1, .bool, [.bool false], false⟩ := rfl
theorem l5 : slot 5 TT.ts = some ⟨1, 1, .int .u8, [.int .u8 0], false⟩ := rfl
theorem l6 : slot 6 TT.ts = some ⟨1, 1, .int .u8, [.int .u8 0], false⟩ := rfl
theorem l7 : slot 7 TT.ts = some ⟨4, 24, .struct [(0, 2), (1, 3), (2, 4), (3, 6)], [.int .i64 0, .int .i64 0, .bool false, .int .u8 0], true⟩ := rfl
theorem l8 : slot 8 TT.ts = some ⟨4, 24, .struct [(0, 2), (1, 3), (2, 4), (3, 6)], [.int .i64 0, .int .i64 0, .bool false, .int .u8 0], true⟩ := rfl
theorem l9 : slot 9 TT.ts = some ⟨1, 16, .str, [.string ⟨#[]⟩], false⟩ := rfl
theorem l10 : slot 10 TT.ts = some ⟨1, 16, .str, [.string ⟨#[]⟩], false⟩ := rfl
theorem l11 : slot 11 TT.ts = some ⟨1, 16, .str, [.string ⟨#[]⟩], false⟩ := rfl
theorem l12 : slot 12 TT.ts = some ⟨1, 8, .int .u64, [.int .u64 0], false⟩ := rfl
theorem l13 : slot 13 TT.ts = some ⟨2, 24, .struct [(0, 9), (1, 12)], [.string ⟨#[]⟩, .int .u64 0], false⟩ := rfl
theorem l14 : slot 14 TT.ts = some ⟨2, 24, .struct [(0, 9), (1, 12)], [.string ⟨#[]⟩, .int .u64 0], false⟩ := rfl
theorem l15 : slot 15 TT.ts = some ⟨1, 8, .ptr, [.pointer none], false⟩ := rfl
theorem l16 : slot 16 TT.ts = some ⟨1, 8, .ptr, [.pointer none], false⟩ := rfl
theorem l17 : slot 17 TT.ts = some ⟨1, 8, .ptr, [.pointer none], false⟩ := rfl
theorem l18 : slot 18 TT.ts = some ⟨1, 8, .struct [(0, 17)], [.pointer none], false⟩ := rfl
theorem l19 : slot 19 TT.ts = some ⟨1, 8, .struct [(0, 17)], [.pointer none], false⟩ := rfl
theorem l21 : slot 21 TT.ts = some ⟨1, 4, .int .i32, [.int .i32 0], false⟩ := rfl
theorem l22 : slot 22 TT.ts = some ⟨1, 24, .slice 3, [.slice none 0 0], false⟩ := rfl
theorem l25 : slot 25 TT.ts = some ⟨10, 96, .struct [(0, 3), (1, 3), (2, 3), (3, 3), (4, 3), (5, 22), (6, 3), (7, 3), (8, 3), (9, 4)], [.int .i64 0, .int .i64 0, .int .i64 0, .int .i64 0, .int .i64 0, .slice none 0 0, .int .i64 0, .int .i64 0, .int .i64 0, .bool false], false⟩ := rfl
theorem l26 : slot 26 TT.ts = some ⟨10, 96, .struct [(0, 3), (1, 3), (2, 3), (3, 3), (4, 3), (5, 22), (6, 3), (7, 3), (8, 3), (9, 4)], [.int .i64 0, .int .i64 0, .int .i64 0, .int .i64 0, .int .i64 0, .slice none 0 0, .int .i64 0, .int .i64 0, .int .i64 0, .bool false], false⟩ := rfl
theorem l27 : slot 27 TT.ts = some ⟨1, 8, .ptr, [.pointer none], false⟩ := rfl
theorem l30 : slot 30 TT.ts = some ⟨1, 8, .int .i64, [.int .i64 0], false⟩ := rfl
theorem l40 : slot 40 TT.ts = some ⟨1, 24, .slice 26, [.slice none 0 0], false⟩ := rfl
theorem l42 : slot 42 TT.ts = some ⟨2, 16, .array 2 3, [.int .i64 0, .int .i64 0], true⟩ := rfl
theorem l43 : slot 43 TT.ts = some ⟨1, 24, .slice 42, [.slice none 0 0], false⟩ := rfl
theorem l48 : slot 48 TT.ts = some ⟨2, 32, .struct [(0, 22), (1, 3)], [.slice none 0 0, .int .i64 0], false⟩ := rfl
theorem l49 : slot 49 TT.ts = some ⟨2, 32, .struct [(0, 22), (1, 3)], [.slice none 0 0, .int .i64 0], false⟩ := rfl
theorem l54 : slot 54 TT.ts = some ⟨1, 8, .ptr, [.pointer none], false⟩ := rfl
theorem l61 : slot 61 TT.ts = some ⟨4, 40, .struct [(0, 17), (1, 17), (2, 17), (3, 9)], [.pointer none, .pointer none, .pointer none, .string ⟨#[]⟩], false⟩ := rfl
theorem l62 : slot 62 TT.ts = some ⟨4, 40, .struct [(0, 17), (1, 17), (2, 17), (3, 9)], [.pointer none, .pointer none, .pointer none, .string ⟨#[]⟩], false⟩ := rfl
theorem l67 : slot 67 TT.ts = some ⟨1, 4, .int .u32, [.int .u32 0], false⟩ := rfl
theorem l68 : slot 68 TT.ts = some ⟨1, 1, .int .u8, [.int .u8 0], false⟩ := rfl
theorem l69 : slot 69 TT.ts = some ⟨1, 1, .int .u8, [.int .u8 0], false⟩ := rfl
theorem l70 : slot 70 TT.ts = some ⟨1, 8, .oth, [.nilFunc], false⟩ := rfl
theorem l71 : slot 71 TT.ts = some ⟨1, 8, .ptr, [.pointer none], false⟩ := rfl
theorem l72 : slot 72 TT.ts = some ⟨1, 4, .int .i32, [.int .i32 0], false⟩ := rfl
theorem l73 : slot 73 TT.ts = some ⟨1, 4, .int .i32, [.int .i32 0], false⟩ := rfl
theorem l74 : slot 74 TT.ts = some ⟨11, 48, .struct [(0, 12), (1, 12), (2, 67), (3, 68), (4, 5), (5, 5), (6, 69), (7, 70), (8, 71), (9, 72), (10, 73)], [.int .u64 0, .int .u64 0, .int .u32 0, .int .u8 0, .int .u8 0, .int .u8 0, .int .u8 0, .nilFunc, .pointer none, .int .i32 0, .int .i32 0], false⟩ := rfl
theorem l75 : slot 75 TT.ts = some ⟨11, 48, .struct [(0, 12), (1, 12), (2, 67), (3, 68), (4, 5), (5, 5), (6, 69), (7, 70), (8, 71), (9, 72), (10, 73)], [.int .u64 0, .int .u64 0, .int .u32 0, .int .u8 0, .int .u8 0, .int .u8 0, .int .u8 0, .nilFunc, .pointer none, .int .i32 0, .int .i32 0], false⟩ := rfl
theorem TT_wr : TT.wr = false := rfl
theorem wr_l : TW.wr = true := rfl
attribute [go_sem] TT_wr l2 l3 l4 l5 l6 l7 l8 l9 l10 l11 l12 l13 l14 l15 l16 l17 l18 l19 l21 l22 l25 l26 l27 l30 l40 l42 l43 l48 l49 l54 l61 l62 l67 l68 l69 l70 l71 l72 l73 l74 l75
end Go.Proofs.Ytlaplcjenndigaa
