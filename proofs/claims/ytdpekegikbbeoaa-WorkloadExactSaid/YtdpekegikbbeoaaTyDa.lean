/- The types that this program's operations name, as a table, held against the program. -/
import Derived.Test.YtdpekegikbbeoaaShZ
import Derived.Test.YtdpekegikbbeoaaChecked
namespace Go.Proofs.Ytdpekegikbbeoaa
set_option linter.unusedVariables false
set_option linter.unusedSimpArgs false
open Go.Proofs.Ytdpekegikbbeoaa.Sh
def TL : List (Nat × TI) := [(2, ⟨1, 8, .int .i64, [.int .i64 0], false⟩),
  (3, ⟨1, 8, .int .i64, [.int .i64 0], false⟩),
  (4, ⟨1, 1, .bool, [.bool false], false⟩),
  (5, ⟨1, 1, .int .u8, [.int .u8 0], false⟩),
  (6, ⟨1, 1, .int .u8, [.int .u8 0], false⟩),
  (7, ⟨4, 24, .struct [(0, 2), (1, 3), (2, 4), (3, 6)], [.int .i64 0, .int .i64 0, .bool false, .int .u8 0], true⟩),
  (8, ⟨4, 24, .struct [(0, 2), (1, 3), (2, 4), (3, 6)], [.int .i64 0, .int .i64 0, .bool false, .int .u8 0], true⟩),
  (9, ⟨1, 16, .str, [.string ⟨#[]⟩], false⟩),
  (10, ⟨1, 16, .str, [.string ⟨#[]⟩], false⟩),
  (11, ⟨1, 16, .str, [.string ⟨#[]⟩], false⟩),
  (12, ⟨1, 8, .int .u64, [.int .u64 0], false⟩),
  (13, ⟨2, 24, .struct [(0, 9), (1, 12)], [.string ⟨#[]⟩, .int .u64 0], false⟩),
  (14, ⟨2, 24, .struct [(0, 9), (1, 12)], [.string ⟨#[]⟩, .int .u64 0], false⟩),
  (15, ⟨1, 8, .ptr, [.pointer none], false⟩),
  (16, ⟨1, 8, .ptr, [.pointer none], false⟩),
  (17, ⟨1, 8, .ptr, [.pointer none], false⟩),
  (18, ⟨1, 8, .struct [(0, 17)], [.pointer none], false⟩),
  (19, ⟨1, 8, .struct [(0, 17)], [.pointer none], false⟩),
  (21, ⟨1, 4, .int .i32, [.int .i32 0], false⟩),
  (22, ⟨1, 8, .ptr, [.pointer none], false⟩),
  (24, ⟨1, 24, .slice 3, [.slice none 0 0], false⟩),
  (26, ⟨1, 24, .slice 31, [.slice none 0 0], false⟩),
  (27, ⟨4, 32, .struct [(0, 3), (1, 3), (2, 3), (3, 3)], [.int .i64 0, .int .i64 0, .int .i64 0, .int .i64 0], true⟩),
  (28, ⟨4, 32, .struct [(0, 3), (1, 3), (2, 3), (3, 3)], [.int .i64 0, .int .i64 0, .int .i64 0, .int .i64 0], true⟩),
  (29, ⟨1, 24, .slice 28, [.slice none 0 0], false⟩),
  (30, ⟨1, 24, .struct [(0, 29)], [.slice none 0 0], false⟩),
  (31, ⟨1, 24, .struct [(0, 29)], [.slice none 0 0], false⟩),
  (33, ⟨6, 48, .struct [(0, 3), (1, 3), (2, 3), (3, 3), (4, 3), (5, 3)], [.int .i64 0, .int .i64 0, .int .i64 0, .int .i64 0, .int .i64 0, .int .i64 0], true⟩),
  (34, ⟨6, 48, .struct [(0, 3), (1, 3), (2, 3), (3, 3), (4, 3), (5, 3)], [.int .i64 0, .int .i64 0, .int .i64 0, .int .i64 0, .int .i64 0, .int .i64 0], true⟩),
  (35, ⟨1, 8, .int .i64, [.int .i64 0], false⟩),
  (43, ⟨1, 8, .ptr, [.pointer none], false⟩),
  (55, ⟨2, 32, .struct [(0, 24), (1, 3)], [.slice none 0 0, .int .i64 0], false⟩),
  (56, ⟨2, 32, .struct [(0, 24), (1, 3)], [.slice none 0 0, .int .i64 0], false⟩),
  (58, ⟨1, 8, .oth, [.nilFunc], false⟩),
  (59, ⟨13, 104, .array 13 58, [.nilFunc, .nilFunc, .nilFunc, .nilFunc, .nilFunc, .nilFunc, .nilFunc, .nilFunc, .nilFunc, .nilFunc, .nilFunc, .nilFunc, .nilFunc], false⟩),
  (70, ⟨4, 40, .struct [(0, 17), (1, 17), (2, 17), (3, 9)], [.pointer none, .pointer none, .pointer none, .string ⟨#[]⟩], false⟩),
  (71, ⟨4, 40, .struct [(0, 17), (1, 17), (2, 17), (3, 9)], [.pointer none, .pointer none, .pointer none, .string ⟨#[]⟩], false⟩),
  (76, ⟨1, 4, .int .u32, [.int .u32 0], false⟩),
  (77, ⟨1, 1, .int .u8, [.int .u8 0], false⟩),
  (78, ⟨1, 1, .int .u8, [.int .u8 0], false⟩),
  (79, ⟨1, 8, .oth, [.nilFunc], false⟩),
  (80, ⟨1, 8, .ptr, [.pointer none], false⟩),
  (81, ⟨1, 4, .int .i32, [.int .i32 0], false⟩),
  (82, ⟨1, 4, .int .i32, [.int .i32 0], false⟩),
  (83, ⟨11, 48, .struct [(0, 12), (1, 12), (2, 76), (3, 77), (4, 5), (5, 5), (6, 78), (7, 79), (8, 80), (9, 81), (10, 82)], [.int .u64 0, .int .u64 0, .int .u32 0, .int .u8 0, .int .u8 0, .int .u8 0, .int .u8 0, .nilFunc, .pointer none, .int .i32 0, .int .i32 0], false⟩),
  (84, ⟨11, 48, .struct [(0, 12), (1, 12), (2, 76), (3, 77), (4, 5), (5, 5), (6, 78), (7, 79), (8, 80), (9, 81), (10, 82)], [.int .u64 0, .int .u64 0, .int .u32 0, .int .u8 0, .int .u8 0, .int .u8 0, .int .u8 0, .nilFunc, .pointer none, .int .i32 0, .int .i32 0], false⟩)]
def TT : Tab := ⟨TL, false⟩
def TW : Tab := ⟨TL, true⟩
theorem TL_ok : chkT Try.prog TL = true := by kernel_rfl
theorem TT_ok : TOk Try.prog TT := chkT_ok TL_ok
theorem TW_ok : TOk Try.prog TW := chkT_ok TL_ok
theorem TT_cl : TClosed TT = true := by kernel_rfl
theorem TW_cl : TClosed TW = true := by kernel_rfl
theorem mixed : Try.prog.follows .mixedOrders = true := by kernel_rfl
theorem l2 : slot 2 TT.ts = some ⟨1, 8, .int .i64, [.int .i64 0], false⟩ := rfl
theorem l3 : slot 3 TT.ts = some ⟨1, 8, .int .i64, [.int .i64 0], false⟩ := rfl
theorem l4 : slot 4 TT.ts = some ⟨1, 1, .bool, [.bool false], false⟩ := rfl
theorem l5 : slot 5 TT.ts = some ⟨1, 1, .int .u8, [.int .u8 0], false⟩ := rfl
theorem l6 : slot 6 TT.ts = some ⟨1, 1, .int .u8, [.int .u8 0], false⟩ := rfl
theorem l7 : slot 7 TT.ts = some ⟨4, 24, .struct [(0, 2), (1, 3), (2, 4), (3, 6)], [.int .i64 0, .int .i64 0, .bool false, .int .u8 0], true⟩ := rfl
theorem l8 : slot 8 TT.ts = some ⟨4, 24, .struct [(0, 2), (1, 3), (2, 4), (3, 6)], [.int .i64 0, .int .i64 0, .bool false, .int .u8 0], true⟩ := rfl
theorem l9 : slot 9 TT.ts = some ⟨1, 16, .str, [.string ⟨#[]⟩], false⟩ := rfl
theorem l10 : slot 10 TT.ts = some ⟨1, 16, .str, [.string ⟨#[]⟩], false⟩ := rfl
theorem l11 : slot 11 TT.ts = some ⟨1, 16, .str, [.string ⟨#[]⟩], false⟩ := rfl
theorem l12 : slot 12 TT.ts = some ⟨1, 8, .int .u64, [.int .u64 0], false⟩ := rfl
theorem l13 : slot 13 TT.ts = some ⟨2, 24, .struct [(0, 9), (1, 12)], [.string ⟨#[]⟩, .int .u64 0], false⟩ := rfl
theorem l14 : slot 14 TT.ts = some ⟨2, 24, .struct [(0, 9), (1, 12)], [.string ⟨#[]⟩, .int .u64 0], false⟩ := rfl
theorem l15 : slot 15 TT.ts = some ⟨1, 8, .ptr, [.pointer none], false⟩ := rfl
theorem l16 : slot 16 TT.ts = some ⟨1, 8, .ptr, [.pointer none], false⟩ := rfl
theorem l17 : slot 17 TT.ts = some ⟨1, 8, .ptr, [.pointer none], false⟩ := rfl
theorem l18 : slot 18 TT.ts = some ⟨1, 8, .struct [(0, 17)], [.pointer none], false⟩ := rfl
theorem l19 : slot 19 TT.ts = some ⟨1, 8, .struct [(0, 17)], [.pointer none], false⟩ := rfl
theorem l21 : slot 21 TT.ts = some ⟨1, 4, .int .i32, [.int .i32 0], false⟩ := rfl
theorem l22 : slot 22 TT.ts = some ⟨1, 8, .ptr, [.pointer none], false⟩ := rfl
theorem l24 : slot 24 TT.ts = some ⟨1, 24, .slice 3, [.slice none 0 0], false⟩ := rfl
theorem l26 : slot 26 TT.ts = some ⟨1, 24, .slice 31, [.slice none 0 0], false⟩ := rfl
theorem l27 : slot 27 TT.ts = some ⟨4, 32, .struct [(0, 3), (1, 3), (2, 3), (3, 3)], [.int .i64 0, .int .i64 0, .int .i64 0, .int .i64 0], true⟩ := rfl
theorem l28 : slot 28 TT.ts = some ⟨4, 32, .struct [(0, 3), (1, 3), (2, 3), (3, 3)], [.int .i64 0, .int .i64 0, .int .i64 0, .int .i64 0], true⟩ := rfl
theorem l29 : slot 29 TT.ts = some ⟨1, 24, .slice 28, [.slice none 0 0], false⟩ := rfl
theorem l30 : slot 30 TT.ts = some ⟨1, 24, .struct [(0, 29)], [.slice none 0 0], false⟩ := rfl
theorem l31 : slot 31 TT.ts = some ⟨1, 24, .struct [(0, 29)], [.slice none 0 0], false⟩ := rfl
theorem l33 : slot 33 TT.ts = some ⟨6, 48, .struct [(0, 3), (1, 3), (2, 3), (3, 3), (4, 3), (5, 3)], [.int .i64 0, .int .i64 0, .int .i64 0, .int .i64 0, .int .i64 0, .int .i64 0], true⟩ := rfl
theorem l34 : slot 34 TT.ts = some ⟨6, 48, .struct [(0, 3), (1, 3), (2, 3), (3, 3), (4, 3), (5, 3)], [.int .i64 0, .int .i64 0, .int .i64 0, .int .i64 0, .int .i64 0, .int .i64 0], true⟩ := rfl
theorem l35 : slot 35 TT.ts = some ⟨1, 8, .int .i64, [.int .i64 0], false⟩ := rfl
theorem l43 : slot 43 TT.ts = some ⟨1, 8, .ptr, [.pointer none], false⟩ := rfl
theorem l55 : slot 55 TT.ts = some ⟨2, 32, .struct [(0, 24), (1, 3)], [.slice none 0 0, .int .i64 0], false⟩ := rfl
theorem l56 : slot 56 TT.ts = some ⟨2, 32, .struct [(0, 24), (1, 3)], [.slice none 0 0, .int .i64 0], false⟩ := rfl
theorem l58 : slot 58 TT.ts = some ⟨1, 8, .oth, [.nilFunc], false⟩ := rfl
theorem l59 : slot 59 TT.ts = some ⟨13, 104, .array 13 58, [.nilFunc, .nilFunc, .nilFunc, .nilFunc, .nilFunc, .nilFunc, .nilFunc, .nilFunc, .nilFunc, .nilFunc, .nilFunc, .nilFunc, .nilFunc], false⟩ := rfl
theorem l70 : slot 70 TT.ts = some ⟨4, 40, .struct [(0, 17), (1, 17), (2, 17), (3, 9)], [.pointer none, .pointer none, .pointer none, .string ⟨#[]⟩], false⟩ := rfl
theorem l71 : slot 71 TT.ts = some ⟨4, 40, .struct [(0, 17), (1, 17), (2, 17), (3, 9)], [.pointer none, .pointer none, .pointer none, .string ⟨#[]⟩], false⟩ := rfl
theorem l76 : slot 76 TT.ts = some ⟨1, 4, .int .u32, [.int .u32 0], false⟩ := rfl
theorem l77 : slot 77 TT.ts = some ⟨1, 1, .int .u8, [.int .u8 0], false⟩ := rfl
theorem l78 : slot 78 TT.ts = some ⟨1, 1, .int .u8, [.int .u8 0], false⟩ := rfl
theorem l79 : slot 79 TT.ts = some ⟨1, 8, .oth, [.nilFunc], false⟩ := rfl
theorem l80 : slot 80 TT.ts = some ⟨1, 8, .ptr, [.pointer none], false⟩ := rfl
theorem l81 : slot 81 TT.ts = some ⟨1, 4, .int .i32, [.int .i32 0], false⟩ := rfl
theorem l82 : slot 82 TT.ts = some ⟨1, 4, .int .i32, [.int .i32 0], false⟩ := rfl
theorem l83 : slot 83 TT.ts = some ⟨11, 48, .struct [(0, 12), (1, 12), (2, 76), (3, 77), (4, 5), (5, 5), (6, 78), (7, 79), (8, 80), (9, 81), (10, 82)], [.int .u64 0, .int .u64 0, .int .u32 0, .int .u8 0, .int .u8 0, .int .u8 0, .int .u8 0, .nilFunc, .pointer none, .int .i32 0, .int .i32 0], false⟩ := rfl
theorem l84 : slot 84 TT.ts = some ⟨11, 48, .struct [(0, 12), (1, 12), (2, 76), (3, 77), (4, 5), (5, 5), (6, 78), (7, 79), (8, 80), (9, 81), (10, 82)], [.int .u64 0, .int .u64 0, .int .u32 0, .int .u8 0, .int .u8 0, .int .u8 0, .int .u8 0, .nilFunc, .pointer none, .int .i32 0, .int .i32 0], false⟩ := rfl
theorem TT_wr : TT.wr = false := rfl
theorem wr_l : TW.wr = true := rfl
attribute [go_sem] TT_wr l2 l3 l4 l5 l6 l7 l8 l9 l10 l11 l12 l13 l14 l15 l16 l17 l18 l19 l21 l22 l24 l26 l27 l28 l29 l30 l31 l33 l34 l35 l43 l55 l56 l58 l59 l70 l71 l76 l77 l78 l79 l80 l81 l82 l83 l84
end Go.Proofs.Ytdpekegikbbeoaa
