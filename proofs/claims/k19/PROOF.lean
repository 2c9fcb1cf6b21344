import PyProof.Rows.All
import Wide.All
import OpenK.AllK
import Wide.FinOn
import HandS.Head0
import HandS.Head1
import HandS.Head2
import HandS.HeadEnd
import HandS.HeadHook1
import HandS.HeadHook2
import HandS.HeadHook3
import HandS.HeadHook4
import HandS.ExcField
import HandS.Call
import HandS.Words
import HandS.ForMost
import HandS.Evl
import HandS.IsInst
import HandS.Walk
import HandS.Conv
import HandS.TupMul
import HandS.WideBits
import HandS.Wide
import HandS.Defaults
import HandS.RaiseMore
import HandS.Zip
import HandS.Style
import HandS.SetFor
import HandS.Text
import PyProof.ReprText
import PyProof.Rows.StrJoinMade
import KE.KxField
import HandS.FStr
import HandS.Zip0
import KE.BitLaws
import HandS.Exc
import HandS.ExcOwn
import HandS.ExcInit
import HandS.TryMany
import HandS.Small
import HandS.TupAny
import HandS.RevRange
import PyProof.CallFns
import HandS.TryOnly
import HandS.MakeKwOnly
import PyProof.AutoSeq1
import PyProof.Rows.StrOr
import PyProof.ReprNest
import PyProof.ReprRoads
import PyProof.ReprDict
import PyProof.InstEq
import HandS.ExcIs
import KE.KExcIs
import HandS.Deep
import HandS.ExcCtx
import HandS.ExcValue
import HandS.HotCalls
import HandS.SuiteRaise
import KE.KTryMore
import KE.DataMinMax
import HandS.WrittenGet
import KE.KxText
import HandS.Steps
import PyProof.FitsInt
import PyProof.FitsReplace
import HandS.Rev
import PySem.Challenge.RW_onewaybits_k19_lines_there_and_back
set_option Elab.async false
set_option linter.all false
set_option maxRecDepth 100000
set_option maxHeartbeats 4000000
/-! what the head's run is looked at by, over a written list of addresses (no search: memory) -/
namespace VB
open PySem PySem.W PyProof.Rows
def obL (as : List Addr) (fa : List He.Fa) (fn : List He.DefD) (ts : List He.Tab) (ex : Frag → Bool) (g : Addr → Option Obj) : He.AlX :=
  let K := He.frT g as
  (He.obsT fa fn ts K, ex K)
theorem obL_says {as : List Addr} {fa : List He.Fa} {fn : List He.DefD} {ts : List He.Tab} {ex : Frag → Bool} {w : World} {h : Heap} (e : obL as fa fn ts ex h.get? = He.valX fn ts w) : He.SaysX fa fn ts [] ex w h (He.frT h.get? as) where
  t := congrArg Prod.fst e
  more := congrArg Prod.snd e
  hd := fun _ z => nomatch z
  out := fun _ z => nomatch z
  empty := fun _ z => nomatch z
def hookL (as : List Addr) (fa : List He.Fa) (fn : List He.DefD) (ts : List He.Tab) (ex : Frag → Bool) : Hook where
  α := He.AlX
  obs := fun s => obL as fa fn ts ex s.heap.get?
  val := He.valX fn ts
  says := fun w h => ∃ K : Frag, K.In h ∧ He.SaysX fa fn ts [] ex w h K
  of := fun _ _ e => ⟨He.frT _ as, He.frT_in, obL_says e⟩
  keeps := by
    rintro w h h' ⟨K, i, c⟩ k
    exact ⟨K, Frag.In.keeps i k, ⟨c.t, c.more, fun _ z => (by cases z), fun _ z => (by cases z), fun _ z => (by cases z)⟩⟩
theorem obL_eq {as : List Addr} {fa : List He.Fa} {fn : List He.DefD} {ts : List He.Tab} {ex : Frag → Bool} (s : SharedT) : obL as fa fn ts ex (HandSHeadRun.getT s) = (hookL as fa fn ts ex).obs s.abs := by
  have e : HandSHeadRun.getT s = s.abs.heap.get? := funext (HandSHeadRun.getT_eq s)
  rw [e]
  rfl
end VB
/-! what the head's run looks at -/
namespace VB
end VB
namespace K19
open PySem PySem.Spec PyProof.Rows L2 VB
def top (i : Nat) : Stmt := PySem.Challenge.pw_onewaybits_k19_lines_there_and_back.main.body.getD i (.Pass ⟨0, 0, 0, 0⟩)
def mtop (i j : Nat) : Stmt := match top i with | .ClassDef _ _ _ b _ _ _ _ _ _ _ => b.getD j (.Pass ⟨0, 0, 0, 0⟩) | _ => .Pass ⟨0, 0, 0, 0⟩
abbrev s_is_int_from : Stmt := top 7
abbrev s_is_list : Stmt := top 8
abbrev s_is_octets : Stmt := top 9
abbrev s_is_name : Stmt := top 10
abbrev s_is_path : Stmt := top 11
abbrev s_is_deed : Stmt := top 18
abbrev s__is_worded : Stmt := top 19
abbrev s__is_single_deed : Stmt := top 20
abbrev s__is_part : Stmt := top 21
abbrev s__are_deeds_together : Stmt := top 22
abbrev s_line_of : Stmt := top 28
abbrev s_read_deed : Stmt := top 29
abbrev s_number_in_word : Stmt := top 30
abbrev s__is_step : Stmt := top 31
abbrev s__line : Stmt := top 32
abbrev s__word : Stmt := top 33
abbrev s__runs : Stmt := top 34
abbrev s__run_word : Stmt := top 35
abbrev s__step_told_by : Stmt := top 36
abbrev s__deed_told_by : Stmt := top 37
abbrev s__item_told_by : Stmt := top 38
abbrev s__path_told_by : Stmt := top 39
abbrev s__number_told_by : Stmt := top 40
abbrev s__octets_told_by : Stmt := top 41
abbrev s__law_cell : Stmt := top 43
abbrev s__law_box : Stmt := top 44
abbrev s__law_take : Stmt := top 45
abbrev s__law_name : Stmt := top 46
abbrev s__law_path : Stmt := top 47
abbrev s__law_octet : Stmt := top 48
abbrev s__law_run_octets : Stmt := top 49
abbrev s__law_plain_step : Stmt := top 50
abbrev s__law_step : Stmt := top 51
abbrev s__law_runs : Stmt := top 52
abbrev s__law_run_word : Stmt := top 53
abbrev s__law_path_word : Stmt := top 54
abbrev s__law_words : Stmt := top 55
abbrev s__law_line : Stmt := top 56
abbrev s__law_near : Stmt := top 57
abbrev s__law_handed : Stmt := top 58
abbrev s__law_told : Stmt := top 59
abbrev s__law_back : Stmt := top 60
abbrev s__law_asked_right : Stmt := top 61
abbrev s__law_changed_right : Stmt := top 62
abbrev s__law_right : Stmt := top 63
abbrev s_law : Stmt := top 64
abbrev tabWR : List Str := ["file", "dir", "write", "cut", "link", "move", "drop", "keep", "let"]
abbrev tabKR : List (List Str) := [["path"], ["path"], ["path", "size", "octets"], ["path", "size"], ["path", "path"], ["path", "path"], ["path"], ["name"], ["name"]]
abbrev dpT : He.Tab := (fun K => He.ga K "DEED_PARTS", ["file", "dir", "write", "cut", "link", "move", "drop", "keep", "let"])
def strsR (K : PySem.W.Frag) (q : Addr) (xs : List Str) : Bool := match K.lookup q with
  | some ⟨.type c, _, .seq its _, _⟩ => decide (c = "tuple") && (decide (its.size ≤ sizeLine) && He.relAll (xs.map V.str) its.toList)
  | _ => false
def tbR (K : PySem.W.Frag) : Bool := ((List.range 9).all fun i => match PySem.W.nsIn K (He.ga K "DEED_PARTS") (tabWR.getD i "") with
  | some (some (.ref q)) => strsR K q (tabKR.getD i [])
  | _ => false) && (match PySem.W.nsIn K (He.ga K "DEED_PARTS") "sync" with
  | some none => true
  | _ => false)
end K19
namespace K19
open PySem PySem.Spec PyProof.Rows L2 VB
def d__law_take : He.DefD := ⟨("_law_take", none), "_law_take", "_law_take", defArgs s__law_take, defBody s__law_take, defScope s__law_take, [], []⟩
def d__law_name : He.DefD := ⟨("_law_name", none), "_law_name", "_law_name", defArgs s__law_name, defBody s__law_name, defScope s__law_name, [], []⟩
def d__law_path : He.DefD := ⟨("_law_path", none), "_law_path", "_law_path", defArgs s__law_path, defBody s__law_path, defScope s__law_path, [], []⟩
def d__law_octet : He.DefD := ⟨("_law_octet", none), "_law_octet", "_law_octet", defArgs s__law_octet, defBody s__law_octet, defScope s__law_octet, [], []⟩
def d__law_run_octets : He.DefD := ⟨("_law_run_octets", none), "_law_run_octets", "_law_run_octets", defArgs s__law_run_octets, defBody s__law_run_octets, defScope s__law_run_octets, [], []⟩
def d__law_plain_step : He.DefD := ⟨("_law_plain_step", none), "_law_plain_step", "_law_plain_step", defArgs s__law_plain_step, defBody s__law_plain_step, defScope s__law_plain_step, [], []⟩
def d__law_step : He.DefD := ⟨("_law_step", none), "_law_step", "_law_step", defArgs s__law_step, defBody s__law_step, defScope s__law_step, [], []⟩
def d__law_near : He.DefD := ⟨("_law_near", none), "_law_near", "_law_near", defArgs s__law_near, defBody s__law_near, defScope s__law_near, [], []⟩
def d__law_handed : He.DefD := ⟨("_law_handed", none), "_law_handed", "_law_handed", defArgs s__law_handed, defBody s__law_handed, defScope s__law_handed, [], []⟩
def d__law_runs : He.DefD := ⟨("_law_runs", none), "_law_runs", "_law_runs", defArgs s__law_runs, defBody s__law_runs, defScope s__law_runs, [], []⟩
def d__law_run_word : He.DefD := ⟨("_law_run_word", none), "_law_run_word", "_law_run_word", defArgs s__law_run_word, defBody s__law_run_word, defScope s__law_run_word, [], []⟩
def d__law_path_word : He.DefD := ⟨("_law_path_word", none), "_law_path_word", "_law_path_word", defArgs s__law_path_word, defBody s__law_path_word, defScope s__law_path_word, [], []⟩
def d__law_words : He.DefD := ⟨("_law_words", none), "_law_words", "_law_words", defArgs s__law_words, defBody s__law_words, defScope s__law_words, [], []⟩
def d__law_line : He.DefD := ⟨("_law_line", none), "_law_line", "_law_line", defArgs s__law_line, defBody s__law_line, defScope s__law_line, [], []⟩
def d__is_worded : He.DefD := ⟨("_is_worded", none), "_is_worded", "_is_worded", defArgs s__is_worded, defBody s__is_worded, defScope s__is_worded, [], []⟩
def d_is_name : He.DefD := ⟨("is_name", none), "is_name", "is_name", defArgs s_is_name, defBody s_is_name, defScope s_is_name, [], []⟩
def d_is_path : He.DefD := ⟨("is_path", none), "is_path", "is_path", defArgs s_is_path, defBody s_is_path, defScope s_is_path, [], []⟩
def d_is_int_from : He.DefD := ⟨("is_int_from", none), "is_int_from", "is_int_from", defArgs s_is_int_from, defBody s_is_int_from, defScope s_is_int_from, [], []⟩
def d_is_list : He.DefD := ⟨("is_list", none), "is_list", "is_list", defArgs s_is_list, defBody s_is_list, defScope s_is_list, [], []⟩
def d_is_octets : He.DefD := ⟨("is_octets", none), "is_octets", "is_octets", defArgs s_is_octets, defBody s_is_octets, defScope s_is_octets, [], []⟩
def d__is_part : He.DefD := ⟨("_is_part", none), "_is_part", "_is_part", defArgs s__is_part, defBody s__is_part, defScope s__is_part, [], []⟩
def d__is_single_deed : He.DefD := ⟨("_is_single_deed", none), "_is_single_deed", "_is_single_deed", defArgs s__is_single_deed, defBody s__is_single_deed, defScope s__is_single_deed, [], []⟩
def d__are_deeds_together : He.DefD := ⟨("_are_deeds_together", none), "_are_deeds_together", "_are_deeds_together", defArgs s__are_deeds_together, defBody s__are_deeds_together, defScope s__are_deeds_together, [], []⟩
def d_is_deed : He.DefD := ⟨("is_deed", none), "is_deed", "is_deed", defArgs s_is_deed, defBody s_is_deed, defScope s_is_deed, [], []⟩
def d__is_step : He.DefD := ⟨("_is_step", none), "_is_step", "_is_step", defArgs s__is_step, defBody s__is_step, defScope s__is_step, [], []⟩
def d__runs : He.DefD := ⟨("_runs", none), "_runs", "_runs", defArgs s__runs, defBody s__runs, defScope s__runs, [], []⟩
def d__run_word : He.DefD := ⟨("_run_word", none), "_run_word", "_run_word", defArgs s__run_word, defBody s__run_word, defScope s__run_word, [], []⟩
def d__word : He.DefD := ⟨("_word", none), "_word", "_word", defArgs s__word, defBody s__word, defScope s__word, [], []⟩
def d__line : He.DefD := ⟨("_line", none), "_line", "_line", defArgs s__line, defBody s__line, defScope s__line, [], []⟩
def d_line_of : He.DefD := ⟨("line_of", none), "line_of", "line_of", defArgs s_line_of, defBody s_line_of, defScope s_line_of, [], []⟩
def d__law_told : He.DefD := ⟨("_law_told", none), "_law_told", "_law_told", defArgs s__law_told, defBody s__law_told, defScope s__law_told, [], []⟩
def d__path_told_by : He.DefD := ⟨("_path_told_by", none), "_path_told_by", "_path_told_by", defArgs s__path_told_by, defBody s__path_told_by, defScope s__path_told_by, [], []⟩
def d_number_in_word : He.DefD := ⟨("number_in_word", none), "number_in_word", "number_in_word", defArgs s_number_in_word, defBody s_number_in_word, defScope s_number_in_word, [], []⟩
def d__number_told_by : He.DefD := ⟨("_number_told_by", none), "_number_told_by", "_number_told_by", defArgs s__number_told_by, defBody s__number_told_by, defScope s__number_told_by, [], []⟩
def d__octets_told_by : He.DefD := ⟨("_octets_told_by", none), "_octets_told_by", "_octets_told_by", defArgs s__octets_told_by, defBody s__octets_told_by, defScope s__octets_told_by, [], []⟩
def d__item_told_by : He.DefD := ⟨("_item_told_by", none), "_item_told_by", "_item_told_by", defArgs s__item_told_by, defBody s__item_told_by, defScope s__item_told_by, [], []⟩
def d__deed_told_by : He.DefD := ⟨("_deed_told_by", none), "_deed_told_by", "_deed_told_by", defArgs s__deed_told_by, defBody s__deed_told_by, defScope s__deed_told_by, [], []⟩
def d__step_told_by : He.DefD := ⟨("_step_told_by", none), "_step_told_by", "_step_told_by", defArgs s__step_told_by, defBody s__step_told_by, defScope s__step_told_by, [], []⟩
def d_read_deed : He.DefD := ⟨("read_deed", none), "read_deed", "read_deed", defArgs s_read_deed, defBody s_read_deed, defScope s_read_deed, [], []⟩
def d__law_back : He.DefD := ⟨("_law_back", none), "_law_back", "_law_back", defArgs s__law_back, defBody s__law_back, defScope s__law_back, [], []⟩
def d__law_asked_right : He.DefD := ⟨("_law_asked_right", none), "_law_asked_right", "_law_asked_right", defArgs s__law_asked_right, defBody s__law_asked_right, defScope s__law_asked_right, [], []⟩
def d__law_changed_right : He.DefD := ⟨("_law_changed_right", none), "_law_changed_right", "_law_changed_right", defArgs s__law_changed_right, defBody s__law_changed_right, defScope s__law_changed_right, [], []⟩
def d__law_right : He.DefD := ⟨("_law_right", none), "_law_right", "_law_right", defArgs s__law_right, defBody s__law_right, defScope s__law_right, [], []⟩
def d__law_box : He.DefD := ⟨("_law_box", none), "_law_box", "_law_box", defArgs s__law_box, defBody s__law_box, defScope s__law_box, [], []⟩
def d__law_cell : He.DefD := ⟨("_law_cell", none), "_law_cell", "_law_cell", defArgs s__law_cell, defBody s__law_cell, defScope s__law_cell, [], []⟩
def d_law : He.DefD := ⟨("law", none), "law", "law", defArgs s_law, defBody s_law, defScope s_law, [], []⟩
def fnl : List He.DefD := [d__law_take, d__law_name, d__law_path, d__law_octet, d__law_run_octets, d__law_plain_step, d__law_step, d__law_near, d__law_handed, d__law_runs, d__law_run_word, d__law_path_word, d__law_words, d__law_line, d__is_worded, d_is_name, d_is_path, d_is_int_from, d_is_list, d_is_octets, d__is_part, d__is_single_deed, d__are_deeds_together, d_is_deed, d__is_step, d__runs, d__run_word, d__word, d__line, d_line_of, d__law_told, d__path_told_by, d_number_in_word, d__number_told_by, d__octets_told_by, d__item_told_by, d__deed_told_by, d__step_told_by, d_read_deed, d__law_back, d__law_asked_right, d__law_changed_right, d__law_right, d__law_box, d__law_cell, d_law]
def fal : List He.Fa := [.glo "_law_take", .glo "_law_name", .glo "_law_path", .glo "_law_octet", .glo "_law_run_octets", .glo "_law_plain_step", .glo "_law_step", .glo "_law_near", .glo "_law_handed", .glo "_law_runs", .glo "_law_run_word", .glo "_law_path_word", .glo "_law_words", .glo "_law_line", .glo "_is_worded", .glo "is_name", .glo "is_path", .glo "is_int_from", .glo "is_list", .glo "is_octets", .glo "_is_part", .glo "_is_single_deed", .glo "_are_deeds_together", .glo "is_deed", .glo "_is_step", .glo "_runs", .glo "_run_word", .glo "_word", .glo "_line", .glo "line_of", .glo "_law_told", .glo "_path_told_by", .glo "number_in_word", .glo "_number_told_by", .glo "_octets_told_by", .glo "_item_told_by", .glo "_deed_told_by", .glo "_step_told_by", .glo "read_deed", .glo "_law_back", .glo "_law_asked_right", .glo "_law_changed_right", .glo "_law_right", .glo "_law_box", .glo "_law_cell", .glo "law", .free "abs", .free "all", .free "bool", .free "int", .free "isinstance", .free "len", .free "list", .free "max", .free "min", .free "range", .free "repr", .free "reversed", .free "str", .free "sum", .free "tuple", .free "zip", .glo "DEED_PARTS", .str "DIGITS" "0123456789", .int "LEAST_TOGETHER" 2, .str "LETTERS" "abcdefghijklmnopqrstuvwxyz", .int "MOST_DIGITS" 3, .int "MOST_LETTERS" 8, .int "MOST_SIZE" 96, .int "MOST_TOGETHER" 4, .int "MOST_WRITTEN" 48, .str "SYNC" "sync", .str "TOGETHER" "all: "]
abbrev Rw : PySem.W.OpenRow := PySem.W.OpenLaw.row PySem.Challenge.rw_onewaybits_k19_lines_there_and_back
def exB (K : PySem.W.Frag) : Bool := tbR K
def asL : List Nat := [3, 6, 4, 24, 44, 63, 72, 79, 84, 89, 94, 95, 111, 118, 123, 130, 135, 142, 149, 154, 161, 166, 171, 178, 185, 190, 195, 202, 209, 216, 223, 230, 237, 244, 249, 254, 261, 266, 273, 278, 285, 292, 297, 302, 307, 314, 319, 326, 333, 338, 345, 350, 357, 0, 23, 43, 62, 71, 78, 83, 88, 93, 96, 97, 98, 99, 100, 101, 102, 103, 104, 110, 117, 122, 129, 134, 141, 148, 153, 160, 165, 170, 177, 184, 189, 194, 201, 208, 215, 222, 229, 236, 243, 248, 253, 260, 265, 272, 277, 284, 291, 296, 301, 306, 313, 318, 325, 332, 337, 344, 349, 356, 22, 25, 41, 42, 60, 61, 66, 67, 68, 69, 70, 73, 74, 75, 76, 77, 80, 81, 82, 85, 86, 87, 90, 91, 92, 105, 106, 107, 108, 109, 112, 113, 114, 115, 116, 119, 120, 121, 124, 125, 126, 127, 128, 131, 132, 133, 136, 137, 138, 139, 140, 143, 144, 145, 146, 147, 150, 151, 152, 155, 156, 157, 158, 159, 162, 163, 164, 167, 168, 169, 172, 173, 174, 175, 176, 179, 180, 181, 182, 183, 186, 187, 188, 191, 192, 193, 196, 197, 198, 199, 200, 203, 204, 205, 206, 207, 210, 211, 212, 213, 214, 217, 218, 219, 220, 221, 224, 225, 226, 227, 228, 231, 232, 233, 234, 235, 238, 239, 240, 241, 242, 245, 246, 247, 250, 251, 252, 255, 256, 257, 258, 259, 262, 263, 264, 267, 268, 269, 270, 271, 274, 275, 276, 279, 280, 281, 282, 283, 286, 287, 288, 289, 290, 293, 294, 295, 298, 299, 300, 303, 304, 305, 308, 309, 310, 311, 312, 315, 316, 317, 320, 321, 322, 323, 324, 327, 328, 329, 330, 331, 334, 335, 336, 339, 340, 341, 342, 343, 346, 347, 348, 351, 352, 353, 354, 355, 40, 59, 35, 36, 37, 38, 39, 54, 55, 56, 57, 58]
abbrev hk : PySem.W.Hook := VB.hookL asL fal fnl [dpT] exB
def ob (s : PySem.W.SharedT) : He.AlX := VB.obL asL fal fnl [dpT] exB (HandSHeadRun.getT s)
theorem ob_eq (s : PySem.W.SharedT) : ob s = hk.obs s.abs := VB.obL_eq s
def ln0 : List Str := ["FlashError", "InvalidDeed", "InvalidLine", "MOST_LETTERS", "LETTERS", "is_int_from", "is_list", "is_octets", "is_name", "is_path", "MOST_SIZE", "MOST_WRITTEN", "LEAST_TOGETHER", "MOST_TOGETHER", "DEED_PARTS", "is_deed", "_is_worded", "_is_single_deed", "_is_part", "_are_deeds_together", "SYNC", "TOGETHER", "DIGITS", "MOST_DIGITS", "line_of", "read_deed", "number_in_word", "_is_step", "_line", "_word"]
def ln1 : List Str := ["_runs", "_run_word", "_step_told_by", "_deed_told_by", "_item_told_by", "_path_told_by", "_number_told_by", "_octets_told_by", "_law_cell", "_law_box", "_law_take", "_law_name", "_law_path", "_law_octet", "_law_run_octets", "_law_plain_step", "_law_step", "_law_runs", "_law_run_word", "_law_path_word", "_law_words", "_law_line", "_law_near", "_law_handed", "_law_told", "_law_back", "_law_asked_right", "_law_changed_right", "_law_right"]
abbrev lns : List Str := ln0 ++ ln1
end K19
namespace K19
open PySem PySem.W PySem.Calls PyProof.Rows HandSHeadRun
theorem map3 {A B C D : Type} {x : Option A} {f : A → B} {g : A → C} {h : A → D} {a : B} {b : C} {c : D} (h1 : x.map f = some a) (h2 : x.map g = some b) (h3 : x.map h = some c) : x.map (fun s => (f s, g s, h s)) = some (a, b, c) := by
  cases x with
  | none => cases h1
  | some s =>
    show some (f s, g s, h s) = _
    rw [Option.some.inj h1, Option.some.inj h2, Option.some.inj h3]
theorem run0a (w : World) (os : OsState) : (endF (stepQ (denQ tabQ) Rw.prog (w.withFollow "special-get-raises" false)) 30000 Rw.prog (w.withFollow "special-get-raises" false) os).map (fun s => looksF Rw.prog (boot_heap (w.withFollow "special-get-raises" false).params) s.abs) = some true := by kernel_rfl
theorem run0b (w : World) (os : OsState) : (endF (stepQ (denQ tabQ) Rw.prog (w.withFollow "special-get-raises" false)) 30000 Rw.prog (w.withFollow "special-get-raises" false) os).map (fun s => seenQ (PySem.W.view Rw.prog [64]) lns (importedModules Rw.prog.main.body) (fun s => xlAt (PySem.W.view Rw.prog [64]) [] s && recOk Rw.toRowW.records s) s.abs) = some (openGood (PySem.W.view Rw.prog [64]) lns) := by kernel_rfl
theorem run0c (w : World) (os : OsState) : (endF (stepQ (denQ tabQ) Rw.prog (w.withFollow "special-get-raises" false)) 30000 Rw.prog (w.withFollow "special-get-raises" false) os).map ob = some (hk.val (w.withFollow "special-get-raises" false)) := by kernel_rfl
theorem run0 (w : World) : HandSHeadRun.RunEq Rw (PySem.W.view Rw.prog [64]) hk ob 30000 lns (w.withFollow "special-get-raises" false) := fun os => map3 (run0a w os) (run0b w os) (run0c w os)
theorem run1a (w : World) (os : OsState) : (endF (stepQ (denQ tabQ) Rw.prog (w.withFollow "special-get-raises" true)) 30000 Rw.prog (w.withFollow "special-get-raises" true) os).map (fun s => looksF Rw.prog (boot_heap (w.withFollow "special-get-raises" true).params) s.abs) = some true := by kernel_rfl
theorem run1b (w : World) (os : OsState) : (endF (stepQ (denQ tabQ) Rw.prog (w.withFollow "special-get-raises" true)) 30000 Rw.prog (w.withFollow "special-get-raises" true) os).map (fun s => seenQ (PySem.W.view Rw.prog [64]) lns (importedModules Rw.prog.main.body) (fun s => xlAt (PySem.W.view Rw.prog [64]) [] s && recOk Rw.toRowW.records s) s.abs) = some (openGood (PySem.W.view Rw.prog [64]) lns) := by kernel_rfl
theorem run1c (w : World) (os : OsState) : (endF (stepQ (denQ tabQ) Rw.prog (w.withFollow "special-get-raises" true)) 30000 Rw.prog (w.withFollow "special-get-raises" true) os).map ob = some (hk.val (w.withFollow "special-get-raises" true)) := by kernel_rfl
theorem run1 (w : World) : HandSHeadRun.RunEq Rw (PySem.W.view Rw.prog [64]) hk ob 30000 lns (w.withFollow "special-get-raises" true) := fun os => map3 (run1a w os) (run1b w os) (run1c w os)
end K19
namespace K19
open PySem PySem.Spec PyProof.Rows L2 VB
theorem run (w : World) : HandSHeadRun.RunEq Rw (PySem.W.view Rw.prog [64]) hk ob 30000 lns w := PySem.W.byRow2 "special-get-raises" (P := fun w => HandSHeadRun.RunEq Rw (PySem.W.view Rw.prog [64]) hk ob 30000 lns w) run0 run1 w
theorem yw : (PySem.W.OpenLaw.row PySem.Challenge.rw_onewaybits_k19_lines_there_and_back).promised := by w_witness2
end K19
namespace VB
open PySem PySem.Spec PyProof.Rows L2

/-! ## 1. Room, and no display under way -/
structure Rm (k : Nat) (A : Around) : Prop where
  rm : Room k A
  gd : A.guards = some []
theorem Rm.le {j k : Nat} {A : Around} (r : Rm k A) (h : j ≤ k := by omega) : Rm j A := ⟨r.rm.mono h, r.gd⟩
theorem Rm.down {k : Nat} {A : Around} (r : Rm (k + 1) A) (e : Env) : Rm k (A.deeper e) := ⟨r.rm.deeper e, r.gd⟩

section
variable {P : Program} {w : World} {K : PySem.W.Frag} {mg : Str → Option Value} {base : Heap} {CX : CXT} {k : Nat}

/-- a def's promise, kept wherever there is room and no display is under way -/
structure Fg (P : Program) (w : World) (K : PySem.W.Frag) (mg : Str → Option Value) (base : Heap)
    (CX : CXT) (k : Nat) (f : Addr) (fd : FuncData) (ps : List Str) (sp : Sp) : Prop where
  cnt : ∀ vs H Q E, sp vs H Q E → vs.length = ps.length
  go : ∀ (A : Around) (outer : List Env) (s : Shared) (H : Hp) (args : Args) (us : List Value) (vs : List V)
    (Q : VK) (E : XK), Rm k A → Env0 P w K mg base A outer s H → BindsTo s fd args (ps.zip us) →
    Vals vs us → sp vs H Q E → codeAny (model P w) A (.call (.ref f) args) (CR CX outer P w H s Q E) s

theorem Fg.le {j : Nat} {f : Addr} {fd : FuncData} {ps : List Str} {sp : Sp}
    (F : Fg P w K mg base CX j f fd ps sp) (h : j ≤ k) : Fg P w K mg base CX k f fd ps sp :=
  ⟨F.cnt, fun A o s H a us vs Q E r => F.go A o s H a us vs Q E (r.le h)⟩

/-- a def by its body -/
theorem fg_of {x qual : Str} {params : Arguments} {body : List Stmt} {scope : Scope} {dvs : List V}
    {kws : List (Str × V)} {f : Addr} {fd : FuncData} {N ps : List Str} {sp : Sp}
    (F : FunD K x qual params body scope dvs kws f fd) (S : FnScope N ps scope)
    (cnt : ∀ vs H Q E, sp vs H Q E → vs.length = ps.length)
    (hb : ∀ (cdv : Value) (A : Around) (outer : List Env) (s : Shared) (H : Hp) (vs : List V) (Q : VK) (E : XK),
      Rm k (A.deeper (envOfC qual scope s.heap.objs.size f cdv)) → sp vs H Q E →
      ∃ t, PSs (cxOf CX P w K mg base N qual scope f cdv A outer s H E) body t ∧
        t { nx := fun _ H' => Q .non H', rt := Q } (start N vs) H) :
    Fg P w K mg base CX (k + 1) f fd ps sp := by
  obtain ⟨oc, od, dV, kV, doc, pm, an, cdv, ct, osl, rfl, lk, hcd, _, _⟩ := F.ex
  refine ⟨cnt, ?_⟩
  intro A outer s H args us vs Q E hr e0 hbind hv hsp
  have kin : K.In s.heap := e0.mod.kin.keeps (fun b o e => (e0.bs b o e).1)
  have nol : s.heap.NoLimit := e0.mod.nolimit.keeps (fun b o e => (e0.bs b o e).1)
  have hk : ∀ y ∈ ps.zip us, scope.names.lookup y.1 = some .local ∨
      (scope.names.lookup y.1 = some .cell ∧
        ((cellsFrom (s.heap.objs.size + 1) scope.names []).lookup y.1).isSome = true) := by
    rintro ⟨n, v⟩ hy
    cases S.par n (List.of_mem_zip hy).1 with
    | inl q => exact .inl q
    | inr q => exact .inr ⟨q, PySem.W.cellsFrom_some _ _ _ (.inl q)⟩
  refine codeAny_call_function hr.rm.depth (kin _ _ lk) rfl S.co S.gen rfl
    (PySem.W.codeRec_of kin hcd) (hbind _ _ _ _ (wpAny_newFunctionEnv_cells S.kind hk ?_))
  intro env he s1 x
  subst he
  refine ⟨nol.keeps x.toInCall.keep, codeAny_func ?_⟩
  obtain ⟨t, ht, hq⟩ := hb cdv A outer s H vs Q E (hr.down _) hsp
  have I := inv_start (CX := CX) (E := E) S hr.rm.hd e0 (cnt _ _ _ _ hsp) hv x
  refine wpAny_mono (ht.run [] s1 (start N vs) H _ I hq) ?_ (fun e s' hs => hs)
  intro fl s' hs
  cases fl with
  | ret u =>
    obtain ⟨v, σ', H', J, rv, q⟩ := hs
    exact ⟨v, H', J.os, J.bare, J.base, J.hok, rv, q⟩
  | next =>
    obtain ⟨σ', H', J, q⟩ := hs
    exact ⟨.non, H', J.os, J.bare, J.base, J.hok, rfl, q⟩
  | brk => exact (hs.choose_spec.choose_spec.2 : False).elim
  | cont => exact (hs.choose_spec.choose_spec.2 : False).elim

/-! ## 2. Calls by name -/
/-- a def of the module, told by its name -/
structure Cal (P : Program) (w : World) (K : PySem.W.Frag) (mg : Str → Option Value) (base : Heap)
    (CX : CXT) (k : Nat) (x : Str) (ps : List Str) (sp : Sp) : Prop where
  ex : ∃ (f : Addr) (fd : FuncData), Fg P w K mg base CX k f fd ps sp ∧ mg x = some (.ref f) ∧
    PySem.W.keepIn K (.ref f) = true ∧ Binds K fd ps []
/-- .. called with keywords -/
structure CalK (P : Program) (w : World) (K : PySem.W.Frag) (mg : Str → Option Value) (base : Heap)
    (CX : CXT) (k : Nat) (x : Str) (ps : List Str) (n : Nat) (ks : List Str)
    (g : List Value → List Value → List Value) (gV : List V → List V → List V) (sp : Sp) : Prop where
  ex : ∃ (f : Addr) (fd : FuncData), Fg P w K mg base CX k f fd ps sp ∧ mg x = some (.ref f) ∧
    PySem.W.keepIn K (.ref f) = true ∧ KBn K fd ps n ks g gV
end

section
variable {X : Cx} {CX : CXT} {k n : Nat} {ps ks : List Str} {sp : Sp} {E : XK} {x : Str} {p pos : Pos}
  {e : Expr} {es : List Expr} {kws : List Keyword} {t tk : TA}
  {g : List Value → List Value → List Value} {gV : List V → List V → List V}

/-- the end of a call, where the caller stands -/
theorem back {pins : List (Addr × Obj)} {σ : L2.St} {H : Hp} {s s' : Shared} {Q : VK} {E : XK} {r : Result}
    (hx : Passes CX X E) (I : Inv X pins σ H s) (hq : CR CX X.stack X.prog X.w H s Q E r s') :
    match r with
    | .ok (.ret u) => EP X pins σ Q u s'
    | .ok _ => False
    | .error e => X.xe e s' := by
  cases r with
  | error e => exact hx pins σ H s e s' I hq
  | ok fl =>
    cases fl with
    | ret u => exact I.after hq
    | next => exact hq
    | brk => exact hq
    | cont => exact hq

theorem enter {f : Addr} {fd : FuncData} {pins : List (Addr × Obj)} {σ : L2.St} {H : Hp} {s : Shared} {Q : VK}
    {args : Args} {us : List Value} {vs : List V} (F : Fg X.prog X.w X.K X.mg X.base CX k f fd ps sp)
    (hr : Rm k X.A) (hx : Passes CX X E) (I : Inv X pins σ H s) (hb : BindsTo s fd args (ps.zip us))
    (r : Vals vs us) (h : sp vs H Q E) :
    wpAny (model X.prog X.w) X.A (call (.ref f) args.pos args.kw) (EP X pins σ Q) X.xe s := by
  refine wpAny_call (codeAny_mono (F.go X.A X.stack s H args us vs Q E hr I.env0 hb r h) ?_)
  intro r s' hq
  have z := back hx I hq
  cases r with
  | error e => exact z
  | ok fl =>
    cases fl with
    | ret u => exact z
    | next => exact z.elim
    | brk => exact z.elim
    | cont => exact z.elim

theorem pe_cal (C : Cal X.prog X.w X.K X.mg X.base CX k x ps sp) (hr : Rm k X.A) (hx : Passes CX X E)
    (ha : PA X (e :: es) t) (hg : Gl X x := by rfl) (hdb : (x == ("__debug__" : Str)) = false := by decide)
    (he : starEach (e :: es) X.env = (false, eval e X.env) :: starEach es X.env := by rfl)
    (hpl : (backTo pos (starEach es X.env)).any (·.1) = false := by rfl) :
    PE X (.Call (.Name x p) (e :: es) [] pos) (tCall sp [] E t) := by
  obtain ⟨f, fd, F, hm, hk, hb⟩ := C.ex
  constructor
  intro pins s σ H Q I h
  refine wpAny_Call_Name_kw (ld_glob I hg hm ?_ hdb)
  refine PySem.W.callWith_K (h₀ := X.base) I.ok.mod.kin hk (thn (ha.run pos pins s σ H _ I h) ?_) he hpl
  rintro us s1 ⟨vs, H1, I1, r, q⟩
  have q : sp (vs ++ []) H1 Q E := q
  rw [List.append_nil] at q
  have l : (us ++ []).length = ps.length := by
    rw [List.append_nil, ← r.length]
    exact F.cnt _ _ _ _ q
  have b := hb s1 us I1.kIn l
  rw [List.append_nil] at b
  exact ⟨I1.kIn, enter (args := ⟨us, []⟩) F hr hx I1 b r q⟩

theorem pe_cal0 (C : Cal X.prog X.w X.K X.mg X.base CX k x ps sp) (hr : Rm k X.A) (hx : Passes CX X E)
    (hg : Gl X x := by rfl) (hdb : (x == ("__debug__" : Str)) = false := by decide) :
    PE X (.Call (.Name x p) [] [] pos) (tCall sp [] E tNil) := by
  obtain ⟨f, fd, F, hm, hk, hb⟩ := C.ex
  constructor
  intro pins s σ H Q I h
  have q : sp [] H Q E := h
  refine wpAny_Call_Name_kw (ld_glob I hg hm ?_ hdb)
  refine PySem.W.callWith_K0 I.kIn hk ?_
  have b := hb s [] I.kIn (F.cnt _ _ _ _ q)
  exact enter (args := ⟨[], []⟩) F hr hx I b .nil q

/-- f(k = v, ..): no value by position -/
theorem pe_calk (C : CalK X.prog X.w X.K X.mg X.base CX k x ps 0 ks g gV sp) (hr : Rm k X.A) (hx : Passes CX X E)
    (hkw : PK X kws tk) (hg : Gl X x := by rfl)
    (hall : (backToKw pos (keywordEach kws X.env)).all (·.1.isSome) = true := by rfl)
    (hks : (backToKw pos (keywordEach kws X.env)).filterMap (·.1) = ks := by rfl)
    (hdb : (x == ("__debug__" : Str)) = false := by decide)
    (hpl : ((backTo pos (starEach [] X.env)).any (·.1) || (backToKw pos (keywordEach kws X.env)).any (·.1.isNone)) = false := by rfl) :
    PE X (.Call (.Name x p) [] kws pos) (tCallN 0 ks.length sp gV E tNil tk) := by
  obtain ⟨f, fd, F, hm, hk, hb⟩ := C.ex
  constructor
  intro pins s σ H Q I h
  refine wpAny_Call_Name_kw (ld_glob I hg hm ?_ hdb)
  have h : tk σ H fun zs H2 => ([] : List V).length = 0 ∧ zs.length = ks.length ∧ sp (gV [] zs) H2 Q E := h
  refine PySem.W.callWith_KW0 (h₀ := X.base) I.ok.mod.kin hk hall (thn (hkw.run pos pins s σ H _ I h) ?_) hpl
  rintro ws s2 ⟨zs, H2, I2, rz, _, l2, q2⟩
  refine ⟨I2.kIn, ?_⟩
  rw [hks]
  exact enter (args := ⟨[], ks.zip ws⟩) F hr hx I2
    (hb.to s2 [] ws I2.kIn rfl (rz.length.symm.trans l2)) (hb.rel .nil rz) q2
/-- f(e, .., k = v, ..) -/
theorem pe_calpk (C : CalK X.prog X.w X.K X.mg X.base CX k x ps n ks g gV sp) (hr : Rm k X.A) (hx : Passes CX X E)
    (ha : PA X (e :: es) t) (hkw : PK X kws tk) (hg : Gl X x := by rfl)
    (hall : (backToKw pos (keywordEach kws X.env)).all (·.1.isSome) = true := by rfl)
    (hks : (backToKw pos (keywordEach kws X.env)).filterMap (·.1) = ks := by rfl)
    (hdb : (x == ("__debug__" : Str)) = false := by decide)
    (he : starEach (e :: es) X.env = (false, eval e X.env) :: starEach es X.env := by rfl)
    (hpl : ((backTo pos (starEach (e :: es) X.env)).any (·.1) || (backToKw pos (keywordEach kws X.env)).any (·.1.isNone)) = false := by rfl) :
    PE X (.Call (.Name x p) (e :: es) kws pos) (tCallN n ks.length sp gV E t tk) := by
  obtain ⟨f, fd, F, hm, hk, hb⟩ := C.ex
  constructor
  intro pins s σ H Q I h
  refine wpAny_Call_Name_kw (ld_glob I hg hm ?_ hdb)
  refine PySem.W.callWith_KW (h₀ := X.base) I.ok.mod.kin hk hall (thn (ha.run pos pins s σ H _ I h) ?_) hpl he
  rintro us s1 ⟨vs, H1, I1, r, q⟩
  refine thn (hkw.run pos pins s1 σ H1 _ I1 q) ?_
  rintro ws s2 ⟨zs, H2, I2, rz, l1, l2, q2⟩
  refine ⟨I2.kIn, ?_⟩
  rw [hks]
  exact enter (args := ⟨us, ks.zip ws⟩) F hr hx I2
    (hb.to s2 us ws I2.kIn (r.length.symm.trans l1) (rz.length.symm.trans l2)) (hb.rel r rz) q2
end

/-! ## 3. The law's own call -/
theorem first_call {P : Program} {w : World} {K : PySem.W.Frag} {mg mb : Str → Option Value} {CX : CXT} {k : Nat}
    {fa a : Addr} {fd : FuncData} {x : Str} {sp : Sp} {s : Shared} {vs : List Value} {ns : List Int}
    (KX : K.In s.heap) (hns : s.heap.Ns mainGlobals mg) (hb : s.heap.Ns builtinsNs mb)
    (hbb : ∀ x : Str, x ≠ "__name__" → mb x = bootBuiltins x) (hlim : s.heap.NoLimit) (hg : s.gens = #[])
    (ha : s.heap.get? a = some { cls := .type "list", data := .seq vs.toArray }) (hi : IntsAre vs ns)
    (hl : ns.length ≤ sizeLine) (hr : Rm k callerA)
    (F : ∀ base : Heap, K.In base → base.Ns mainGlobals mg → Fg P w K mg base CX k fa fd [x] sp)
    (hbind : ∀ (s : Shared) (u : Value), BindsTo s fd ⟨[u], []⟩ [(x, u)])
    (hsp : ∀ H : Hp, Only H → SqL K H a (ns.map V.int) → sp [.ref a] H (fun v _ => v = .bl true) fun _ _ _ => False)
    (hCX : ∀ H e s', CX [] H s (fun _ _ _ => False) e s' → False) :
    codeAny (model P w) callerA (.call (.ref fa) ⟨[.ref a], []⟩)
      (fun r s' => r = .ok (.ret (.bool true)) ∧ OldK s.heap s'.heap ∧ s'.os = s.os ∧ AllBare s'.gens) s := by
  -- what is tracked at first: the script at most
  let o : Obj := { cls := .type "list", data := .seq vs.toArray }
  have main : ∀ H : Hp, (∀ b, H b = none ∨ (b = a ∧ H b = some (.frz o (.lst (ns.map V.int))) ∧ K.lookup a = none)) →
      SqL K H a (ns.map V.int) → HOk P w H s.heap → codeAny (model P w) callerA (.call (.ref fa) ⟨[.ref a], []⟩)
      (fun r s' => r = .ok (.ret (.bool true)) ∧ OldK s.heap s'.heap ∧ s'.os = s.os ∧ AllBare s'.gens) s := by
    intro H hH hS hok
    have dictFree : ∀ {b : Addr} {ob : Obj} {es : Array DictEntry} {ep : Nat}, s.heap.get? b = some ob →
        ob.data = .dict es ep → H b = none := by
      intro b ob es ep e d
      rcases hH b with q | ⟨rfl, q, _⟩
      · exact q
      · rw [ha] at e
        cases e
        exact nomatch d
    have nsB : ∀ {b : Addr} {m : Str → Option Value}, s.heap.Ns b m → (hidT s.heap H).Ns b m := by
      rintro b m ⟨ob, es, ep, e, d, r⟩
      exact ⟨ob, es, ep, hidT_get e (dictFree e d), d, r⟩
    have kB : K.In (hidT s.heap H) := by
      intro b ob e
      refine hidT_get (KX b ob e) ?_
      rcases hH b with q | ⟨rfl, _, q⟩
      · exact q
      · rw [e] at q
        cases q
    have lim' : (hidT s.heap H).NoLimit := by
      obtain ⟨mc, h1, h2⟩ := hlim
      exact ⟨mc, nsB h1, h2⟩
    have md : Mod K mg (hidT s.heap H) := ⟨kB, nsB hns, ⟨mb, nsB hb, hbb⟩, lim'⟩
    have nob : ∀ b ∈ frs ([] : List Env), H b = none := fun b hb => by cases hb
    have e0 : Env0 P w K mg (hidT s.heap H) callerA [] s H :=
      ⟨rfl, md, fun b ob e => of_hidT e, Nat.le_of_eq (hidT_size _ _), trivial, nob, hok, .of_eq hg⟩
    have oH : Only H := by
      intro b
      rcases hH b with q | ⟨_, q, _⟩
      · exact .inl q
      · exact .inr ⟨_, _, q⟩
    have run := (F _ kB (nsB hns)).go callerA [] s H ⟨[.ref a], []⟩ [.ref a] [.ref a] _ _ hr e0
      (hbind s (.ref a)) (.cons rfl .nil) (hsp H oH hS)
    refine codeAny_mono run ?_
    intro r s' h
    match r, h with
    | .error e, h => exact (hCX H e s' h).elim
    | .ok .next, h => exact False.elim h
    | .ok .brk, h => exact False.elim h
    | .ok .cont, h => exact False.elim h
    | .ok (.ret u), h =>
      obtain ⟨v, H', os, bare, un, hok', rv, q⟩ := h
      have q : v = .bl true := q
      subst q
      have ru : u = Value.bool true := rv
      subst ru
      refine ⟨rfl, OldK.of_keep ?_, os, bare⟩
      intro b ob e
      rcases hH b with q | ⟨_, q, _⟩
      · exact un.keep b ob e q (fun z => by cases z) (fun z => by cases z)
      · obtain ⟨e1, _⟩ := hok b _ q
        obtain ⟨e2, _⟩ := hok' b _ (un.frzs b o _ q)
        rw [e] at e1
        cases e1
        exact e2
  have rv := vals_ints hi
  cases hk : K.lookup a with
  | some ob =>
    have e := KX a ob hk
    rw [ha] at e
    cases e
    refine main (fun _ => none) (fun b => .inl rfl) (.inr ⟨_, vs.toArray, _, hk, rfl, rfl, rfl, ?_, by simpa using rv⟩) (fun b u z => by cases z)
    rw [List.size_toArray, hi.length]
    exact hl
  | none =>
    let H1 : Hp := fun b => if b = a then some (.frz o (.lst (ns.map V.int))) else none
    have at1 : H1 a = some (.frz o (.lst (ns.map V.int))) := if_pos rfl
    refine main H1 ?_ (.inl (.inr ⟨o, at1⟩)) ?_
    · intro b
      by_cases hb : b = a
      · subst hb
        exact .inr ⟨rfl, at1, hk⟩
      · exact .inl (if_neg hb)
    · intro b u z
      by_cases hb : b = a
      · subst hb
        rw [at1] at z
        cases z
        exact ⟨ha, by rw [List.length_map]; exact hl, vs, _, rv, ha⟩
      · have z' : H1 b = none := if_neg hb
        rw [z'] at z
        cases z

/-- the goal behind the head -/
theorem law_walk {l : PySem.W.OpenLaw} {n k : Nat} {q : Program} {loose : List Str} {XP : (Str → Option Value) → Heap → Prop}
    {YP : World → Heap → Prop} {d : DefRec} {CX : CXT} {x : Str}
    (hn : l.most = some n) (hn2 : n ≤ sizeLine) (hdf : d.params.defaults = []) (hr : Rm k callerA)
    (F : ∀ (w : World) (mg : Str → Option Value) (fa : Addr) (h : Heap), YP w h → h.Ns mainGlobals mg → mg d.name = some (.ref fa) →
      ∃ (K : PySem.W.Frag) (fd : FuncData) (sp : Sp), K.In h ∧ (∀ (s : Shared) (u : Value), BindsTo s fd ⟨[u], []⟩ [(x, u)]) ∧
        (∀ (H : Hp) (a : Addr) (ns : List Int), ns.length ≤ n → Only H → SqL K H a (ns.map V.int) →
          sp [.ref a] H (fun v _ => v = .bl true) fun _ _ _ => False) ∧
        ∀ base : Heap, K.In base → base.Ns mainGlobals mg → Fg l.prog w K mg base CX k fa fd [x] sp)
    (hCX : ∀ (H : Hp) (s : Shared) (e : Value) (s' : Shared), CX [] H s (fun _ _ _ => False) e s' → False) :
    PySem.W.WalkO q loose XP YP l.row.toRowW d [] (fun f vs => PySem.call f vs) := by
  refine Att.attach_call hn hdf ?_
  intro w s₀ s₁ mg mb fa o pm cd doc a vs ns G Y ho hd hcd hmg hobj hints hlen hg
  obtain ⟨K, fd, sp, KX, hb, hsp, hF⟩ := F w mg fa _ Y G.T.g hmg
  exact first_call KX G.T.g G.T.b G.T.builtins G.T.nolimit hg hobj hints (Nat.le_trans hlen hn2) hr hF hb
    (fun H hO hS => hsp H a ns hlen hO hS) (fun H e s' => hCX H s₁ e s')
end VB
namespace VB
open PySem PySem.Spec PyProof.Rows L2
mutual
theorem dp_noDict {K : PySem.W.Frag} {H : Hp} : ∀ {d : PyData} {v : V}, Dp K H v d → d.hasDict = false
  | .none, _, _ => by simp only [PyData.hasDict]
  | .bool _, _, _ => by simp only [PyData.hasDict]
  | .int _, _, _ => by simp only [PyData.hasDict]
  | .str _, _, _ => by simp only [PyData.hasDict]
  | .list ds, _, .lst _ h => by
    simp only [PyData.hasDict]
    exact dpAll_noDict h
  | .tuple ds, _, .tup _ h => by
    simp only [PyData.hasDict]
    exact dpAll_noDict h
  | .dict _, _, h => nomatch h
theorem dpAll_noDict {K : PySem.W.Frag} {H : Hp} : ∀ {ds : List PyData} {vs : List V}, DpAll K H vs ds → PyData.hasDictAll ds = false
  | [], _, _ => by simp only [PyData.hasDictAll]
  | d :: ds, _, .cons h t => by simp only [PyData.hasDictAll, dp_noDict h, dpAll_noDict t, Bool.or_self]
end
section
variable {X : Cx} {k : Nat}
/-- repr(x), x data of any depth without dicts -/
@[irreducible] def rRepr (K : PySem.W.Frag) : List V → Hp → VK → Prop := fun xs H Q => ∃ (a : Addr) (d : PyData), xs = [.ref a] ∧
  Dp K H (.ref a) d ∧ d.showable = true ∧ d.depth ≤ 60 ∧ d.shown.length ≤ sizeLine ∧ Q (.str d.shown) H
theorem call_repr (hr : Rm k X.A) : CallR X (.builtin "repr") (rRepr X.K) := by
  intro pins s σ H xs us Q I r h
  unfold rRepr at h
  obtain ⟨a, d, rfl, hd, hs, hdep, hl, q⟩ := h
  obtain ⟨u, rfl, ru⟩ := vals1 r
  obtain ⟨as, rd⟩ := Dp.reads I d _ u hd ru
  cases (show u = Value.ref a from ru)
  have hu := hr.rm.un
  refine repr_of_reads' rd hs (PyData.noDict_hsm (dp_noDict hd)) hr.gd (by omega) (fun _ _ e => e) ?_ hl
  intro h' u tk kp
  refine ⟨.str d.shown, H, ?_, ⟨u, rfl⟩, q⟩
  exact I.un (Un.kept kp) (I.hok.kept kp)
end
end VB
namespace VB
open PySem PySem.Spec PyProof.Rows L2
section
variable {X : Cx} {K : PySem.W.Frag}
def rAddU (K : PySem.W.Frag) : R2 := fun x y H Q => rI0 (fun i j => .int (i + j)) x y H Q ∨ (rCat x y H Q ∨ rCatT K x y H Q)
theorem u_add (hK : X.K = K := by rfl) : OpR X (binaryOp .Add) (rAddU K) := by
  subst hK
  exact op_add.or (op_cat.or op_catT)
def rMulU (K : PySem.W.Frag) : R2 := fun x y H Q => rI CMulX (fun i j => .int (i * j)) x y H Q ∨ (rRep x y H Q ∨ rRepT K x y H Q)
theorem u_mul (hK : X.K = K := by rfl) : OpR X (binaryOp .Mult) (rMulU K) := by
  subst hK
  exact op_mulX.or (op_rep.or op_repT)
def rEqU (K : PySem.W.Frag) : R2 := fun x y H Q => rEq x y H Q ∨ rEqD K x y H Q
theorem u_eq {k : Nat} (hr : Rm k X.A) (hK : X.K = K := by rfl) : OpR X (compareOp .Eq) (rEqU K) := by
  subst hK
  exact op_eq.or (op_eqD hr.rm.units)
def rNeU (K : PySem.W.Frag) : R2 := fun x y H Q => rNe x y H Q ∨ rNeD K x y H Q
theorem u_ne {k : Nat} (hr : Rm k X.A) (hK : X.K = K := by rfl) : OpR X (compareOp .NotEq) (rNeU K) := by
  subst hK
  exact op_ne.or (op_neD hr.rm.units)
def rSlU (K : PySem.W.Frag) : V → Option Int → Option Int → Hp → VK → Prop := fun x lo hi H Q => rSlL K x lo hi H Q ∨ (rSlT K x lo hi H Q ∨ rSlS x lo hi H Q)
theorem u_sl (hK : X.K = K := by rfl) : SlR X (rSlU K) := by
  subst hK
  exact sl_list.or (sl_tup.or sl_str)
theorem u_ix (hK : X.K = K := by rfl) : IxR X (rIx K) := by
  subst hK
  exact ix_seq
theorem u_in (hK : X.K = K := by rfl) : OpR X (compareOp .In) (rIn K false) := by
  subst hK
  exact op_in_seq
theorem u_notin (hK : X.K = K := by rfl) : OpR X (compareOp .NotIn) (rIn K true) := by
  subst hK
  exact op_notIn_seq
def rLenU (K : PySem.W.Frag) : List V → Hp → VK → Prop := fun xs H Q => ∃ x n, xs = [x] ∧ LenV K x H n ∧ Q (.int n) H
theorem u_len (hK : X.K = K := by rfl) : CallR X (.builtin "len") (rLenU K) := by
  subst hK
  exact call_len
theorem u_isi (hK : X.K = K := by rfl) : CallR X (.builtin "isinstance") (rIsi K) := by
  subst hK
  exact call_isi
theorem u_isiT (hK : X.K = K := by rfl) : CallR X (.builtin "isinstance") (rIsiT K) := by
  subst hK
  exact call_isiT
theorem u_sum (hc : X.calm = true) (hK : X.K = K := by rfl) : CallR X (.builtin "sum") (rSum K) := by
  subst hK
  exact cr_sum hc
theorem u_all (hc : X.calm = true) (hK : X.K = K := by rfl) : CallR X (.builtin "all") (rAll K) := by
  subst hK
  exact cr_all hc
theorem u_any (hc : X.calm = true) (hK : X.K = K := by rfl) : CallR X (.builtin "any") (rAny K) := by
  subst hK
  exact cr_any hc
theorem u_repr {k : Nat} (hr : Rm k X.A) (hK : X.K = K := by rfl) : CallR X (.builtin "repr") (rRepr K) := by
  subst hK
  exact call_repr hr
def rListU (K : PySem.W.Frag) : List V → Hp → VK → Prop := fun xs H Q => ∃ p ys, xs = [.ref p] ∧ (SqL K H p ys ∨ SqT K H p ys) ∧ ∀ l, H l = none → Q (.ref l) (upd H l (.lst ys))
theorem u_list (hK : X.K = K := by rfl) : CallR X (.type "list") (rListU K) := by
  subst hK
  exact call_list_of
def rTupU (K : PySem.W.Frag) : List V → Hp → VK → Prop := fun xs H Q => ∃ p ys, xs = [.ref p] ∧ ((SqL K H p ys ∧ ∀ l, H l = none → Q (.ref l) (upd H l (.tup ys))) ∨ (SqT K H p ys ∧ Q (.ref p) H))
theorem u_tup (hK : X.K = K := by rfl) : CallR X (.type "tuple") (rTupU K) := by
  subst hK
  exact call_tuple_of
theorem u_count (hK : X.K = K := by rfl) : MtR X "list.count" (rCntI K) := by
  subst hK
  exact mt_lcount
def tTru (K : PySem.W.Frag) (ta : TE) : TT := fun σ H Q => ta σ H fun x H' => ∃ k, TruV K x H' k ∧ Q k H'
theorem pt_tru {a : Expr} {ta : TE} (ha : PE X a ta) (he : ∀ whole, isTrue a X.env whole = (do let v ← whole; standAt a.pos; holding [v] (truthy v))) (hK : X.K = K := by rfl) : PT X a (tTru K ta) := by
  subst hK
  exact pt_truth ha he
theorem pi_either {tg iter : Expr} {a b : TI} (h : PI X tg iter a) (h' : PI X tg iter b) : PI X tg iter (fun σ H R => a σ H R ∨ b σ H R) := by
  constructor
  intro pins s σ H R I q
  rcases q with q | q
  · exact h.run pins s σ H R I q
  · exact h'.run pins s σ H R I q
def iSeq (K : PySem.W.Frag) (t : TE) : TI := fun σ H R => iList K t σ H R ∨ iTup K t σ H R
theorem pi_seq {tg e : Expr} {t : TE} (h : PE X e t) (hK : X.K = K := by rfl) : PI X tg e (iSeq K t) := by
  subst hK
  exact pi_either (pi_list h) (pi_tup h)
theorem pi_enu {e : Expr} {ta : TA} {p pos tpos : Pos} {elts : List Expr} {kk : Nat} (hg : Gl X "enumerate") (hm : X.mg "enumerate" = none) (ha : PA X [e] ta) (hK : X.K = K := by rfl)
    (hs : starEach [e] X.env = (false, eval e X.env) :: starEach [] X.env := by rfl) : PI X (.Tuple elts kk tpos) (.Call (.Name "enumerate" p) [e] [] pos) (iEnum K ta) := by
  subst hK
  exact pi_enum hg hm ha hs
theorem pg_tupU {es : List Expr} {k : Nat} {t : TGs} {n : Nat} {pos : Pos} (hc : X.calm = true) (h : PGs X es t) (hK : X.K = K := by rfl)
    (hn : (assignEach es X.env).length = n := by rfl) (hst : (assignEach es X.env).findIdx? (·.1) = none := by rfl) : PG X (.Tuple es k pos) (gTup K n t) := by
  subst hK
  exact pg_tup hc h hn hst
/-- an int's remainder and quotient by a positive one, as they are -/
theorem fmodE {a b : Int} (h : 0 ≤ b := by decide) : a.fmod b = a % b := Int.fmod_eq_emod_of_nonneg a h
theorem fdivE {a b : Int} (h : 0 ≤ b := by decide) : a.fdiv b = a / b := Int.fdiv_eq_ediv_of_nonneg a h
/-- by a positive divisor -/
theorem u_mod : OpR X (binaryOp .Mod) (rI (fun _ j => 0 < j) fun i j => .int (i % j)) := by
  intro pins s σ H x y v u Q I rx ry h
  obtain ⟨i, j, rfl, rfl, hj, q⟩ := h
  refine op_modN pins s σ H _ _ v u Q I rx ry ⟨i, j, rfl, rfl, by omega, ?_⟩
  show Q (.int (i.fmod j)) H
  rw [fmodE (by omega)]
  exact q
theorem u_fdiv : OpR X (binaryOp .FloorDiv) (rI (fun _ j => 0 < j ∧ j < 1073741824) fun i j => .int (i / j)) := by
  intro pins s σ H x y v u Q I rx ry h
  obtain ⟨i, j, rfl, rfl, hj, q⟩ := h
  refine op_fdivN pins s σ H _ _ v u Q I rx ry ⟨i, j, rfl, rfl, ⟨by omega, by omega⟩, ?_⟩
  show Q (.int (i.fdiv j)) H
  rw [fdivE (by omega)]
  exact q
end
end VB
namespace VB
/-- what follows, shown once for several ways -/
theorem once {R G : Prop} (main : R → G) (rest : R) : G := main rest
end VB
/-! sequences: lists and tuples alike -/
namespace VB
open PySem PySem.Spec PyProof.Rows L2
/-- a list (false) or a tuple (true) of the values xs -/
def Sv (t : Bool) (K : PySem.W.Frag) (H : Hp) (a : Addr) (xs : List V) : Prop := match t with
  | false => SqL K H a xs
  | true => SqT K H a xs
section
variable {K : PySem.W.Frag} {H H' : Hp} {a : Addr} {xs : List V} {t : Bool}
theorem Sv.ex (h : Sv t K H a xs) (e : Evl.Ex H H') : Sv t K H' a xs := by
  cases t with
  | false => exact Evl.ex_l e (show SqL K H a xs from h)
  | true => exact Evl.ex_t e (show SqT K H a xs from h)
theorem Sv.lst (h : H a = some (.lst xs)) : Sv false K H a xs := SqL.of h
theorem Sv.tup (h : H a = some (.tup xs)) : Sv true K H a xs := SqT.of h
/-- a walk over what stands in a slot -/
theorem seq_var {i : Nat} {σ : L2.St} {R : It → Hp → Prop} (e : σ[i]? = some (some (.ref a))) (S : Sv t K H a xs)
    (h : ∀ J, Walk J xs.length (fun H => Sv t K H a xs) (YAt xs) → R J H) : iSeq K (tVar i) σ H R := by
  cases t with
  | false => exact .inl ⟨_, e, a, rfl, ⟨xs, S⟩, h _ walk_list⟩
  | true => exact .inr ⟨_, e, a, rfl, ⟨xs, S⟩, h _ walk_tup⟩
theorem Sv.len (S : Sv t K H a xs) : LenV K (.ref a) H xs.length := by
  cases t with
  | false => exact .inl ⟨xs, S, rfl⟩
  | true => exact .inr ⟨xs, S, rfl⟩
theorem Sv.ix {x v : V} {i : Int} {Q : VK} (S : Sv t K H a xs) (h : atI xs i = some v) (q : Q v H) : rIx K (.ref a) (.int i) H Q := by
  cases t with
  | false => exact .inl ⟨a, xs, i, v, rfl, rfl, S, h, q⟩
  | true => exact .inr (.inl ⟨a, xs, i, v, rfl, rfl, S, h, q⟩)
theorem Sv.either (S : Sv t K H a xs) : SqL K H a xs ∨ SqT K H a xs := by
  cases t with
  | false => exact .inl S
  | true => exact .inr S
end
/-- a range by a step upward -/
theorem rg_up {n c : Int} (hn : 0 ≤ n) (hn2 : n < 1000000) (hc : 0 < c) (hc2 : c < 1000000) : RgC 0 n c ((n + c - 1) / c).toNat := by
  refine ⟨by omega, by omega, ?_, ?_⟩
  · have z := PyProof.Rows.rangeSize_pos (len := n) (c := c) (by omega) hn
    have d : 0 ≤ (n + c - 1) / c := Int.ediv_nonneg (by omega) (by omega)
    have d2 : (n + c - 1) / c ≤ n + c - 1 := Int.ediv_le_self _ (by omega)
    have d3 : (n + c - 1) / c * c ≤ n + c - 1 := Int.ediv_mul_le _ (by omega)
    unfold Builtin.Range.small
    rw [z]
    simp only [Builtin.Range.rangeFitsLong, Bool.and_eq_true, Bool.or_eq_true, decide_eq_true_eq, beq_iff_eq, hc, gt_iff_lt, if_true]
    omega
  · have d : 0 ≤ (n + c - 1) / c := Int.ediv_nonneg (by omega) (by omega)
    rw [PyProof.Rows.rangeSize_pos (by omega) hn]
    omega
/-- the promises' shapes: a new list, a new tuple, a value; what stood stands -/
abbrev RL (xs : List V) (H : Hp) (Q : VK) : Prop := ∀ (p : Addr) (H' : Hp), H p = none → Evl.Ex H H' → H' p = some (.lst xs) → Q (.ref p) H'
abbrev RT (xs : List V) (H : Hp) (Q : VK) : Prop := ∀ (p : Addr) (H' : Hp), H p = none → Evl.Ex H H' → H' p = some (.tup xs) → Q (.ref p) H'
abbrev RV (v : V) (H : Hp) (Q : VK) : Prop := ∀ H' : Hp, Evl.Ex H H' → Q v H'
/-- ints as values -/
abbrev IV (ns : List Int) : List V := ns.map V.int
theorem iv_get {ns : List Int} {i : Nat} {x : V} (h : (IV ns)[i]? = some x) : ∃ n, ns[i]? = some n ∧ x = .int n := by
  rw [List.getElem?_map] at h
  cases e : ns[i]? with
  | none => rw [e] at h; cases h
  | some n =>
    rw [e] at h
    exact ⟨n, rfl, (Option.some.inj h).symm⟩
theorem iv_at {ns : List Int} {i : Nat} {n : Int} (h : ns[i]? = some n) : atI (IV ns) (i : Int) = some (.int n) := by
  apply atI_nat
  rw [List.getElem?_map, h]
  rfl
theorem iv_len (ns : List Int) : (IV ns).length = ns.length := List.length_map ..
theorem iv_snoc (ns : List Int) (n : Int) : IV ns ++ [V.int n] = IV (ns ++ [n]) := by simp
theorem take_snoc {α : Type} {l : List α} {i : Nat} {x : α} (h : l[i]? = some x) : l.take (i + 1) = l.take i ++ [x] := by
  rw [List.take_add_one, h]
  rfl
/-- a comprehension over a range that changes nothing: us its items -/
theorem lc_pureR {n j : Nat} {us : List Int} {te : TE} {vs : List Nat} {σ : L2.St} {H1 : Hp} {D : Addr} {Qd : Hp → Prop} (hl : us.length = n) (hz : n ≤ 60000) (hD : H1 D = none)
    (hw : ∀ x, wipe ((wipe σ vs).set j x) vs = wipe σ vs)
    (hs : ∀ (i : Nat) (u : Int) (H : Hp) (Q : VK), us[i]? = some u → Evl.Ex H1 H → (∀ H' : Hp, Evl.Ex H H' → Q (.int u) H') → te ((wipe σ vs).set j (some (.int (i : Int)))) H Q)
    (hd : ∀ H, Evl.Ex H1 H → H D = some (.lst (IV us)) → Qd H) :
    ∃ W : Nat → Nat → Hp → Prop, (∃ m, W 0 m (upd H1 D (.lst []))) ∧ ∀ i m H, W i m H →
      ((Itr 0 n).stop i H ∧ Qd H) ∨ ((Itr 0 n).go i H ∧ ∃ Nx : Hp → Prop, (∀ H', Nx H' → ∃ m', m' < m ∧ W (i + 1) m' H') ∧ ∀ x H', (Itr 0 n).yld i H x H' →
        gName j x (wipe σ vs) H' fun σ2 H2 => wipe σ2 vs = wipe σ vs ∧ tYes σ2 H2 fun b H3 =>
        if b = true then te σ2 H3 fun y H4 => ∃ acc, H4 D = some (.lst acc) ∧ acc.length < sizeLine ∧ Nx (upd H4 D (.lst (acc ++ [y]))) else Nx H3) := by
  refine lc_range (lo := 0) (n := n) (fun i H' => Evl.Ex H1 H' ∧ i ≤ n ∧ H' D = some (.lst (IV (us.take i)))) ⟨Evl.Ex.new hD, Nat.zero_le _, upd_same⟩ ?_ ?_
  · rintro i H hi ⟨e1, hi2, h1⟩
    have e0 : (0 : Int) + (i : Int) = (i : Int) := Int.zero_add _
    rw [e0]
    refine ⟨hw _, ?_⟩
    obtain ⟨u, hu⟩ : ∃ u, us[i]? = some u := ⟨us[i]'(by omega), by simp [show i < us.length by omega]⟩
    show te _ H _
    refine hs i u H _ hu e1 fun H' e2 => ⟨_, e2 D _ h1, ?_, Evl.Ex.mut (e1.trans e2) hD, by omega, ?_⟩
    · rw [iv_len, List.length_take]
      exact Evl.sz_lt (by omega)
    · rw [upd_same, iv_snoc, take_snoc hu]
  · rintro H ⟨e1, _, h1⟩
    refine hd H e1 ?_
    rw [h1, ← hl, List.take_length]
/-- .. over a sequence -/
theorem lc_pureS {J : It} {G : Hp → Prop} {n j : Nat} {us : List Int} {xs : List V} {te : TE} {vs : List Nat} {σ : L2.St} {H1 : Hp} {D : Addr} {Qd : Hp → Prop} (wk : Walk J n G (YAt xs)) (hG : ∀ H, Evl.Ex H1 H → G H)
    (hl : us.length = n) (hz : n ≤ 60000) (hD : H1 D = none) (hw : ∀ x, wipe ((wipe σ vs).set j x) vs = wipe σ vs)
    (hs : ∀ (i : Nat) (x : V) (u : Int) (H : Hp) (Q : VK), xs[i]? = some x → us[i]? = some u → Evl.Ex H1 H → (∀ H' : Hp, Evl.Ex H H' → Q (.int u) H') → te ((wipe σ vs).set j (some x)) H Q)
    (hd : ∀ H, Evl.Ex H1 H → H D = some (.lst (IV us)) → Qd H) :
    ∃ W : Nat → Nat → Hp → Prop, (∃ m, W 0 m (upd H1 D (.lst []))) ∧ ∀ i m H, W i m H →
      (J.stop i H ∧ Qd H) ∨ (J.go i H ∧ ∃ Nx : Hp → Prop, (∀ H', Nx H' → ∃ m', m' < m ∧ W (i + 1) m' H') ∧ ∀ x H', J.yld i H x H' →
        gName j x (wipe σ vs) H' fun σ2 H2 => wipe σ2 vs = wipe σ vs ∧ tYes σ2 H2 fun b H3 =>
        if b = true then te σ2 H3 fun y H4 => ∃ acc, H4 D = some (.lst acc) ∧ acc.length < sizeLine ∧ Nx (upd H4 D (.lst (acc ++ [y]))) else Nx H3) := by
  refine lc_it wk (fun i H' => Evl.Ex H1 H' ∧ i ≤ n ∧ H' D = some (.lst (IV (us.take i)))) ⟨Evl.Ex.new hD, Nat.zero_le _, upd_same⟩ (fun i H _ h => hG H h.1) ?_ ?_
  · rintro i x H H' hi ⟨e1, hi2, h1⟩ ⟨rfl, hx⟩
    refine ⟨hw _, ?_⟩
    obtain ⟨u, hu⟩ : ∃ u, us[i]? = some u := ⟨us[i]'(by omega), by simp [show i < us.length by omega]⟩
    show te _ H' _
    refine hs i x u H' _ hx hu e1 fun H'' e2 => ⟨_, e2 D _ h1, ?_, Evl.Ex.mut (e1.trans e2) hD, by omega, ?_⟩
    · rw [iv_len, List.length_take]
      exact Evl.sz_lt (by omega)
    · rw [upd_same, iv_snoc, take_snoc hu]
  · rintro H ⟨e1, _, h1⟩
    refine hd H e1 ?_
    rw [h1, ← hl, List.take_length]
end VB
/-! data of ints: what stands, what repr shows, what == says -/
namespace VB
open PySem PySem.Spec PyProof.Rows L2
abbrev DL (ns : List Int) : PyData := .list (ns.map .int)
abbrev DT (ns : List Int) : PyData := .tuple (ns.map .int)
section
variable {K : PySem.W.Frag} {H H' : Hp} {a : Addr} {ns : List Int} {t : Bool}
theorem dpAll_ints : ∀ ns : List Int, DpAll K H (IV ns) (ns.map .int)
  | [] => .nil
  | n :: ns => .cons (.int n) (dpAll_ints ns)
theorem dp_l (h : SqL K H a (IV ns)) : Dp K H (.ref a) (DL ns) := .lst h (dpAll_ints ns)
theorem dp_t (h : SqT K H a (IV ns)) : Dp K H (.ref a) (DT ns) := .tup h (dpAll_ints ns)
end
/-- what can be shown, its depth and its text's length bounded -/
structure Sh (d : PyData) (h b : Nat) : Prop where
  ok : d.showable = true
  dep : d.depth ≤ h
  len : d.shown.length ≤ b
theorem Sh.le {d : PyData} {h b h' b' : Nat} (s : Sh d h b) (h1 : h ≤ h' := by omega) (h2 : b ≤ b' := by omega) : Sh d h' b' :=
  ⟨s.ok, Nat.le_trans s.dep h1, Nat.le_trans s.len h2⟩
theorem pow2_lt : ∀ n : Nat, n < 2 ^ n
  | 0 => by decide
  | n + 1 => by
    have := pow2_lt n
    rw [Nat.pow_succ]
    omega
theorem log2_le_self (n : Nat) : n.log2 ≤ n := by
  by_cases h : n = 0
  · subst h
    decide
  · have q := Nat.log2_self_le h
    have p := pow2_lt n.log2
    omega
theorem sh_int {n : Int} (h : 0 ≤ n ∧ n < 10000 ∧ n.natAbs.log2 < 1920) : Sh (.int n) 0 4 := by
  refine ⟨by simp only [PyData.showable, decide_eq_true_eq]; exact h.2.2, by simp only [PyData.depth]; exact Nat.le_refl _, ?_⟩
  rw [PyData.shown_int]
  exact toString_length_le h.1 (by decide) (by omega)
theorem log_small {n : Int} (h : 0 ≤ n) (h2 : n < 10000) : n.natAbs.log2 < 1920 := by
  by_cases z : n.natAbs = 0
  · rw [z]
    decide
  · have q := Nat.log2_lt z (k := 1920)
    refine q.mpr (Nat.lt_of_lt_of_le (m := 2 ^ 14) (by omega) (Nat.pow_le_pow_right (by decide) (by decide)))
theorem piled_le {b : Nat} : ∀ ts : List Str, (∀ t ∈ ts, t.length ≤ b) → piled ts ≤ (b + 2) * ts.length
  | [], _ => Nat.zero_le _
  | t :: ts, h => by
    have a := h t (List.mem_cons_self ..)
    have c := piled_le ts fun u hu => h u (List.mem_cons_of_mem _ hu)
    rw [piled_cons, List.length_cons, Nat.mul_succ]
    omega
theorem join_le {b : Nat} (ts : List Str) (h : ∀ t ∈ ts, t.length ≤ b) : (Str.join ", " ts).length ≤ (b + 2) * ts.length := by
  by_cases z : ts = []
  · subst z
    exact Nat.zero_le _
  · have j := join_length_add ts z
    have p := piled_le ts h
    omega
theorem mem_shown {x : Str} : ∀ {ds : List PyData}, x ∈ PyData.shownAll ds → ∃ d ∈ ds, x = d.shown
  | [], h => by
    rw [PyData.shownAll_nil] at h
    cases h
  | d :: ds, h => by
    rw [PyData.shownAll_cons] at h
    cases h with
    | head => exact ⟨d, List.mem_cons_self .., rfl⟩
    | tail _ h =>
      obtain ⟨e, he, q⟩ := mem_shown h
      exact ⟨e, List.mem_cons_of_mem _ he, q⟩
theorem depAll {h : Nat} : ∀ {ds : List PyData}, (∀ d ∈ ds, d.depth ≤ h) → PyData.depthAll ds ≤ h
  | [], _ => by simp only [PyData.depthAll]; exact Nat.zero_le _
  | d :: ds, q => by
    simp only [PyData.depthAll]
    exact Nat.max_le.mpr ⟨q d (List.mem_cons_self ..), depAll fun e he => q e (List.mem_cons_of_mem _ he)⟩
theorem str_app (a b : Str) : (a ++ b).length = a.length + b.length := by
  exact strLen_append a b
theorem sh_list {ds : List PyData} {h b n : Nat} (q : ∀ d ∈ ds, Sh d h b) (hn : ds.length ≤ n) : Sh (.list ds) (h + 1) ((b + 2) * n + 4) := by
  refine ⟨?_, ?_, ?_⟩
  · simp only [PyData.showable]
    exact PySem.Spec.showableAll_of fun d hd => (q d hd).ok
  · simp only [PyData.depth]
    exact Nat.succ_le_succ (depAll fun d hd => (q d hd).dep)
  · rw [PyData.shown_list, str_app, str_app]
    have j := join_le (b := b) (PyData.shownAll ds) (by
      intro t ht
      obtain ⟨d, hd, rfl⟩ := mem_shown ht
      exact (q d hd).len)
    rw [PyData.shownAll_length] at j
    have l1 : ("[" : Str).length = 1 := by decide
    have l2 : ("]" : Str).length = 1 := by decide
    have m : (b + 2) * ds.length ≤ (b + 2) * n := Nat.mul_le_mul_left _ hn
    omega
theorem sh_tup {ds : List PyData} {h b n : Nat} (q : ∀ d ∈ ds, Sh d h b) (hn : ds.length ≤ n) : Sh (.tuple ds) (h + 1) ((b + 2) * n + 4) := by
  refine ⟨?_, ?_, ?_⟩
  · simp only [PyData.showable]
    exact PySem.Spec.showableAll_of fun d hd => (q d hd).ok
  · simp only [PyData.depth]
    exact Nat.succ_le_succ (depAll fun d hd => (q d hd).dep)
  · rw [PyData.shown_tuple, str_app, str_app]
    have j := join_le (b := b) (PyData.shownAll ds) (by
      intro t ht
      obtain ⟨d, hd, rfl⟩ := mem_shown ht
      exact (q d hd).len)
    rw [PyData.shownAll_length] at j
    have l1 : ("(" : Str).length = 1 := by decide
    have l2 : (if ds.length == 1 then ",)" else ")" : Str).length ≤ 2 := by
      split <;> decide
    have m : (b + 2) * ds.length ≤ (b + 2) * n := Nat.mul_le_mul_left _ hn
    have l3 : (Str.ofString (if ds.length == 1 then ",)" else ")" : String)).length ≤ 2 := by
      split <;> decide
    omega
/-- ints below 10000 -/
def Sm (ns : List Int) : Prop := ∀ n ∈ ns, 0 ≤ n ∧ n < 10000
theorem sm_ds {ns : List Int} (h : Sm ns) : ∀ d ∈ ns.map PyData.int, Sh d 0 4 := by
  intro d hd
  obtain ⟨n, hn, rfl⟩ := List.mem_map.mp hd
  have := h n hn
  exact sh_int ⟨this.1, this.2, log_small this.1 this.2⟩
theorem sh_l {ns : List Int} (h : Sm ns) (hl : ns.length ≤ 6000) : Sh (DL ns) 1 40000 := (sh_list (sm_ds h) (n := 6000) (by simpa using hl)).le
theorem sh_t {ns : List Int} (h : Sm ns) (hl : ns.length ≤ 6000) : Sh (DT ns) 1 40000 := (sh_tup (sm_ds h) (n := 6000) (by simpa using hl)).le
section
variable {K : PySem.W.Frag} {H : Hp} {a b : Addr} {ns ms : List Int} {Q : VK}
theorem rp {d : PyData} {h n : Nat} (e : Dp K H (.ref a) d) (s : Sh d h n) (q : Q (.str d.shown) H) (hh : h ≤ 60 := by decide) (hn : n ≤ 1000000 := by omega) : rRepr K [.ref a] H Q := by
  unfold rRepr
  exact ⟨a, d, rfl, e, s.ok, Nat.le_trans s.dep hh, Nat.le_trans (Nat.le_trans s.len hn) (by decide), q⟩
theorem rp_l (e : SqL K H a (IV ns)) (h : Sm ns) (hl : ns.length ≤ 6000) (q : Q (.str (DL ns).shown) H) : rRepr K [.ref a] H Q := rp (dp_l e) (sh_l h hl) q
theorem rp_t (e : SqT K H a (IV ns)) (h : Sm ns) (hl : ns.length ≤ 6000) (q : Q (.str (DT ns).shown) H) : rRepr K [.ref a] H Q := rp (dp_t e) (sh_t h hl) q
theorem eqvAll_ints : ∀ xs ys : List Int, PyData.eqvAll (xs.map .int) (ys.map .int) = decide (xs = ys)
  | [], [] => by simp [PyData.eqvAll]
  | [], _ :: _ => by simp [PyData.eqvAll]
  | _ :: _, [] => by simp [PyData.eqvAll]
  | x :: xs, y :: ys => by
    simp only [List.map_cons, PyData.eqvAll, PyData.eqv, eqvAll_ints xs ys]
    by_cases h : x = y <;> by_cases h2 : xs = ys <;> simp [h, h2]
theorem canAll : ∀ ns : List Int, PyData.canLayAll0 (ns.map .int) = true
  | [] => by simp [PyData.canLayAll0]
  | n :: ns => by simp [PyData.canLayAll0, PyData.canLay0, canAll ns]
theorem depInts : ∀ ns : List Int, PyData.depthAll (ns.map .int) = 0
  | [] => by simp [PyData.depthAll]
  | n :: ns => by simp [PyData.depthAll, PyData.depth, depInts ns]
theorem shp_l (ns : List Int) : SeqAt.shaped (DL ns) = true := by simp [SeqAt.shaped, PyData.canLay0, PyData.depth, canAll, depInts]
theorem shp_t (ns : List Int) : SeqAt.shaped (DT ns) = true := by simp [SeqAt.shaped, PyData.canLay0, PyData.depth, canAll, depInts]
theorem req_l (e : SqL K H a (IV ns)) (e' : SqL K H b (IV ms)) (q : Q (.bl (decide (ns = ms))) H) : rEqD K (.ref a) (.ref b) H Q := by
  refine ⟨DL ns, DL ms, dp_l e, dp_l e', shp_l _, shp_l _, ?_⟩
  rw [show PyData.eqv (DL ns) (DL ms) = decide (ns = ms) by simp only [DL, PyData.eqv]; exact eqvAll_ints ns ms]
  exact q
theorem req_t (e : SqT K H a (IV ns)) (e' : SqT K H b (IV ms)) (q : Q (.bl (decide (ns = ms))) H) : rEqD K (.ref a) (.ref b) H Q := by
  refine ⟨DT ns, DT ms, dp_t e, dp_t e', shp_t _, shp_t _, ?_⟩
  rw [show PyData.eqv (DT ns) (DT ms) = decide (ns = ms) by simp only [DT, PyData.eqv]; exact eqvAll_ints ns ms]
  exact q
theorem rne_l (e : SqL K H a (IV ns)) (e' : SqL K H b (IV ms)) (q : Q (.bl (!decide (ns = ms))) H) : rNeD K (.ref a) (.ref b) H Q := by
  refine ⟨DL ns, DL ms, dp_l e, dp_l e', shp_l _, shp_l _, ?_⟩
  rw [show PyData.eqv (DL ns) (DL ms) = decide (ns = ms) by simp only [DL, PyData.eqv]; exact eqvAll_ints ns ms]
  exact q
end
end VB
/-! a tuple once is the tuple -/
namespace VB
open PySem PySem.Spec PyProof.Rows L2
theorem tuple_mul1 (l : Addr) (items : Array Value) (n : Nat) (dd : Option Addr) (sl : Array (Option Value)) (x : Int) (u : Tok) (c0 : (decide (x < -(2 ^ 63)) || decide (x ≥ 2 ^ 63)) = false) (c1 : (items.isEmpty || x == 1) = true) :
    Meets (Builtin.«tuple.__mul__» ⟨[.ref l, .int x u], []⟩) (fun _ R s => s.heap.get? l = some { cls := .type "tuple", dict := dd, data := .seq items n, slots := sl } ∧
      R (.ok (.ret (.ref l))) s) :=
  .of_wp fun prog w A R s h => by
    obtain ⟨hp, g, d, tk, os⟩ := s
    obtain ⟨hl, h⟩ := h
    have f1 := AutoSeq1.idx_int
    wp_walk using wpAny_loadPart' hl
    repeat (first
      | (refine wpAny_ite_false (decide_eq_false (by rw [c0]; exact Bool.false_ne_true)) ?_; wp_walk using wpAny_loadPart' hl)
      | (refine wpAny_ite_true (decide_eq_true c1) ?_; wp_walk using wpAny_loadPart' hl))
    exact ⟨_, rfl, h⟩
def rRepT1 (K : PySem.W.Frag) : R2 := fun x y H Q => ∃ l xs, x = .ref l ∧ y = .int 1 ∧ SqT K H l xs ∧ Q (.ref l) H
section
variable {X : Cx} {K : PySem.W.Frag}
theorem op_repT1 : OpR X (binaryOp .Mult) (rRepT1 X.K) := by
  intro pins s σ H x y v u Q I rx ry h
  obtain ⟨l, xs, rfl, rfl, hT, q⟩ := h
  cases rx
  obtain ⟨t, rfl⟩ := ry
  obtain ⟨its, r, ⟨⟨cls, dd, data, sl⟩, ho, hc, n, hd⟩, hs⟩ := I.tuple hT
  simp only at hc hd
  subst hc hd
  have c0 : (decide ((1 : Int) < -(2 ^ 63)) || decide ((1 : Int) ≥ 2 ^ 63)) = false := by decide
  have c1 : (its.toArray.isEmpty || (1 : Int) == 1) = true := by simp
  refine wpAny_binaryOp_repeat_ref (T := "tuple") (U := "int") (by decide) ⟨_, ho, rfl⟩ (fun s' => typeIs_int s' 1 t) noFill_tuple_mul F.fills_int_mul F.slot_int_rmul repeat_tuple F.slot_int_index.lookup
    (call_meets F.slot_int_rmul (typeIs_int s 1 t) F.entry_int_rmul (F.args_int_rmul_2 _ _) (int_rmul_tuple 1 t l its.toArray n dd sl)
      ⟨ho, rfl, ⟨_, ho, rfl⟩, call_meets F.slot_tuple_mul ⟨_, ho, rfl⟩ F.entry_tuple_mul (F.args_tuple_mul_2 _ _) (tuple_mul1 l its.toArray n dd sl 1 t c0 c1) ⟨ho, ?_⟩⟩)
  exact ⟨.ref l, H, I, rfl, q⟩
/-- +, * of this law: tuples once, too -/
@[irreducible] def rMulU1 (K : PySem.W.Frag) : R2 := fun x y H Q => rMulU K x y H Q ∨ rRepT1 K x y H Q
theorem u_mul1 (hK : X.K = K := by rfl) : OpR X (binaryOp .Mult) (rMulU1 K) := by
  subst hK
  unfold rMulU1
  exact (u_mul rfl).or op_repT1
end
end VB
/-! readings that are never unfolded -/
namespace VB
open PySem PySem.Spec PyProof.Rows L2
section
variable {X : Cx} {K : PySem.W.Frag}
@[irreducible] def rTupI (K : PySem.W.Frag) : List V → Hp → VK → Prop := rTupU K
@[irreducible] def rListI (K : PySem.W.Frag) : List V → Hp → VK → Prop := rListU K
theorem u_tupI (hK : X.K = K := by rfl) : CallR X (.type "tuple") (rTupI K) := by
  unfold rTupI
  exact u_tup hK
theorem u_listI (hK : X.K = K := by rfl) : CallR X (.type "list") (rListI K) := by
  unfold rListI
  exact u_list hK
@[irreducible] def tIfI (c : TT) (t u : TS) : TS := tIfS c t u
theorem ps_ifI {test : Expr} {body orelse : List Stmt} {pos : Pos} {c : TT} {t u : TS} (hc : PT X test c) (ht : PSs X body t) (hu : PSs X orelse u) : PS X (.If test body orelse pos) (tIfI c t u) := by
  unfold tIfI
  exact ps_if hc ht hu
end
end VB
/-! bits of octets: plain mathematics -/
namespace BM
def bitsOf (o : Int) : List Int := [o / 128 % 2, o / 64 % 2, o / 32 % 2, o / 16 % 2, o / 8 % 2, o / 4 % 2, o / 2 % 2, o / 1 % 2]
def bitsL (os : List Int) : List Int := os.flatMap bitsOf
def octOf (bs : List Int) : Int := bs.foldl (fun n b => 2 * n + b) 0
def octetsN : Nat → List Int → List Int
  | 0, _ => []
  | n + 1, bs => octOf (bs.take 8) :: octetsN n (bs.drop 8)
def octetsL (bs : List Int) : List Int := octetsN ((bs.length + 7) / 8) bs
def Oct (os : List Int) : Prop := ∀ o ∈ os, 0 ≤ o ∧ o ≤ 255
def Bit (bs : List Int) : Prop := ∀ b ∈ bs, b = 0 ∨ b = 1
/-- the indices at which the first is 1 and the second 0 -/
def fallenL : Int → List Int → List Int → List Int
  | k, a :: as, b :: bs => if a = 1 ∧ b = 0 then k :: fallenL (k + 1) as bs else fallenL (k + 1) as bs
  | _, _, _ => []
/-- what a mask leaves on the way -/
def turned : List Int → List Int → Int → List Int
  | a :: as, b :: bs, m => if a = b then a :: turned as bs m else (if m % 2 = 1 then b else a) :: turned as bs (m / 2)
  | _, _, _ => []
def unlike : List Int → List Int → Nat
  | a :: as, b :: bs => (if a = b then 0 else 1) + unlike as bs
  | _, _ => 0

theorem bitsOf_bit {o b : Int} (h : b ∈ bitsOf o) : b = 0 ∨ b = 1 := by
  simp only [bitsOf, List.mem_cons, List.not_mem_nil, or_false] at h
  omega
theorem bitsL_bit (os : List Int) : Bit (bitsL os) := by
  intro b h
  obtain ⟨o, _, ho⟩ := List.mem_flatMap.mp h
  exact bitsOf_bit ho
theorem bitsL_nil : bitsL [] = [] := rfl
theorem bitsL_cons (o : Int) (os : List Int) : bitsL (o :: os) = bitsOf o ++ bitsL os := by simp [bitsL]
theorem bitsOf_len (o : Int) : (bitsOf o).length = 8 := rfl
theorem bitsL_len : ∀ os : List Int, (bitsL os).length = 8 * os.length
  | [] => rfl
  | o :: os => by
    rw [bitsL_cons, List.length_append, bitsL_len os, bitsOf_len, List.length_cons]
    omega
theorem bitsL_append (a b : List Int) : bitsL (a ++ b) = bitsL a ++ bitsL b := by simp [bitsL]
theorem octOf_bitsOf {o : Int} (h : 0 ≤ o ∧ o ≤ 255) : octOf (bitsOf o) = o := by
  have key : ∀ n : Fin 256, octOf (bitsOf ((n : Nat) : Int)) = ((n : Nat) : Int) := by decide +kernel
  have e := key ⟨o.toNat, by omega⟩
  have e2 : ((o.toNat : Nat) : Int) = o := Int.toNat_of_nonneg h.1
  simp only [e2] at e
  exact e
theorem eight {bs : List Int} (h : 8 ≤ bs.length) : ∃ a b c d e f g i r, bs = a :: b :: c :: d :: e :: f :: g :: i :: r := by
  match bs, h with
  | a :: b :: c :: d :: e :: f :: g :: i :: r, _ => exact ⟨a, b, c, d, e, f, g, i, r, rfl⟩
theorem octOf8 (a b c d e f g i : Int) : octOf [a, b, c, d, e, f, g, i] = 128 * a + 64 * b + 32 * c + 16 * d + 8 * e + 4 * f + 2 * g + i := by
  simp only [octOf, List.foldl_cons, List.foldl_nil]
  omega
theorem bit_le {x : Int} (h : x = 0 ∨ x = 1) : 0 ≤ x ∧ x ≤ 1 := by omega
theorem bitsOf_octOf {a b c d e f g i : Int} (h : Bit [a, b, c, d, e, f, g, i]) : bitsOf (octOf [a, b, c, d, e, f, g, i]) = [a, b, c, d, e, f, g, i] := by
  obtain ⟨a0, a1⟩ := bit_le (h a (by simp))
  obtain ⟨b0, b1⟩ := bit_le (h b (by simp))
  obtain ⟨c0, c1⟩ := bit_le (h c (by simp))
  obtain ⟨d0, d1⟩ := bit_le (h d (by simp))
  obtain ⟨e0, e1⟩ := bit_le (h e (by simp))
  obtain ⟨f0, f1⟩ := bit_le (h f (by simp))
  obtain ⟨g0, g1⟩ := bit_le (h g (by simp))
  obtain ⟨i0, i1⟩ := bit_le (h i (by simp))
  clear h
  rw [octOf8]
  simp only [bitsOf, List.cons.injEq, and_true]
  refine ⟨?_, ?_, ?_, ?_, ?_, ?_, ?_, ?_⟩ <;> omega
theorem octOf_range {a b c d e f g i : Int} (h : Bit [a, b, c, d, e, f, g, i]) : 0 ≤ octOf [a, b, c, d, e, f, g, i] ∧ octOf [a, b, c, d, e, f, g, i] ≤ 255 := by
  have ha := h a (by simp)
  have hb := h b (by simp)
  have hc := h c (by simp)
  have hd := h d (by simp)
  have he := h e (by simp)
  have hf := h f (by simp)
  have hg := h g (by simp)
  have hi := h i (by simp)
  rw [octOf8]
  omega
theorem Bit.split8 {a b c d e f g i : Int} {r : List Int} (h : Bit (a :: b :: c :: d :: e :: f :: g :: i :: r)) : Bit [a, b, c, d, e, f, g, i] ∧ Bit r := by
  constructor
  · intro x hx
    refine h x ?_
    simp only [List.mem_cons, List.not_mem_nil, or_false] at hx
    simp only [List.mem_cons]
    rcases hx with q | q | q | q | q | q | q | q <;> simp [q]
  · intro x hx
    exact h x (by simp [hx])
/-- bits of octets of bits -/
theorem octetsN_spec : ∀ (n : Nat) (bs : List Int), bs.length = 8 * n → Bit bs → bitsL (octetsN n bs) = bs ∧ Oct (octetsN n bs) ∧ (octetsN n bs).length = n
  | 0, bs, hl, _ => by
    have e : bs = [] := List.eq_nil_of_length_eq_zero (by omega)
    subst e
    exact ⟨rfl, fun _ h => (by cases h), rfl⟩
  | n + 1, bs, hl, hb => by
    obtain ⟨a, b, c, d, e, f, g, i, r, rfl⟩ := eight (bs := bs) (by omega)
    obtain ⟨h1, h2⟩ := hb.split8
    have hr : r.length = 8 * n := by
      simp only [List.length_cons] at hl
      omega
    obtain ⟨i1, i2, i3⟩ := octetsN_spec n r hr h2
    refine ⟨?_, ?_, ?_⟩
    · show bitsL (octOf [a, b, c, d, e, f, g, i] :: octetsN n r) = _
      rw [bitsL_cons, bitsOf_octOf h1, i1]
      rfl
    · intro o ho
      rcases List.mem_cons.mp ho with q | q
      · rw [q]
        exact octOf_range h1
      · exact i2 o q
    · show (octetsN n r).length + 1 = n + 1
      rw [i3]
theorem octetsL_spec {bs : List Int} {n : Nat} (hl : bs.length = 8 * n) (hb : Bit bs) : bitsL (octetsL bs) = bs ∧ Oct (octetsL bs) ∧ (octetsL bs).length = n := by
  have e : (bs.length + 7) / 8 = n := by omega
  unfold octetsL
  rw [e]
  exact octetsN_spec n bs hl hb
theorem octetsL_bitsL : ∀ {os : List Int}, Oct os → octetsL (bitsL os) = os := by
  intro os
  induction os with
  | nil => intro _; rfl
  | cons o os ih =>
    intro h
    have h1 := h o List.mem_cons_self
    have h2 : Oct os := fun x hx => h x (List.mem_cons_of_mem _ hx)
    have i := ih h2
    have l := bitsL_len os
    have l2 := bitsL_len (o :: os)
    unfold octetsL at i ⊢
    have e1 : ((bitsL os).length + 7) / 8 = os.length := by omega
    have e2 : ((bitsL (o :: os)).length + 7) / 8 = os.length + 1 := by
      rw [l2, List.length_cons]
      omega
    rw [e1] at i
    rw [e2, bitsL_cons]
    show octOf ((bitsOf o ++ bitsL os).take 8) :: octetsN os.length ((bitsOf o ++ bitsL os).drop 8) = _
    have t : (bitsOf o ++ bitsL os).take 8 = bitsOf o := by rw [List.take_append_of_le_length (by rw [bitsOf_len]; omega)]; rfl
    have d : (bitsOf o ++ bitsL os).drop 8 = bitsL os := rfl
    rw [t, d, octOf_bitsOf h1, i]
theorem turned_len : ∀ (as bs : List Int) (m : Int), as.length = bs.length → (turned as bs m).length = as.length
  | [], [], _, _ => rfl
  | a :: as, b :: bs, m, h => by
    unfold turned
    have h' : as.length = bs.length := by simpa using h
    split
    · rw [List.length_cons, turned_len as bs m h', List.length_cons]
    · rw [List.length_cons, turned_len as bs _ h', List.length_cons]
  | [], _ :: _, _, h => by simp at h
  | _ :: _, [], _, h => by simp at h
theorem turned_bit : ∀ (as bs : List Int) (m : Int), Bit as → Bit bs → Bit (turned as bs m)
  | [], _, _, _, _ => by
    unfold turned
    intro x h
    cases h
  | _ :: _, [], _, _, _ => by
    unfold turned
    intro x h
    cases h
  | a :: as, b :: bs, m, ha, hb => by
    have h1 := ha a List.mem_cons_self
    have h2 := hb b List.mem_cons_self
    have h3 : Bit as := fun x hx => ha x (List.mem_cons_of_mem _ hx)
    have h4 : Bit bs := fun x hx => hb x (List.mem_cons_of_mem _ hx)
    unfold turned
    split
    · intro x hx
      rcases List.mem_cons.mp hx with q | q
      · rw [q]; exact h1
      · exact turned_bit as bs m h3 h4 x q
    · intro x hx
      rcases List.mem_cons.mp hx with q | q
      · rw [q]
        split
        · exact h2
        · exact h1
      · exact turned_bit as bs _ h3 h4 x q
/-- below at each place -/
def Le : List Int → List Int → Prop
  | a :: as, b :: bs => a ≤ b ∧ Le as bs
  | [], [] => True
  | _, _ => False
theorem Le.refl : ∀ as : List Int, Le as as
  | [] => True.intro
  | a :: as => ⟨Int.le_refl a, Le.refl as⟩
theorem Le.len : ∀ {as bs : List Int}, Le as bs → as.length = bs.length
  | [], [], _ => rfl
  | _ :: as, _ :: bs, h => by rw [List.length_cons, List.length_cons, Le.len h.2]
  | [], _ :: _, h => h.elim
  | _ :: _, [], h => h.elim
/-- where nothing rises from as to bs, what is left lies between -/
theorem turned_down : ∀ {as bs : List Int} (m : Int), Le bs as → Le bs (turned as bs m) ∧ Le (turned as bs m) as
  | [], [], _, _ => ⟨True.intro, True.intro⟩
  | a :: as, b :: bs, m, h => by
    have i1 := turned_down (as := as) (bs := bs) m h.2
    have i2 := turned_down (as := as) (bs := bs) (m / 2) h.2
    have h1 := h.1
    unfold turned
    split
    · rename_i e
      exact ⟨⟨by omega, i1.1⟩, ⟨Int.le_refl a, i1.2⟩⟩
    · refine ⟨⟨?_, i2.1⟩, ⟨?_, i2.2⟩⟩ <;> split <;> omega
  | [], _ :: _, _, h => h.elim
  | _ :: _, [], _, h => h.elim
theorem turned_up : ∀ {as bs : List Int} (m : Int), Le as bs → Le as (turned as bs m) ∧ Le (turned as bs m) bs
  | [], [], _, _ => ⟨True.intro, True.intro⟩
  | a :: as, b :: bs, m, h => by
    have i1 := turned_up (as := as) (bs := bs) m h.2
    have i2 := turned_up (as := as) (bs := bs) (m / 2) h.2
    have h1 := h.1
    unfold turned
    split
    · rename_i e
      exact ⟨⟨Int.le_refl a, i1.1⟩, ⟨by omega, i1.2⟩⟩
    · refine ⟨⟨?_, i2.1⟩, ⟨?_, i2.2⟩⟩ <;> split <;> omega
  | [], _ :: _, _, h => h.elim
  | _ :: _, [], _, h => h.elim
theorem Le.trans : ∀ {as bs cs : List Int}, Le as bs → Le bs cs → Le as cs
  | [], [], [], _, _ => True.intro
  | _ :: _, _ :: _, _ :: _, h, h' => ⟨Int.le_trans h.1 h'.1, h.2.trans h'.2⟩
  | [], _ :: _, _, h, _ => h.elim
  | _ :: _, [], _, h, _ => h.elim
  | [], [], _ :: _, _, h => h.elim
  | _ :: _, _ :: _, [], _, h => h.elim
/-- nothing falls upward -/
theorem fallen_none : ∀ {as bs : List Int} (k : Int), Le as bs → fallenL k as bs = []
  | [], [], _, _ => rfl
  | a :: as, b :: bs, k, h => by
    have h1 := h.1
    unfold fallenL
    rw [if_neg (by omega)]
    exact fallen_none _ h.2
  | [], _ :: _, _, h => h.elim
  | _ :: _, [], _, h => h.elim
def zc (bs : List Int) : Int := ((bs.count 0 : Nat) : Int)
theorem zc_nil : zc [] = 0 := rfl
theorem zc_cons (b : Int) (bs : List Int) : zc (b :: bs) = (if b = 0 then 1 else 0) + zc bs := by
  unfold zc
  rw [List.count_cons]
  by_cases h : b = 0
  · simp [h]
    omega
  · simp [h]
/-- more zeros below, as many only if equal -/
theorem zc_le : ∀ {as bs : List Int}, Bit as → Bit bs → Le as bs → zc bs ≤ zc as ∧ (zc bs = zc as → as = bs)
  | [], [], _, _, _ => ⟨Int.le_refl _, fun _ => rfl⟩
  | a :: as, b :: bs, ha, hb, h => by
    have h1 := ha a List.mem_cons_self
    have h2 := hb b List.mem_cons_self
    have h3 : Bit as := fun x hx => ha x (List.mem_cons_of_mem _ hx)
    have h4 : Bit bs := fun x hx => hb x (List.mem_cons_of_mem _ hx)
    have h5 := h.1
    obtain ⟨i1, i2⟩ := zc_le h3 h4 h.2
    rw [zc_cons, zc_cons]
    rcases h1 with rfl | rfl <;> rcases h2 with rfl | rfl
    · refine ⟨by simp; omega, fun e => ?_⟩
      rw [i2 (by simp at e; omega)]
    · refine ⟨by simp; omega, fun e => ?_⟩
      simp at e
      omega
    · omega
    · refine ⟨by simp; omega, fun e => ?_⟩
      rw [i2 (by simp at e; omega)]
  | [], _ :: _, _, _, h => h.elim
  | _ :: _, [], _, _, h => h.elim
/-- zeros: what falls more, what rises less -/
theorem zc_diff : ∀ (as bs : List Int) (k l : Int), Bit as → Bit bs → as.length = bs.length → zc bs = zc as + ((fallenL k as bs).length : Int) - ((fallenL l bs as).length : Int)
  | [], [], _, _, _, _, _ => rfl
  | a :: as, b :: bs, k, l, ha, hb, hl => by
    have h1 := ha a List.mem_cons_self
    have h2 := hb b List.mem_cons_self
    have h3 : Bit as := fun x hx => ha x (List.mem_cons_of_mem _ hx)
    have h4 : Bit bs := fun x hx => hb x (List.mem_cons_of_mem _ hx)
    have i := zc_diff as bs (k + 1) (l + 1) h3 h4 (by simpa using hl)
    unfold fallenL
    rw [zc_cons, zc_cons]
    rcases h1 with rfl | rfl <;> rcases h2 with rfl | rfl <;> simp <;> omega
  | [], _ :: _, _, _, _, _, hl => by simp at hl
  | _ :: _, [], _, _, _, _, hl => by simp at hl
/-- both sets empty: equal -/
theorem fallen_both : ∀ (as bs : List Int) (k l : Int), Bit as → Bit bs → as.length = bs.length → fallenL k as bs = [] → fallenL l bs as = [] → as = bs
  | [], [], _, _, _, _, _, _, _ => rfl
  | a :: as, b :: bs, k, l, ha, hb, hl, e1, e2 => by
    have h1 := ha a List.mem_cons_self
    have h2 := hb b List.mem_cons_self
    have h3 : Bit as := fun x hx => ha x (List.mem_cons_of_mem _ hx)
    have h4 : Bit bs := fun x hx => hb x (List.mem_cons_of_mem _ hx)
    unfold fallenL at e1 e2
    rcases h1 with rfl | rfl <;> rcases h2 with rfl | rfl
    · simp at e1 e2
      rw [fallen_both as bs _ _ h3 h4 (by simpa using hl) e1 e2]
    · simp at e2
    · simp at e1
    · simp at e1 e2
      rw [fallen_both as bs _ _ h3 h4 (by simpa using hl) e1 e2]
  | [], _ :: _, _, _, _, _, hl, _, _ => by simp at hl
  | _ :: _, [], _, _, _, _, hl, _, _ => by simp at hl
theorem fallen_self : ∀ (as : List Int) (k : Int), fallenL k as as = []
  | [], _ => rfl
  | a :: as, k => by
    unfold fallenL
    rw [if_neg (by omega)]
    exact fallen_self as _
theorem fallen_len : ∀ (as bs : List Int) (k : Int), (fallenL k as bs).length ≤ as.length
  | [], _, _ => by simp [fallenL]
  | _ :: _, [], _ => by simp [fallenL]
  | a :: as, b :: bs, k => by
    unfold fallenL
    have i := fallen_len as bs (k + 1)
    split <;> simp only [List.length_cons] <;> omega
/-- the mask of no bit, and one that reaches beyond all -/
theorem turned_zero : ∀ (as bs : List Int), as.length = bs.length → turned as bs 0 = as
  | [], [], _ => rfl
  | a :: as, b :: bs, h => by
    have h' : as.length = bs.length := by simpa using h
    unfold turned
    split
    · rw [turned_zero as bs h']
    · have e : (0 : Int) / 2 = 0 := rfl
      rw [if_neg (by decide), e, turned_zero as bs h']
  | [], _ :: _, h => by simp at h
  | _ :: _, [], h => by simp at h
theorem unlike_eq : ∀ (as bs : List Int) (k l : Int), Bit as → Bit bs → as.length = bs.length → unlike as bs = (fallenL k as bs).length + (fallenL l bs as).length
  | [], [], _, _, _, _, _ => rfl
  | a :: as, b :: bs, k, l, ha, hb, hl => by
    have h1 := ha a List.mem_cons_self
    have h2 := hb b List.mem_cons_self
    have h3 : Bit as := fun x hx => ha x (List.mem_cons_of_mem _ hx)
    have h4 : Bit bs := fun x hx => hb x (List.mem_cons_of_mem _ hx)
    have i := unlike_eq as bs (k + 1) (l + 1) h3 h4 (by simpa using hl)
    unfold fallenL unlike
    rcases h1 with rfl | rfl <;> rcases h2 with rfl | rfl <;> simp <;> omega
  | [], _ :: _, _, _, _, _, hl => by simp at hl
  | _ :: _, [], _, _, _, _, hl => by simp at hl
theorem pow2_odd (n : Nat) : ((2 : Int) ^ (n + 1) - 1) % 2 = 1 ∧ ((2 : Int) ^ (n + 1) - 1) / 2 = 2 ^ n - 1 := by
  have e : (2 : Int) ^ (n + 1) = 2 * 2 ^ n := by rw [Int.pow_succ]; omega
  omega
/-- all ones up to the last unlike bit: the new ones -/
theorem turned_ones : ∀ (as bs : List Int) (n : Nat), as.length = bs.length → unlike as bs ≤ n → turned as bs (2 ^ n - 1) = bs
  | [], [], _, _, _ => rfl
  | a :: as, b :: bs, n, h, hu => by
    have h' : as.length = bs.length := by simpa using h
    unfold unlike at hu
    unfold turned
    split
    · rename_i e
      rw [if_pos e] at hu
      rw [turned_ones as bs n h' (by omega), e]
    · rename_i e
      rw [if_neg e] at hu
      obtain ⟨k, rfl⟩ : ∃ k, n = k + 1 := ⟨n - 1, by omega⟩
      obtain ⟨o1, o2⟩ := pow2_odd k
      rw [if_pos o1, o2, turned_ones as bs k h' (by omega)]
  | [], _ :: _, _, h, _ => by simp at h
  | _ :: _, [], _, h, _ => by simp at h
/-- a mask whose first n bits are 0, where at most n bits are unlike: nothing turns -/
theorem turned_beyond : ∀ (as bs : List Int) (n : Nat), as.length = bs.length → unlike as bs ≤ n → turned as bs (2 ^ n) = as
  | [], [], _, _, _ => rfl
  | a :: as, b :: bs, n, h, hu => by
    have h' : as.length = bs.length := by simpa using h
    unfold unlike at hu
    unfold turned
    split
    · rename_i e
      rw [if_pos e] at hu
      rw [turned_beyond as bs n h' (by omega)]
    · rename_i e
      rw [if_neg e] at hu
      obtain ⟨k, rfl⟩ : ∃ k, n = k + 1 := ⟨n - 1, by omega⟩
      have e1 : (2 : Int) ^ (k + 1) = 2 * 2 ^ k := by rw [Int.pow_succ]; omega
      have e2 : ((2 : Int) ^ (k + 1)) % 2 = 0 := by omega
      have e3 : ((2 : Int) ^ (k + 1)) / 2 = 2 ^ k := by omega
      rw [if_neg (by omega), e3, turned_beyond as bs k h' (by omega)]
  | [], _ :: _, _, h, _ => by simp at h
  | _ :: _, [], _, h, _ => by simp at h
/-- 4096 ones: the first 4096 unlike bits turn, the others stay -/
theorem turned_first : ∀ (n m : Nat), turned (List.replicate (n + m) 1) (List.replicate (n + m) 0) (2 ^ n - 1) = List.replicate n 0 ++ List.replicate m 1
  | 0, m => by
    have e : ((2 : Int) ^ 0 - 1) = 0 := rfl
    rw [e, Nat.zero_add, turned_zero _ _ (by simp)]
    simp
  | n + 1, m => by
    have e : n + 1 + m = (n + m) + 1 := by omega
    rw [e, List.replicate_succ, List.replicate_succ, List.replicate_succ]
    unfold turned
    obtain ⟨o1, o2⟩ := pow2_odd n
    rw [if_neg (by decide), if_pos o1, o2, turned_first n m]
    rfl
theorem fold_bound : ∀ (l : List Int) (n : Int), Bit l → 0 ≤ n → 0 ≤ l.foldl (fun n b => 2 * n + b) n ∧ l.foldl (fun n b => 2 * n + b) n + 1 ≤ (n + 1) * 2 ^ l.length
  | [], n, _, h => by simp [h]
  | b :: l, n, hb, h => by
    have h1 := hb b List.mem_cons_self
    have h2 : Bit l := fun x hx => hb x (List.mem_cons_of_mem _ hx)
    obtain ⟨i1, i2⟩ := fold_bound l (2 * n + b) h2 (by omega)
    refine ⟨i1, ?_⟩
    rw [List.foldl_cons, List.length_cons, Int.pow_succ]
    have p : (0 : Int) ≤ 2 ^ l.length := Int.pow_nonneg (by decide)
    have m : (2 * n + b + 1) * 2 ^ l.length ≤ (2 * (n + 1)) * 2 ^ l.length := Int.mul_le_mul_of_nonneg_right (by omega) p
    have e : (2 * (n + 1)) * 2 ^ l.length = (n + 1) * (2 ^ l.length * 2) := by
      rw [Int.mul_comm 2 (n + 1), Int.mul_assoc, Int.mul_comm 2]
    omega
theorem octOf_bound {l : List Int} (h : Bit l) (hl : l.length ≤ 8) : 0 ≤ octOf l ∧ octOf l < 256 := by
  obtain ⟨h1, h2⟩ := fold_bound l 0 h (Int.le_refl 0)
  have p : (2 : Int) ^ l.length ≤ 2 ^ 8 := by
    have q : (2 : Nat) ^ l.length ≤ 2 ^ 8 := Nat.pow_le_pow_right (by decide) hl
    exact_mod_cast q
  have e : (2 : Int) ^ 8 = 256 := rfl
  unfold octOf
  omega
theorem Bit.take {l : List Int} (h : Bit l) (n : Nat) : Bit (l.take n) := fun x hx => h x (List.mem_of_mem_take hx)
theorem Bit.drop {l : List Int} (h : Bit l) (n : Nat) : Bit (l.drop n) := fun x hx => h x (List.mem_of_mem_drop hx)
end BM
/-! bits of octets and the operators on bits -/
namespace BM
/-- bit k of a number, as an int -/
def tb (n k : Nat) : Int := if n.testBit k then 1 else 0
theorem tb_div (n k : Nat) : ((n : Int) / ((2 ^ k : Nat) : Int)) % 2 = tb n k := by
  unfold tb
  rw [Nat.testBit_eq_decide_div_mod_eq]
  have e : ((n : Int) / ((2 ^ k : Nat) : Int)) % 2 = ((n / 2 ^ k % 2 : Nat) : Int) := by simp
  rw [e]
  by_cases h : n / 2 ^ k % 2 = 1
  · rw [h]
    simp
  · have h0 : n / 2 ^ k % 2 = 0 := by omega
    rw [h0]
    simp
theorem bitsOf_tb (n : Nat) : bitsOf (n : Int) = [tb n 7, tb n 6, tb n 5, tb n 4, tb n 3, tb n 2, tb n 1, tb n 0] := by
  have h7 := tb_div n 7
  have h6 := tb_div n 6
  have h5 := tb_div n 5
  have h4 := tb_div n 4
  have h3 := tb_div n 3
  have h2 := tb_div n 2
  have h1 := tb_div n 1
  have h0 := tb_div n 0
  unfold bitsOf
  rw [← h7, ← h6, ← h5, ← h4, ← h3, ← h2, ← h1, ← h0]
  rfl
theorem tb_bit (n k : Nat) : tb n k = 0 ∨ tb n k = 1 := by
  unfold tb
  split
  · exact .inr rfl
  · exact .inl rfl
theorem tb_and (a b k : Nat) : tb (a &&& b) k = if tb a k = 1 ∧ tb b k = 1 then 1 else 0 := by
  unfold tb
  rw [Nat.testBit_and]
  cases a.testBit k <;> cases b.testBit k <;> simp
theorem tb_or (a b k : Nat) : tb (a ||| b) k = if tb a k = 1 ∨ tb b k = 1 then 1 else 0 := by
  unfold tb
  rw [Nat.testBit_or]
  cases a.testBit k <;> cases b.testBit k <;> simp
theorem tb_xor (a b k : Nat) : tb (a ^^^ b) k = if tb a k = tb b k then 0 else 1 := by
  unfold tb
  rw [Nat.testBit_xor]
  cases a.testBit k <;> cases b.testBit k <;> simp
theorem le_app : ∀ {a b c d : List Int}, Le a b → Le c d → Le (a ++ c) (b ++ d)
  | [], [], _, _, _, h => h
  | _ :: _, _ :: _, _, _, h, h' => ⟨h.1, le_app h.2 h'⟩
  | [], _ :: _, _, _, h, _ => h.elim
  | _ :: _, [], _, _, h, _ => h.elim
theorem and_le (a b : Nat) : Le (bitsOf ((a &&& b : Nat) : Int)) (bitsOf (a : Int)) := by
  have key : ∀ k, tb (a &&& b) k ≤ tb a k := by
    intro k
    rw [tb_and]
    have := tb_bit a k
    split <;> omega
  rw [bitsOf_tb, bitsOf_tb]
  exact ⟨key 7, key 6, key 5, key 4, key 3, key 2, key 1, key 0, True.intro⟩
theorem le_or (a b : Nat) : Le (bitsOf (a : Int)) (bitsOf ((a ||| b : Nat) : Int)) := by
  have key : ∀ k, tb a k ≤ tb (a ||| b) k := by
    intro k
    rw [tb_or]
    have := tb_bit a k
    split <;> omega
  rw [bitsOf_tb, bitsOf_tb]
  exact ⟨key 7, key 6, key 5, key 4, key 3, key 2, key 1, key 0, True.intro⟩
theorem bits255 : bitsOf 255 = [1, 1, 1, 1, 1, 1, 1, 1] := by decide
theorem le_255 (o : Int) : Le (bitsOf o) (bitsOf 255) := by
  have key : ∀ b ∈ bitsOf o, b ≤ 1 := fun b hb => by
    have := bitsOf_bit hb
    omega
  rw [bits255]
  unfold bitsOf at key ⊢
  exact ⟨key _ (by simp), key _ (by simp), key _ (by simp), key _ (by simp), key _ (by simp), key _ (by simp), key _ (by simp), key _ (by simp), True.intro⟩
/-- lists of octets, pair by pair -/
theorem bitsL_le : ∀ {xs ys : List Int}, xs.length = ys.length → (∀ p ∈ xs.zip ys, Le (bitsOf p.1) (bitsOf p.2)) → Le (bitsL xs) (bitsL ys)
  | [], [], _, _ => True.intro
  | x :: xs, y :: ys, hl, h => by
    rw [bitsL_cons, bitsL_cons]
    exact le_app (h (x, y) (by simp)) (bitsL_le (by simpa using hl) fun p hp => h p (by simp [hp]))
  | [], _ :: _, hl, _ => by simp at hl
  | _ :: _, [], hl, _ => by simp at hl
theorem nat_of {o : Int} (h : 0 ≤ o) : ∃ n : Nat, o = n := ⟨o.toNat, by omega⟩
theorem and_oct {a b : Nat} (ha : a ≤ 255) : (a &&& b) ≤ 255 := Nat.le_trans Nat.and_le_left ha
theorem or_oct {a b : Nat} (ha : a ≤ 255) (hb : b ≤ 255) : (a ||| b) ≤ 255 := by
  have h : (a ||| b) < 2 ^ 8 := Nat.or_lt_two_pow (by omega) (by omega)
  omega
theorem xor_oct {a b : Nat} (ha : a ≤ 255) (hb : b ≤ 255) : (a ^^^ b) ≤ 255 := by
  have h : (a ^^^ b) < 2 ^ 8 := Nat.xor_lt_two_pow (by omega) (by omega)
  omega
/-- one more bit -/
theorem fallen_snoc : ∀ (as bs : List Int) (k x y : Int), as.length = bs.length → fallenL k (as ++ [x]) (bs ++ [y]) = fallenL k as bs ++ (if x = 1 ∧ y = 0 then [k + (as.length : Int)] else [])
  | [], [], k, x, y, _ => by
    simp [fallenL]
  | a :: as, b :: bs, k, x, y, h => by
    have i := fallen_snoc as bs (k + 1) x y (by simpa using h)
    rw [List.cons_append, List.cons_append]
    unfold fallenL
    have e : k + 1 + (as.length : Int) = k + ((a :: as).length : Int) := by
      rw [List.length_cons]
      omega
    rw [e] at i
    split <;> simp [i]
  | [], _ :: _, _, _, _, h => by simp at h
  | _ :: _, [], _, _, _, h => by simp at h
end BM
/-! bits that are 1, bits that are unlike, one bit turned -/
namespace BM
/-- the indices of the ones, from k on -/
def onesL : Int → List Int → List Int
  | _, [] => []
  | k, b :: r => if b = 1 then k :: onesL (k + 1) r else onesL (k + 1) r
/-- the indices of the unlike ones -/
def diffL : Int → List Int → List Int → List Int
  | k, a :: as, b :: bs => if a = b then diffL (k + 1) as bs else k :: diffL (k + 1) as bs
  | _, _, _ => []
theorem onesL_app : ∀ (a b : List Int) (k : Int), onesL k (a ++ b) = onesL k a ++ onesL (k + (a.length : Int)) b
  | [], b, k => by simp [onesL]
  | x :: a, b, k => by
    have e : k + ((x :: a).length : Int) = k + 1 + (a.length : Int) := by simp; omega
    rw [List.cons_append, onesL, onesL, onesL_app a b (k + 1), e]
    split <;> simp
theorem onesL_snoc (a : List Int) (x : Int) : onesL 0 (a ++ [x]) = onesL 0 a ++ (if x = 1 then [(a.length : Int)] else []) := by
  rw [onesL_app]
  simp [onesL]
theorem onesL_len : ∀ (a : List Int) (k : Int), (onesL k a).length ≤ a.length
  | [], k => by simp [onesL]
  | x :: a, k => by
    have := onesL_len a (k + 1)
    rw [onesL]
    split <;> simp <;> omega
/-- of two bits -/
theorem ones_of {f : Int → Int → Int} (P : List Int → List Int → Int → List Int) (c : Int → Int → Prop) [∀ a b, Decidable (c a b)] (h0 : ∀ k, P [] [] k = []) (h1 : ∀ a as b bs k, P (a :: as) (b :: bs) k = if c a b then k :: P as bs (k + 1) else P as bs (k + 1))
    (h : ∀ a b, (a = 0 ∨ a = 1) → (b = 0 ∨ b = 1) → (f a b = 1 ↔ c a b)) : ∀ (as bs : List Int) (k : Int), as.length = bs.length → Bit as → Bit bs → onesL k (List.zipWith f as bs) = P as bs k
  | [], [], k, _, _, _ => by simp [onesL, h0]
  | [], _ :: _, k, e, _, _ => by simp at e
  | _ :: _, [], k, e, _, _ => by simp at e
  | a :: as, b :: bs, k, e, ha, hb => by
    have r := ones_of P c h0 h1 h as bs (k + 1) (by simpa using e) (fun x hx => ha x (List.mem_cons_of_mem _ hx)) (fun x hx => hb x (List.mem_cons_of_mem _ hx))
    have q := h a b (ha a (List.mem_cons_self ..)) (hb b (List.mem_cons_self ..))
    rw [List.zipWith_cons_cons, onesL, h1, r]
    by_cases z : c a b
    · rw [if_pos z, if_pos (q.mpr z)]
    · rw [if_neg z, if_neg (fun y => z (q.mp y))]
/-- the bits of two lists of octets, put together -/
theorem bitsL_both {g : Int → Int → Int} {f : Int → Int → Int} (h : ∀ x y, 0 ≤ x ∧ x ≤ 255 → 0 ≤ y ∧ y ≤ 255 → bitsOf (g x y) = List.zipWith f (bitsOf x) (bitsOf y)) :
    ∀ xs ys : List Int, Oct xs → Oct ys → bitsL ((xs.zip ys).map fun p => g p.1 p.2) = List.zipWith f (bitsL xs) (bitsL ys)
  | [], ys, _, _ => by simp [bitsL]
  | x :: xs, [], _, _ => by simp [bitsL]
  | x :: xs, y :: ys, hx, hy => by
    have r := bitsL_both h xs ys (fun o ho => hx o (List.mem_cons_of_mem _ ho)) (fun o ho => hy o (List.mem_cons_of_mem _ ho))
    have q := h x y (hx x (List.mem_cons_self ..)) (hy y (List.mem_cons_self ..))
    rw [List.zip_cons_cons, List.map_cons, bitsL_cons, bitsL_cons, bitsL_cons, r, q, List.zipWith_append (by rw [bitsOf_len, bitsOf_len])]
/-- where lists part -/
theorem diff_at : ∀ (as bs : List Int) (k p : Int) (rest : List Int), as.length = bs.length → diffL k as bs = p :: rest →
    ∃ (pre : List Int) (x y : Int) (as' bs' : List Int), as = pre ++ x :: as' ∧ bs = pre ++ y :: bs' ∧ x ≠ y ∧ p = k + (pre.length : Int) ∧ rest = diffL (p + 1) as' bs' ∧ as'.length = bs'.length ∧
      ∀ m, turned as bs m = pre ++ (if m % 2 = 1 then y else x) :: turned as' bs' (m / 2)
  | [], _, k, p, rest, _, h => by simp [diffL] at h
  | _ :: _, [], k, p, rest, e, h => by simp at e
  | a :: as, b :: bs, k, p, rest, e, h => by
    rw [diffL] at h
    by_cases z : a = b
    · rw [if_pos z] at h
      obtain ⟨pre, x, y, as', bs', h1, h2, h3, h4, h5, h6, h7⟩ := diff_at as bs (k + 1) p rest (by simpa using e) h
      refine ⟨a :: pre, x, y, as', bs', by rw [h1]; rfl, by rw [h2, z]; rfl, h3, by simp; omega, h5, h6, fun m => ?_⟩
      rw [turned, if_pos z, h7 m]
      rfl
    · rw [if_neg z] at h
      obtain ⟨rfl, rfl⟩ := List.cons.inj h
      refine ⟨[], a, b, as, bs, rfl, rfl, z, by simp, rfl, by simpa using e, fun m => ?_⟩
      rw [turned, if_neg z]
      rfl
theorem diff_nil : ∀ (as bs : List Int) (k : Int), as.length = bs.length → diffL k as bs = [] → as = bs
  | [], [], k, _, _ => rfl
  | [], _ :: _, k, e, h => by simp at e
  | _ :: _, [], k, e, h => by simp at e
  | a :: as, b :: bs, k, e, h => by
    rw [diffL] at h
    by_cases z : a = b
    · rw [if_pos z] at h
      rw [z, diff_nil as bs (k + 1) (by simpa using e) h]
    · rw [if_neg z] at h
      cases h
theorem turned_same : ∀ (as : List Int) (m : Int), turned as as m = as
  | [], m => by simp [turned]
  | a :: as, m => by rw [turned, if_pos rfl, turned_same as m]
/-- the j-th bit of an octet -/
theorem bit_at : ∀ o : Nat, o < 256 → ∀ j : Nat, j < 8 → (bitsOf (o : Int))[j]? = some (((o &&& (128 / 2 ^ j)) / (128 / 2 ^ j) : Nat) : Int) := by decide +kernel
theorem bit_on : ∀ o : Nat, o < 256 → ∀ j : Nat, j < 8 → (o &&& (128 / 2 ^ j) ≠ 0 ↔ (bitsOf (o : Int))[j]? = some 1) := by decide +kernel
theorem bit_turn : ∀ o : Nat, o < 256 → ∀ j : Nat, j < 8 → o ^^^ (128 / 2 ^ j) < 256 ∧ bitsOf ((o ^^^ (128 / 2 ^ j) : Nat) : Int) = (bitsOf (o : Int)).set j (1 - (bitsOf (o : Int)).getD j 0) := by decide +kernel
theorem bitsL_get : ∀ (os : List Int) (i j : Nat), j < 8 → (bitsL os)[8 * i + j]? = (os[i]?).bind fun o => (bitsOf o)[j]?
  | [], i, j, _ => by simp [bitsL]
  | o :: os, 0, j, h => by
    rw [bitsL_cons, Nat.mul_zero, Nat.zero_add, List.getElem?_append_left (by rw [bitsOf_len]; exact h)]
    simp
  | o :: os, i + 1, j, h => by
    have e : 8 * (i + 1) + j = 8 + (8 * i + j) := by omega
    rw [bitsL_cons, e, List.getElem?_append_right (by rw [bitsOf_len]; omega), bitsOf_len, Nat.add_sub_cancel_left, bitsL_get os i j h]
    simp
theorem bitsL_set : ∀ (os : List Int) (i j : Nat) (o o' : Int) (b : Int), j < 8 → os[i]? = some o → bitsOf o' = (bitsOf o).set j b → bitsL (os.set i o') = (bitsL os).set (8 * i + j) b
  | [], i, j, o, o', b, _, h, _ => by simp at h
  | x :: os, 0, j, o, o', b, hj, h, q => by
    have e : x = o := by simpa using h
    subst e
    rw [List.set_cons_zero, bitsL_cons, bitsL_cons, q, Nat.mul_zero, Nat.zero_add, List.set_append_left _ _ (by rw [bitsOf_len]; exact hj)]
  | x :: os, i + 1, j, o, o', b, hj, h, q => by
    have e : 8 * (i + 1) + j = 8 + (8 * i + j) := by omega
    have h' : os[i]? = some o := by simpa using h
    rw [List.set_cons_succ, bitsL_cons, bitsL_cons, bitsL_set os i j o o' b hj h' q, e, List.set_append_right _ _ (by rw [bitsOf_len]; omega), bitsOf_len, Nat.add_sub_cancel_left]
end BM
/-! f'{n:b}', n an octet -/
namespace PySem.W
open PySem PySem.Calls PyProof.Rows
open Builtin Builtin.Str Builtin.Int Builtin.Float
/-- the binary text of n -/
def binT (n : Nat) : PySem.Str := ⟨((Nat.toDigits 2 n).map Char.toNat).toArray⟩
theorem binT_len : ∀ n : Nat, n < 256 → (binT n).length ≤ 8 := by decide +kernel
theorem meets_bin' {spec : PySem.Str} {f : FormatSpec} (n : Nat) (hn : n < 256) (t u : Tok) (hne : (spec.length == 0) = false)
    (hasc : ((spec.cps.toList.drop 1).any (· ≥ 128) || (spec.cps.getD 0 0 ≥ 128 && !([60, 62, 61, 94] : List Nat).contains (spec.cps.getD 1 0))) = false)
    (hp : parseFormatSpec spec.cps.toList "int" 62 = .ok f) (hf : f = { align := 62, type := some 98 }) :
    Meets (Builtin.«int.__format__» ⟨[.int (n : Int) t, .str spec u], []⟩) (fun _ R s => ∀ t' k, R (.ok (.ret (.str (binT n) t'))) { s with toks := k }) := by
  apply KPc.meets_of
  intro prog w A s Q E h
  unfold Builtin.«int.__format__»
  simp only [selfAndOne, noKeywords, Int.intOfSelf, asInt?, asStr?, List.isEmpty_nil, if_true, pure_bind, bind_pure, bind_assoc, hne, hasc, Bool.false_eq_true, if_false,
    show (Value.str spec u == Value.none) = false from rfl]
  refine wpAny_bind (wpAny_typeNameOf (T := "str") (typeIs_str _ _ _) (by decide) fun _ => ?_)
  refine wpAny_bind (wpAny_typeNameOfCut_int ?_)
  simp only [hp]
  have hty : f.type = some 98 := by rw [hf]
  simp only [hty, Option.getD_some]
  rw [if_pos (by decide)]
  have hpr : f.precision = none := by rw [hf]
  have hz : f.noNeg0 = false := by rw [hf]
  have hal : f.alt = false := by rw [hf]
  have hw : f.width.getD 0 = 0 := by rw [hf]; rfl
  clear hp hasc hne
  show wpAny _ _ (if _ then _ else _) _ _ _
  rw [if_neg (by simp [hpr])]
  show wpAny _ _ (if _ then _ else _) _ _ _
  rw [if_neg (by simp [hz])]
  show wpAny _ _ (if _ then _ else _) _ _ _
  rw [if_neg (by decide)]
  show wpAny _ _ (if _ then _ else _) _ _ _
  rw [if_neg (by decide)]
  show wpAny _ _ (if _ then _ else _) _ _ _
  rw [if_neg (by omega)]
  refine KXf.ret_text (T := binT n) ?_ ?_ h
  · clear h
    subst hf
    clear hty hpr hz hal hw
    revert n
    decide +kernel
  · clear h
    subst hf
    clear hty hpr hz hal hw
    revert n
    decide +kernel
/-- {e:b}, a field of an octet -/
theorem bin_field {prog : Program} {w : World} {A : Around} {E : Value → Shared → Prop} {s : Shared} {n : Nat} {t : Tok} {Q : Value → Shared → Prop} (hn : n < 256) (h : ∀ t' k, Q (.str (binT n) t') { s with toks := k }) :
    wpAny (model prog w) A (formatField (.int (n : Int) t) "b") Q E s :=
  KXf.field_meets (by decide) (fun s' => typeIs_int s' n t) F.slot_int_format F.entry_int_format F.args_int_format_2 (by decide) (fun u => meets_bin' n hn t u (by decide) (by decide) (by rfl) rfl) h
theorem bin_count : ∀ n : Nat, n < 256 → PySem.Txt.count (binT n) "1" = (([n / 128 % 2, n / 64 % 2, n / 32 % 2, n / 16 % 2, n / 8 % 2, n / 4 % 2, n / 2 % 2, n / 1 % 2].count 1 : Nat) : Int) := by decide +kernel
end PySem.W
namespace VB
open PySem PySem.Spec PyProof.Rows L2
section
variable {X : Cx} {e : Expr} {te : TE} {p1 p2 p3 p4 : Pos} {j : Nat}
/-- f'{e:b}', e an octet -/
def tBin (te : TE) : TE := fun σ H Q => te σ H fun x H1 => ∃ n : Nat, x = .int (n : Int) ∧ n < 256 ∧ Q (.str (PySem.W.binT n)) H1
theorem pe_bin (he : PE X e te) : PE X (.JoinedStr [.FormattedValue e (-1) (some (.JoinedStr [.Constant (.str "b") j p1] p2)) p3] p4) (tBin te) := by
  refine pe_joined1 ⟨fun pins s σ H Q I h => wpAny_FormattedValue_spec (thn (he.run pins s σ H _ I h) fun v s1 hv => ?_)⟩
  obtain ⟨x, H1, I1, r1, n, rfl, hn, q⟩ := hv
  obtain ⟨t, rfl⟩ := r1
  refine thn ((pe_joined1 (pos := p2) (pe_str (x := "b") (j := j) (pos := p1))).run pins s1 σ H1 (fun y H2 => y = .str "b" ∧ H2 = H1) I1 ⟨rfl, rfl⟩) fun w s2 hw => ?_
  obtain ⟨y, H2, I2, r2, rfl, rfl⟩ := hw
  obtain ⟨t2, rfl⟩ := r2
  exact ⟨_, _, rfl, PySem.W.bin_field hn fun t' k => ⟨.str (PySem.W.binT n), H2, I2.tok _, ⟨_, rfl⟩, q⟩⟩
end
end VB
/-! zip of two sequences, each a list or a tuple -/
namespace VB
open PySem PySem.Spec PyProof.Rows L2
/-- a list (false) or a tuple (true) at l -/
def Sq (t : Bool) (h : Heap) (l : Addr) (xs : Array Value) : Prop := match t with
  | false => h.IsList l xs
  | true => h.IsTuple l xs
/-- its iterator at i, at the k-th place -/
def Si (t : Bool) (h : Heap) (i l : Addr) (k : Nat) : Prop := match t with
  | false => h.IsListIter i l k
  | true => h.IsTupleIter i l k
section
variable {t u : Bool} {h h' : Heap} {i l b : Addr} {k : Nat} {xs ys : Array Value}
theorem Sq.ext (x : Sq t h l xs) (e : Heap.ExtBut b h h') (n : l ≠ b) : Sq t h' l xs := by
  cases t with
  | false => exact Heap.IsList.extBut (show h.IsList l xs from x) e n
  | true => exact Heap.IsTuple.extBut (show h.IsTuple l xs from x) e n
theorem Si.ext (x : Si t h i l k) (e : Heap.ExtBut b h h') (n : i ≠ b) : Si t h' i l k := by
  cases t with
  | false => exact Heap.IsListIter.extBut (show h.IsListIter i l k from x) e n
  | true => exact Heap.IsTupleIter.extBut (show h.IsTupleIter i l k from x) e n
theorem Sq.psh (x : Sq t h l xs) (o : Obj) : Sq t (h.push o) l xs := by
  cases t with
  | false => exact Heap.IsList.push (show h.IsList l xs from x) o
  | true => exact Heap.IsTuple.push (show h.IsTuple l xs from x) o
theorem Si.stay (x : Si t h i l k) (e : ∀ o, h.get? i = some o → h'.get? i = some o) : Si t h' i l k := by
  cases t with
  | false => exact Heap.IsListIter.at (show h.IsListIter i l k from x) e
  | true => exact Heap.IsTupleIter.at (show h.IsTupleIter i l k from x) e
theorem Si.obj (x : Si t h i l k) : ∃ o, h.get? i = some o ∧ ∀ v, o.data ≠ .cell v := by
  cases t with
  | false =>
    obtain ⟨o, e, _, d⟩ := (show h.IsListIter i l k from x)
    exact ⟨o, e, fun v q => by rw [d] at q; cases q⟩
  | true =>
    obtain ⟨o, e, _, d⟩ := (show h.IsTupleIter i l k from x)
    exact ⟨o, e, fun v q => by rw [d] at q; cases q⟩
end
section
variable {prog : Program} {w : World} {A : Around} {E : Value → Shared → Prop} {s : Shared} {t u : Bool}
  {z T1 T2 i1 i2 l1 l2 : Addr} {k1 k2 : Nat} {xs ys : Array Value} {x y c d : Value}
theorem draw_item {it l : Addr} {k : Nat} {Q : Value → Shared → Prop} (hi : Si t s.heap it l k) (hl : Sq t s.heap l xs)
    (hx : xs[k]? = some x) (hq : ∀ h', Si t h' it l (k + 1) → Heap.SameBut it s.heap h' → Q x { s with heap := h' }) :
    wpAny (model prog w) A (Builtin.SmallTypes.nextOf (.ref it)) Q E s := by
  cases t with
  | false => exact wpAny_nextOf_list_item (show s.heap.IsListIter it l k from hi) (show s.heap.IsList l xs from hl) hx hq
  | true => exact RZ.nextOf_tuple_item (show s.heap.IsTupleIter it l k from hi) (show s.heap.IsTuple l xs from hl) hx hq
theorem draw_end {it l : Addr} {k : Nat} {Q : Value → Shared → Prop} (hh : A.handled = none) (hi : Si t s.heap it l k)
    (hl : Sq t s.heap l xs) (hx : xs[k]? = none)
    (he : ∀ h' e, Heap.ExtBut it s.heap h' → (∃ o, h'.get? e = some o ∧ o.cls = .type "StopIteration") → E (.ref e) { s with heap := h' }) :
    wpAny (model prog w) A (Builtin.SmallTypes.nextOf (.ref it)) Q E s := by
  cases t with
  | false => exact wpAny_nextOf_list_end hh (show s.heap.IsListIter it l k from hi) (show s.heap.IsList l xs from hl) hx he
  | true => exact RZ.nextOf_tuple_end hh (show s.heap.IsTupleIter it l k from hi) (show s.heap.IsTuple l xs from hl) hx he

/-- what a turn of the zip object leaves -/
structure ZTurn (t u : Bool) (h h' : Heap) (z T1 T2 i1 i2 l1 l2 : Addr) (k1 k2 : Nat) (x y : Value) : Prop where
  zip : IsZip h' z T1 T2 (rawInt h.objs.size)
  out : IsPair h' T2 x y
  it1 : Si t h' i1 l1 (k1 + 1)
  it2 : Si u h' i2 l2 (k2 + 1)
  new : IsPair h' h.objs.size x y
  size : h'.objs.size = h.objs.size + 1
  keep : ∀ b o, b ≠ z → b ≠ T2 → b ≠ i1 → b ≠ i2 → h.get? b = some o → h'.get? b = some o

theorem zmix_item {Q : Value → Shared → Prop} (D : ZipApart z T1 T2 i1 i2 l1 l2) (hz : IsZip s.heap z T1 T2 .none)
    (h1 : IsPair s.heap T1 (.ref i1) (.ref i2)) (h2 : IsPair s.heap T2 c d) (a1 : Si t s.heap i1 l1 k1) (a2 : Si u s.heap i2 l2 k2)
    (b1 : Sq t s.heap l1 xs) (b2 : Sq u s.heap l2 ys) (hx : xs[k1]? = some x) (hy : ys[k2]? = some y)
    (hq : ∀ h', ZTurn t u s.heap h' z T1 T2 i1 i2 l1 l2 k1 k2 x y → Q (.ref s.heap.objs.size) { s with heap := h' }) :
    wpAny (model prog w) A (Builtin.«zip.__next__» ⟨[.ref z], []⟩) (fun fin s' => ∃ v, fin = .done (.ret v) ∧ Q v s') E s := by
  show wpAny _ _ (field (.ref z) 2 >>= _) _ _ _
  refine wpAny_bind (wpAny_field hz rfl (x := .bool false) rfl ?_)
  show wpAny _ _ (field (.ref z) 3 >>= _) _ _ _
  refine wpAny_bind (wpAny_field hz rfl (x := .ref T1) rfl ?_)
  refine wpAny_bind (wpAny_seqItems h1 rfl ?_)
  show wpAny _ _ (Builtin.SmallTypes.ownedTupleIsFree (.ref z) >>= _) _ _ _
  refine wpAny_bind ?_
  unfold Builtin.SmallTypes.ownedTupleIsFree
  refine wpAny_bind (wpAny_field hz rfl (x := .none) rfl (wpAny_pure ?_))
  simp only [if_true]
  refine wpAny_bind (wpAny_rule ?_)
  refine wpAny_bind (wpAny_field hz rfl (x := .ref T2) rfl ?_)
  refine wpAny_bind (wpAny_setField_rec hz (by simp) ?_)
  intro g1 zg1 s1
  replace zg1 : IsZip g1 z T1 T2 .ellipsis := zg1
  refine wpAny_bind ?_
  simp only [List.zipIdx_cons, List.zipIdx_nil, List.forIn_cons, List.forIn_nil]
  -- the first one's item
  refine wpAny_bind (wpAny_bind (wpAny_onRaise ?_))
  show wpAny _ _ (Builtin.SmallTypes.nextOf (.ref i1) >>= _) _ _ _
  refine wpAny_bind (draw_item (a1.ext s1.extBut D.i1z) (b1.ext s1.extBut D.l1z) hx ?_)
  intro g2 n1 s2
  refine wpAny_pure ?_
  have o2 : IsPair g2 T2 c d := s2.extBut _ _ D.TOi1 (s1.extBut _ _ D.TOz h2)
  refine wpAny_bind (wpAny_seqItems o2 rfl ?_)
  refine wpAny_bind (wpAny_updateSeq_pair o2 ?_)
  intro g3 o3 s3
  replace o3 : IsPair g3 T2 x d := o3
  refine wpAny_bind (wpAny_letGo (wpAny_pure ?_))
  -- the second one's
  refine wpAny_bind (wpAny_bind (wpAny_onRaise ?_))
  show wpAny _ _ (Builtin.SmallTypes.nextOf (.ref i2) >>= _) _ _ _
  refine wpAny_bind (draw_item (((a2.ext s1.extBut D.i2z).ext s2.extBut D.i12.symm).ext s3.extBut D.TOi2.symm)
    (((b2.ext s1.extBut D.l2z).ext s2.extBut D.l2i1).ext s3.extBut D.l2TO) hy ?_)
  intro g4 n2 s4
  refine wpAny_pure ?_
  have o4 : IsPair g4 T2 x d := s4.extBut _ _ D.TOi2 o3
  refine wpAny_bind (wpAny_seqItems o4 rfl ?_)
  refine wpAny_bind (wpAny_updateSeq_pair o4 ?_)
  intro g5 o5 s5
  replace o5 : IsPair g5 T2 x y := o5
  refine wpAny_bind (wpAny_letGo (wpAny_pure (wpAny_pure ?_)))
  -- the pair
  refine wpAny_bind (wpAny_seqItems o5 rfl ?_)
  refine wpAny_bind (wpAny_newTuple ?_)
  have sz : g5.objs.size = s.heap.objs.size := by rw [s5.1, s4.1, s3.1, s2.1, s1.1]
  have z5 : IsZip g5 z T1 T2 .ellipsis :=
    s5.extBut _ _ D.TOz.symm (s4.extBut _ _ D.i2z.symm (s3.extBut _ _ D.TOz.symm (s2.extBut _ _ D.i1z.symm zg1)))
  have kp : ∀ b o, b ≠ z → b ≠ T2 → b ≠ i1 → b ≠ i2 → s.heap.get? b = some o → g5.get? b = some o := by
    intro b o e1 e2 e3 e4 e
    exact s5.extBut _ _ e2 (s4.extBut _ _ e4 (s3.extBut _ _ e2 (s2.extBut _ _ e3 (s1.extBut _ _ e1 e))))
  have m1 : Si t g5 i1 l1 (k1 + 1) := ((n1.ext s3.extBut D.TOi1.symm).ext s4.extBut D.i12).ext s5.extBut D.TOi1.symm
  have m2 : Si u g5 i2 l2 (k2 + 1) := n2.ext s5.extBut D.TOi2.symm
  have zlt : z < g5.objs.size := Heap.lt_size z5
  show wpAny _ _ (Builtin.SmallTypes.ownedTupleHandOut (.ref z) (.ref g5.objs.size) >>= _) _ _ _
  refine wpAny_bind ?_
  unfold Builtin.SmallTypes.ownedTupleHandOut
  have z6 : IsZip (g5.push { cls := .type "tuple", data := .seq #[x, y] }) z T1 T2 .ellipsis := Heap.get?_push_of_some _ z5
  refine wpAny_bind (wpAny_setField_rec z6 (by simp) ?_)
  intro g7 z7 s7
  replace z7 : IsZip g7 z T1 T2 (rawInt g5.objs.size) := z7
  refine wpAny_setField_rec z7 (by simp) ?_
  intro g8 z8 s8
  replace z8 : IsZip g8 z T1 T2 (rawInt g5.objs.size) := z8
  have up : ∀ b o, b ≠ z → g5.get? b = some o → g8.get? b = some o := fun b o n e =>
    s8.extBut _ _ n (s7.extBut _ _ n (Heap.get?_push_of_some _ e))
  have nz : g5.objs.size ≠ z := Nat.ne_of_gt zlt
  have p8 : IsPair g8 g5.objs.size x y := s8.extBut _ _ nz (s7.extBut _ _ nz (Heap.get?_push_size _ rfl))
  have l8 : g8.objs.size = g5.objs.size + 1 := by rw [s8.1, s7.1, Heap.size_push]
  rw [sz] at z8 p8 l8
  refine wpAny_pure ⟨_, rfl, ?_⟩
  show Q (.ref g5.objs.size) _
  rw [sz]
  exact hq g8 ⟨z8, up _ _ D.TOz o5, m1.stay (fun o => up _ o D.i1z), m2.stay (fun o => up _ o D.i2z), p8, l8,
    fun b o e1 e2 e3 e4 e => up b o e1 (kp b o e1 e2 e3 e4 e)⟩

theorem zmix_end {Q : Fin → Shared → Prop} (hh : A.handled = none) (D : ZipApart z T1 T2 i1 i2 l1 l2) (hz : IsZip s.heap z T1 T2 .none)
    (h1 : IsPair s.heap T1 (.ref i1) (.ref i2)) (h2 : IsPair s.heap T2 c d) (a1 : Si t s.heap i1 l1 k1) (a2 : Si u s.heap i2 l2 k2)
    (b1 : Sq t s.heap l1 xs) (b2 : Sq u s.heap l2 ys) (hend : xs[k1]? = none ∨ ys[k2]? = none)
    (he : ∀ h' e, (∀ b o, b ≠ z → b ≠ T2 → b ≠ i1 → b ≠ i2 → s.heap.get? b = some o → h'.get? b = some o) →
      (∃ o, h'.get? e = some o ∧ o.cls = .type "StopIteration") → E (.ref e) { s with heap := h' }) :
    wpAny (model prog w) A (Builtin.«zip.__next__» ⟨[.ref z], []⟩) Q E s := by
  show wpAny _ _ (field (.ref z) 2 >>= _) _ _ _
  refine wpAny_bind (wpAny_field hz rfl (x := .bool false) rfl ?_)
  show wpAny _ _ (field (.ref z) 3 >>= _) _ _ _
  refine wpAny_bind (wpAny_field hz rfl (x := .ref T1) rfl ?_)
  refine wpAny_bind (wpAny_seqItems h1 rfl ?_)
  show wpAny _ _ (Builtin.SmallTypes.ownedTupleIsFree (.ref z) >>= _) _ _ _
  refine wpAny_bind ?_
  unfold Builtin.SmallTypes.ownedTupleIsFree
  refine wpAny_bind (wpAny_field hz rfl (x := .none) rfl (wpAny_pure ?_))
  simp only [if_true]
  refine wpAny_bind (wpAny_rule ?_)
  refine wpAny_bind (wpAny_field hz rfl (x := .ref T2) rfl ?_)
  refine wpAny_bind (wpAny_setField_rec hz (by simp) ?_)
  intro g1 zg1 s1
  replace zg1 : IsZip g1 z T1 T2 .ellipsis := zg1
  refine wpAny_bind ?_
  simp only [List.zipIdx_cons, List.zipIdx_nil, List.forIn_cons, List.forIn_nil]
  refine wpAny_bind (wpAny_bind (wpAny_onRaise ?_))
  show wpAny _ _ (Builtin.SmallTypes.nextOf (.ref i1) >>= _) _ _ _
  cases hx : xs[k1]? with
  | none =>
    refine wpAny_bind (draw_end hh (a1.ext s1.extBut D.i1z) (b1.ext s1.extBut D.l1z) hx ?_)
    rintro g2 e s2 ⟨oe, he1, he2⟩
    have zg2 : IsZip g2 z T1 T2 .ellipsis := s2 _ _ D.i1z.symm zg1
    have ez : e ≠ z := by
      rintro rfl
      rw [zg2] at he1
      cases he1
      simp at he2
    refine wpAny_setField_rec zg2 (by simp) ?_
    intro g3 _ s3
    exact he g3 e (fun b o e1 _ e3 _ q => s3.extBut _ _ e1 (s2 _ _ e3 (s1.extBut _ _ e1 q))) ⟨oe, s3.extBut _ _ ez he1, he2⟩
  | some x =>
    have hy : ys[k2]? = none := by
      rcases hend with q | q
      · rw [hx] at q
        cases q
      · exact q
    refine wpAny_bind (draw_item (a1.ext s1.extBut D.i1z) (b1.ext s1.extBut D.l1z) hx ?_)
    intro g2 n1 s2
    refine wpAny_pure ?_
    have o2 : IsPair g2 T2 c d := s2.extBut _ _ D.TOi1 (s1.extBut _ _ D.TOz h2)
    refine wpAny_bind (wpAny_seqItems o2 rfl ?_)
    refine wpAny_bind (wpAny_updateSeq_pair o2 ?_)
    intro g3 o3 s3
    refine wpAny_bind (wpAny_letGo (wpAny_pure ?_))
    refine wpAny_bind (wpAny_bind (wpAny_onRaise ?_))
    show wpAny _ _ (Builtin.SmallTypes.nextOf (.ref i2) >>= _) _ _ _
    refine wpAny_bind (draw_end hh (((a2.ext s1.extBut D.i2z).ext s2.extBut D.i12.symm).ext s3.extBut D.TOi2.symm)
      (((b2.ext s1.extBut D.l2z).ext s2.extBut D.l2i1).ext s3.extBut D.l2TO) hy ?_)
    rintro g4 e s4 ⟨oe, he1, he2⟩
    have zg4 : IsZip g4 z T1 T2 .ellipsis := s4 _ _ D.i2z.symm (s3.extBut _ _ D.TOz.symm (s2.extBut _ _ D.i1z.symm zg1))
    have ez : e ≠ z := by
      rintro rfl
      rw [zg4] at he1
      cases he1
      simp at he2
    refine wpAny_setField_rec zg4 (by simp) ?_
    intro g5 _ s5
    exact he g5 e (fun b o e1 e2 e3 e4 q => s5.extBut _ _ e1 (s4 _ _ e4 (s3.extBut _ _ e2 (s2.extBut _ _ e3 (s1.extBut _ _ e1 q)))))
      ⟨oe, s5.extBut _ _ ez he1, he2⟩
end
end VB
/-! zip of two sequences, each a list or a tuple: its making, its walk -/
namespace VB
open PySem PySem.Spec PyProof.Rows L2
theorem Sv.inj {X : Cx} {pins : List (Addr × Obj)} {σ : L2.St} {H : Hp} {s : Shared} {t : Bool} {a : Addr} {xs ys : List V}
    (I : Inv X pins σ H s) (h : Sv t X.K H a xs) (h' : Sv t X.K H a ys) : xs = ys := by
  cases t with
  | false => exact I.list_inj (show SqL X.K H a xs from h) (show SqL X.K H a ys from h')
  | true => exact I.tuple_inj (show SqT X.K H a xs from h) (show SqT X.K H a ys from h')
theorem Sv.real {X : Cx} {pins : List (Addr × Obj)} {σ : L2.St} {H : Hp} {s : Shared} {t : Bool} {a : Addr} {xs : List V}
    (I : Inv X pins σ H s) (h : Sv t X.K H a xs) : ∃ its : List Value, Vals xs its ∧ Sq t s.heap a its.toArray ∧ a < s.heap.objs.size := by
  cases t with
  | false =>
    obtain ⟨its, r, p, _⟩ := I.list (show SqL X.K H a xs from h)
    exact ⟨its, r, p.isList, p.lt⟩
  | true =>
    obtain ⟨its, r, p, _⟩ := I.tuple (show SqT X.K H a xs from h)
    obtain ⟨o, ho, _⟩ := id p
    exact ⟨its, r, p, Heap.lt_size ho⟩
section
variable {prog : Program} {w : World} {A : Around} {E : Value → Shared → Prop} {s : Shared} {t u : Bool}
  {z T1 T2 i1 i2 l1 l2 : Addr} {k1 k2 : Nat} {xs ys : Array Value} {x y c d : Value}
theorem zmix_next {Q : Option Value → Shared → Prop} (D : ZipApart z T1 T2 i1 i2 l1 l2) (hz : IsZip s.heap z T1 T2 .none)
    (h1 : IsPair s.heap T1 (.ref i1) (.ref i2)) (h2 : IsPair s.heap T2 c d) (a1 : Si t s.heap i1 l1 k1) (a2 : Si u s.heap i2 l2 k2)
    (b1 : Sq t s.heap l1 xs) (b2 : Sq u s.heap l2 ys) (hx : xs[k1]? = some x) (hy : ys[k2]? = some y)
    (hq : ∀ h', ZTurn t u s.heap h' z T1 T2 i1 i2 l1 l2 k1 k2 x y → Q (some (.ref s.heap.objs.size)) { s with heap := h' }) :
    wpAny (model prog w) A (pyNext (.ref z)) Q E s := by
  have ty : s.TypeIs (.ref z) "zip" := ⟨_, hz, rfl⟩
  unfold pyNext
  refine wpAny_bind (wpAny_attempt ?_)
  refine wpAny_callSpecial?_slot (name := Str.ofString "__next__") ty F.slot_zip_next ?_
  refine wpAny_call_entry F.slot_zip_next ty F.entry_zip_next ?_ (F.args_zip_next_1 _)
  exact zmix_item D hz h1 h2 a1 a2 b1 b2 hx hy fun h' q => wpAny_pure (hq h' q)
theorem zmix_stop {Q : Option Value → Shared → Prop} (hh : A.handled = none) (D : ZipApart z T1 T2 i1 i2 l1 l2) (hz : IsZip s.heap z T1 T2 .none)
    (h1 : IsPair s.heap T1 (.ref i1) (.ref i2)) (h2 : IsPair s.heap T2 c d) (a1 : Si t s.heap i1 l1 k1) (a2 : Si u s.heap i2 l2 k2)
    (b1 : Sq t s.heap l1 xs) (b2 : Sq u s.heap l2 ys) (hend : xs[k1]? = none ∨ ys[k2]? = none)
    (hq : ∀ h', (∀ b o, b ≠ z → b ≠ T2 → b ≠ i1 → b ≠ i2 → s.heap.get? b = some o → h'.get? b = some o) → Q none { s with heap := h' }) :
    wpAny (model prog w) A (pyNext (.ref z)) Q E s := by
  have ty : s.TypeIs (.ref z) "zip" := ⟨_, hz, rfl⟩
  unfold pyNext
  refine wpAny_bind (wpAny_attempt ?_)
  refine wpAny_callSpecial?_slot (name := Str.ofString "__next__") ty F.slot_zip_next ?_
  refine wpAny_call_entry F.slot_zip_next ty F.entry_zip_next ?_ (F.args_zip_next_1 _)
  refine zmix_end hh D hz h1 h2 a1 a2 b1 b2 hend ?_
  rintro h' e kp ⟨o, ho, hc⟩
  refine wpAny_bind (wpAny_isInstance (T := "StopIteration") (b := true) ⟨o, ho, hc⟩ isSubtype_stop ?_)
  exact wpAny_pure (hq _ kp)
end
/-- an iterator over l, new -/
def itO (t : Bool) (l : Addr) : Obj := match t with
  | false => { cls := .type "list_iterator", data := .fields #[.ref l, .int 0 0] }
  | true => { cls := .type "tuple_iterator", data := .fields #[.ref l, .int 0 0] }
section
variable (t u : Bool) (h : Heap) (l1 l2 : Addr)
abbrev zm1 : Heap := h.push (itO t l1)
abbrev zm2 : Heap := (zm1 t h l1).push (itO u l2)
abbrev zm3 : Heap := (zm2 t u h l1 l2).push { cls := .type "tuple", data := .seq #[.ref h.objs.size, .ref (zm1 t h l1).objs.size] }
abbrev zm4 : Heap := (zm3 t u h l1 l2).push { cls := .type "tuple", data := .seq #[.none, .none] }
abbrev zm5 : Heap := (zm4 t u h l1 l2).push { cls := .type "zip", data := .fields #[.none, .bool false, .bool false, .ref (zm2 t u h l1 l2).objs.size, .ref (zm3 t u h l1 l2).objs.size] }
end
theorem meets_zmix (t u : Bool) (l1 l2 : Addr) (xs ys : Array Value) :
    Meets (Builtin.«zip.__new__» ⟨[.type "zip", .ref l1, .ref l2], []⟩) (fun _ R s => Sq t s.heap l1 xs ∧ Sq u s.heap l2 ys ∧
      R (.ok (.ret (.ref (zm4 t u s.heap l1 l2).objs.size))) { s with heap := zm5 t u s.heap l1 l2 }) := by
  refine .of_wp ?_
  rintro prog w A R ⟨hp, g, d, tk, os⟩ ⟨b1, b2, h⟩
  have sub := sub_zip
  have c2 : Sq u (hp.push (itO t l1)) l2 ys := b2.psh _
  cases t with
  | false =>
    have e1 : Heap.IsList (Shared.heap ⟨hp, g, d, tk, os⟩) l1 xs := b1
    cases u with
    | false =>
      have e2 : Heap.IsList (Shared.heap ⟨hp.push { cls := .type "list_iterator", data := .fields #[.ref l1, .int 0 0] }, g, d, tk, os⟩) l2 ys := c2
      wp_walk using wpAny_pyIter_list e1, wpAny_pyIter_list e2
      exact ⟨_, rfl, h⟩
    | true =>
      have e2 : Heap.IsTuple (Shared.heap ⟨hp.push { cls := .type "list_iterator", data := .fields #[.ref l1, .int 0 0] }, g, d, tk, os⟩) l2 ys := c2
      wp_walk using wpAny_pyIter_list e1, wpAny_pyIter_tuple e2
      exact ⟨_, rfl, h⟩
  | true =>
    have e1 : Heap.IsTuple (Shared.heap ⟨hp, g, d, tk, os⟩) l1 xs := b1
    cases u with
    | false =>
      have e2 : Heap.IsList (Shared.heap ⟨hp.push { cls := .type "tuple_iterator", data := .fields #[.ref l1, .int 0 0] }, g, d, tk, os⟩) l2 ys := c2
      wp_walk using wpAny_pyIter_tuple e1, wpAny_pyIter_list e2
      exact ⟨_, rfl, h⟩
    | true =>
      have e2 : Heap.IsTuple (Shared.heap ⟨hp.push { cls := .type "tuple_iterator", data := .fields #[.ref l1, .int 0 0] }, g, d, tk, os⟩) l2 ys := c2
      wp_walk using wpAny_pyIter_tuple e1, wpAny_pyIter_tuple e2
      exact ⟨_, rfl, h⟩
theorem si_new {t : Bool} {h : Heap} {i l : Addr} (e : h.get? i = some (itO t l)) : Si t h i l 0 := by
  cases t with
  | false => exact ⟨_, e, rfl, rfl⟩
  | true => exact ⟨_, e, rfl, rfl⟩
section
variable {prog : Program} {w : World} {A : Around} {E : Value → Shared → Prop} {s : Shared} {t u : Bool}
/-- what zip's call leaves -/
structure ZNew (t u : Bool) (h h' : Heap) (l1 l2 : Addr) : Prop where
  zip : IsZip h' (h.objs.size + 4) (h.objs.size + 2) (h.objs.size + 3) .none
  its : IsPair h' (h.objs.size + 2) (.ref h.objs.size) (.ref (h.objs.size + 1))
  out : IsPair h' (h.objs.size + 3) .none .none
  it1 : Si t h' h.objs.size l1 0
  it2 : Si u h' (h.objs.size + 1) l2 0
  keep : ∀ b o, h.get? b = some o → h'.get? b = some o
theorem call_zmix {l1 l2 : Addr} {xs ys : Array Value} {Q : Value → Shared → Prop} (b1 : Sq t s.heap l1 xs) (b2 : Sq u s.heap l2 ys)
    (hq : ∀ h', ZNew t u s.heap h' l1 l2 → Q (.ref (s.heap.objs.size + 4)) { s with heap := h' }) :
    wpAny (model prog w) A (call (.type "zip") [.ref l1, .ref l2]) Q E s := by
  refine callType_new F.called_zip (by decide) (F.typeCall_zip_2 _ _) (F.newCall_zip_2 _ _) (fun obj => F.args_object_init_3 obj _ _)
    F.entry_zip_new (meets_zmix t u l1 l2 xs ys) ⟨b1, b2, ?_⟩
  have n1 : (zm1 t s.heap l1).objs.size = s.heap.objs.size + 1 := Heap.size_push ..
  have n2 : (zm2 t u s.heap l1 l2).objs.size = s.heap.objs.size + 2 := by rw [Heap.size_push, n1]
  have n3 : (zm3 t u s.heap l1 l2).objs.size = s.heap.objs.size + 3 := by rw [Heap.size_push, n2]
  have n4 : (zm4 t u s.heap l1 l2).objs.size = s.heap.objs.size + 4 := by rw [Heap.size_push, n3]
  have f5 : itO t l1 = itO t l1 := rfl
  have nf : ∀ (b : Bool) (l : Addr), (itO b l).isFreed = false := fun b l => by cases b <;> rfl
  have g5 : (zm5 t u s.heap l1 l2).get? (zm4 t u s.heap l1 l2).objs.size = some _ := Heap.get?_push_size _ rfl
  have g4 : (zm5 t u s.heap l1 l2).get? (zm3 t u s.heap l1 l2).objs.size = some _ := Heap.get?_push_of_some _ (Heap.get?_push_size _ rfl)
  have g3 : (zm5 t u s.heap l1 l2).get? (zm2 t u s.heap l1 l2).objs.size = some _ := Heap.get?_push_of_some _ (Heap.get?_push_of_some _ (Heap.get?_push_size _ rfl))
  have g2 : (zm5 t u s.heap l1 l2).get? (zm1 t s.heap l1).objs.size = some (itO u l2) :=
    Heap.get?_push_of_some _ (Heap.get?_push_of_some _ (Heap.get?_push_of_some _ (Heap.get?_push_size _ (nf u l2))))
  have g1 : (zm5 t u s.heap l1 l2).get? s.heap.objs.size = some (itO t l1) :=
    Heap.get?_push_of_some _ (Heap.get?_push_of_some _ (Heap.get?_push_of_some _ (Heap.get?_push_of_some _ (Heap.get?_push_size _ (nf t l1)))))
  show _ ∧ _
  rw [n2, n3, n4] at g5
  rw [n1, n2] at g3
  rw [n3] at g4
  rw [n1] at g2
  rw [n4]
  refine ⟨⟨_, g5, rfl⟩, hq _ ⟨g5, g3, g4, si_new g1, si_new g2, ?_⟩⟩
  intro b o e
  exact Heap.get?_push_of_some _ (Heap.get?_push_of_some _ (Heap.get?_push_of_some _ (Heap.get?_push_of_some _ (Heap.get?_push_of_some _ e))))
end
/-- two sequences as they stand at each turn, the items in new pairs -/
def Itm (t u : Bool) (K : PySem.W.Frag) (a b : Addr) : It :=
  ⟨fun i H => ∃ (xs ys : List V) (x y : V), Sv t K H a xs ∧ Sv u K H b ys ∧ xs[i]? = some x ∧ ys[i]? = some y,
    fun i H v H' => ∃ N x y, v = .ref N ∧ H N = none ∧ H' = upd H N (.tup [x, y]) ∧ (∀ xs, Sv t K H a xs → xs[i]? = some x) ∧ ∀ ys, Sv u K H b ys → ys[i]? = some y,
    fun i H => ∃ xs ys : List V, Sv t K H a xs ∧ Sv u K H b ys ∧ (xs.length ≤ i ∨ ys.length ≤ i)⟩
theorem in5 {a b c d e x : Addr} (h : x ∈ [a, b, c, d, e]) : x = a ∨ x = b ∨ x = c ∨ x = d ∨ x = e := by simpa using h
theorem turn_zmix {P : Program} {w : World} {K : PySem.W.Frag} {t u : Bool} {elts : List Expr} {kk : Nat} {tpos : Pos} {a b z T1 T2 i1 i2 : Addr}
    (D : ZipApart z T1 T2 i1 i2 a b) : Turn P w K (.Tuple elts kk tpos) (Itm t u K a b) [z, T1, T2, i1, i2] z
      (fun i h => IsZip h z T1 T2 .none ∧ IsPair h T1 (.ref i1) (.ref i2) ∧ (∃ x y, IsPair h T2 x y) ∧ Si t h i1 a i ∧ Si u h i2 b i) := by
  refine ⟨by simp, ?_, ?_, ?_, ?_, ?_⟩
  · rintro i h ⟨hz, h1, ⟨x, y, h2⟩, a1, a2⟩ c hc
    rcases in5 hc with rfl | rfl | rfl | rfl | rfl
    · exact ⟨_, hz, fun v q => nomatch q⟩
    · exact ⟨_, h1, fun v q => nomatch q⟩
    · exact ⟨_, h2, fun v q => nomatch q⟩
    · exact a1.obj
    · exact a2.obj
  · rintro i h h' ⟨hz, h1, ⟨x, y, h2⟩, a1, a2⟩ k
    exact ⟨k z (by simp) _ hz, k T1 (by simp) _ h1, ⟨x, y, k T2 (by simp) _ h2⟩, a1.stay fun o q => k i1 (by simp) o q, a2.stay fun o q => k i2 (by simp) o q⟩
  · intro X hP hw hK hc i pins s σ H E I hf st hg
    subst hP hw hK
    obtain ⟨hz, h1, ⟨x0, y0, h2⟩, a1, a2⟩ := st
    obtain ⟨xs, ys, x, y, qx, qy, hx, hy⟩ := hg
    obtain ⟨its, rv, p, _⟩ := qx.real I
    obtain ⟨its2, rv2, p2, _⟩ := qy.real I
    obtain ⟨v1, hv1, r1⟩ := rv.get hx
    obtain ⟨v2, hv2, r2⟩ := rv2.get hy
    have zl : z < s.heap.objs.size := Heap.lt_size hz
    refine zmix_next D hz h1 h2 a1 a2 p p2 (x := v1) (y := v2) (by simpa using hv1) (by simpa using hv2) ?_
    intro g T
    refine ⟨_, rfl, wpAny_letOwnedTupleGo_zip (s := { s with heap := g }) T.zip ?_⟩
    intro g2 z2 sb
    have nN : s.heap.objs.size ≠ z := Nat.ne_of_gt zl
    have pN : g2.get? s.heap.objs.size = some { cls := .type "tuple", data := .seq #[v1, v2] } := (sb.2 _ nN).trans T.new
    have ok : ObjOk X.prog X.w (upd H s.heap.objs.size (.tup [x, y])) g2 s.heap.objs.size (.tup [x, y]) :=
      ⟨by show 2 ≤ sizeLine; decide, [v1, v2], .cons r1 (.cons r2 .nil), ⟨_, pN, rfl, _, rfl⟩⟩
    have J : Inv X pins σ (upd H s.heap.objs.size (.tup [x, y])) { s with heap := g2 } := by
      refine I.turnedNew (t' := s.toks) (ch := [z, T1, T2, i1, i2]) ?_ hf (Nat.le_refl _) ok
      intro c o hb q
      have n : c ≠ z ∧ c ≠ T2 ∧ c ≠ i1 ∧ c ≠ i2 := ⟨fun e => hb (by simp [e]), fun e => hb (by simp [e]), fun e => hb (by simp [e]), fun e => hb (by simp [e])⟩
      exact (sb.2 c n.1).trans (T.keep c o n.1 n.2.1 n.2.2.1 n.2.2.2 q)
    refine ⟨.ref s.heap.objs.size, _, J, rfl, ⟨_, x, y, rfl, I.hok.fresh (Nat.le_refl _), rfl, ?_, ?_⟩, ⟨z2, ?_, ⟨v1, v2, ?_⟩, ?_, ?_⟩, ?_⟩
    · intro l hl
      rw [hl.inj I qx]
      exact hx
    · intro l hl
      rw [hl.inj I qy]
      exact hy
    · exact (sb.2 _ D.TIz).trans (T.keep _ _ D.TIz D.TITO D.TIi1 D.TIi2 h1)
    · exact (sb.2 _ D.TOz).trans T.out
    · exact T.it1.stay fun o q => (sb.2 _ D.i1z).trans q
    · exact T.it2.stay fun o q => (sb.2 _ D.i2z).trans q
    · intro c hcm
      have lt : c < s.heap.objs.size := by
        rcases in5 hcm with rfl | rfl | rfl | rfl | rfl
        · exact zl
        · exact Heap.lt_size h1
        · exact Heap.lt_size h2
        · obtain ⟨_, e, _⟩ := a1.obj
          exact Heap.lt_size e
        · obtain ⟨_, e, _⟩ := a2.obj
          exact Heap.lt_size e
      rw [upd_ne (Nat.ne_of_lt lt)]
      exact (hf c hcm).1
  · intro X hP hw hK hc i pins s σ H E I hf st hg
    subst hP hw hK
    obtain ⟨hz, h1, ⟨x0, y0, h2⟩, a1, a2⟩ := st
    obtain ⟨xs, ys, qx, qy, hend⟩ := hg
    obtain ⟨its, rv, p, _⟩ := qx.real I
    obtain ⟨its2, rv2, p2, _⟩ := qy.real I
    have e1 := rv.length
    have e2 := rv2.length
    have he : its.toArray[i]? = none ∨ its2.toArray[i]? = none := by
      rcases hend with q | q
      · exact .inl (by simp; omega)
      · exact .inr (by simp; omega)
    refine zmix_stop (I.ok.hd hc) D hz h1 h2 a1 a2 p p2 he ?_
    intro g kp
    refine ⟨rfl, I.turnedL (t' := s.toks) (ch := [z, T1, T2, i1, i2]) ?_ hf⟩
    intro c o hb q
    exact kp c o (fun e => hb (by simp [e])) (fun e => hb (by simp [e])) (fun e => hb (by simp [e])) (fun e => hb (by simp [e])) q
  · intro A i s Q E st h
    exact wpAny_pyIter_zip st.1 h
/-- zip(e, e2): lists and tuples, in any mixture -/
def iZm (K : PySem.W.Frag) (ta : TA) : TI := fun σ H R => ta σ H fun vs H1 => ∃ (t u : Bool) (a b : Addr) (xs ys : List V), vs = [.ref a, .ref b] ∧
  Sv t K H1 a xs ∧ Sv u K H1 b ys ∧ R (Itm t u K a b) H1
theorem pi_zm {X : Cx} {K : PySem.W.Frag} {e e2 : Expr} {ta : TA} {p pos tpos : Pos} {elts : List Expr} {kk : Nat} (hg : Gl X "zip") (hm : X.mg "zip" = none) (ha : PA X [e, e2] ta) (hK : X.K = K := by rfl)
    (hs : starEach [e, e2] X.env = (false, eval e X.env) :: starEach [e2] X.env := by rfl) (hpl : (backTo pos (starEach [e2] X.env)).any (·.1) = false := by rfl) :
    PI X (.Tuple elts kk tpos) (.Call (.Name "zip" p) [e, e2] [] pos) (iZm K ta) := by
  subst hK
  constructor
  intro pins s σ H R I h
  refine Call_ (ld_blt I hg hm PyProof.Rows.boot_zip (PyProof.Rows.callWith_type1 (thn (ha.run pos pins s σ H _ I h) ?_) hs hpl))
  rintro us s1 ⟨vs, H1, I1, r1, t, u, a, b, xs, ys, rfl, qx, qy, q⟩
  obtain ⟨w1, w2, rfl, ra, rb⟩ := vals2 r1
  cases (show w1 = Value.ref a from ra)
  cases (show w2 = Value.ref b from rb)
  obtain ⟨its, rv, p1, lt1⟩ := qx.real I1
  obtain ⟨its2, rv2, p2, lt2⟩ := qy.real I1
  refine call_zmix p1 p2 ?_
  intro h' Z
  refine wpAny_pyIter_zip Z.zip ?_
  have I2 : Inv X pins σ H1 { s1 with heap := h' } := I1.kept (t' := s1.toks) Z.keep
  let n := s1.heap.objs.size
  refine ⟨n + 4, [n + 4, n + 2, n + 3, n, n + 1], _, _, H1, rfl, I2, turn_zmix (PySem.W.ktu_apart n a b lt1 lt2), ⟨Z.zip, Z.its, ⟨_, _, Z.out⟩, Z.it1, Z.it2⟩, ?_, q⟩
  intro c hc
  have le : n ≤ c := by
    show s1.heap.objs.size ≤ c
    rcases in5 hc with e | e | e | e | e
    · have e' : @Eq Nat c (s1.heap.objs.size + 4) := e
      omega
    · have e' : @Eq Nat c (s1.heap.objs.size + 2) := e
      omega
    · have e' : @Eq Nat c (s1.heap.objs.size + 3) := e
      omega
    · have e' : @Eq Nat c (s1.heap.objs.size) := e
      omega
    · have e' : @Eq Nat c (s1.heap.objs.size + 1) := e
      omega
  exact I1.fpOk le (I1.hok.fresh le)
/-- the walk -/
theorem walk_zm {t u : Bool} {K : PySem.W.Frag} {a b : Addr} {xs ys : List V} {n : Nat} (hn : n = min xs.length ys.length) :
    Walk (Itm t u K a b) n (fun H => Sv t K H a xs ∧ Sv u K H b ys) (YPair (fun i => xs[i]?) (fun i => ys[i]?)) := by
  subst hn
  refine ⟨?_, ?_, ?_⟩
  · intro i H hi q
    have h1 : i < xs.length := by omega
    have h2 : i < ys.length := by omega
    exact ⟨xs, ys, xs[i], ys[i], q.1, q.2, by simp [h1], by simp [h2]⟩
  · intro H q
    exact ⟨xs, ys, q.1, q.2, by omega⟩
  · rintro i H x H' _ q ⟨N, v, v', h1, h2, h3, h4, h5⟩
    exact ⟨N, v, v', h1, h2, h3, h4 xs q.1, h5 ys q.2⟩
end VB
/-! comprehensions that change nothing, of any values -/
namespace VB
open PySem PySem.Spec PyProof.Rows L2
theorem lc_pureVS {J : It} {G : Hp → Prop} {n j : Nat} {us : List V} {xs : List V} {te : TE} {vs : List Nat} {σ : L2.St} {H1 : Hp} {D : Addr} {Qd : Hp → Prop} (wk : Walk J n G (YAt xs)) (hG : ∀ H, Evl.Ex H1 H → G H)
    (hl : us.length = n) (hz : n ≤ 60000) (hD : H1 D = none) (hw : ∀ x, wipe ((wipe σ vs).set j x) vs = wipe σ vs)
    (hs : ∀ (i : Nat) (x : V) (u : V) (H : Hp) (Q : VK), xs[i]? = some x → us[i]? = some u → Evl.Ex H1 H → (∀ H' : Hp, Evl.Ex H H' → Q u H') → te ((wipe σ vs).set j (some x)) H Q)
    (hd : ∀ H, Evl.Ex H1 H → H D = some (.lst us) → Qd H) :
    ∃ W : Nat → Nat → Hp → Prop, (∃ m, W 0 m (upd H1 D (.lst []))) ∧ ∀ i m H, W i m H →
      (J.stop i H ∧ Qd H) ∨ (J.go i H ∧ ∃ Nx : Hp → Prop, (∀ H', Nx H' → ∃ m', m' < m ∧ W (i + 1) m' H') ∧ ∀ x H', J.yld i H x H' →
        gName j x (wipe σ vs) H' fun σ2 H2 => wipe σ2 vs = wipe σ vs ∧ tYes σ2 H2 fun b H3 =>
        if b = true then te σ2 H3 fun y H4 => ∃ acc, H4 D = some (.lst acc) ∧ acc.length < sizeLine ∧ Nx (upd H4 D (.lst (acc ++ [y]))) else Nx H3) := by
  refine lc_it wk (fun i H' => Evl.Ex H1 H' ∧ i ≤ n ∧ H' D = some (.lst (us.take i))) ⟨Evl.Ex.new hD, Nat.zero_le _, upd_same⟩ (fun i H _ h => hG H h.1) ?_ ?_
  · rintro i x H H' hi ⟨e1, hi2, h1⟩ ⟨rfl, hx⟩
    refine ⟨hw _, ?_⟩
    obtain ⟨u, hu⟩ : ∃ u, us[i]? = some u := ⟨us[i]'(by omega), by simp [show i < us.length by omega]⟩
    show te _ H' _
    refine hs i x u H' _ hx hu e1 fun H'' e2 => ⟨_, e2 D _ h1, ?_, Evl.Ex.mut (e1.trans e2) hD, by omega, ?_⟩
    · rw [List.length_take]
      exact Evl.sz_lt (by omega)
    · rw [upd_same, take_snoc hu]
  · rintro H ⟨e1, _, h1⟩
    refine hd H e1 ?_
    rw [h1, ← hl, List.take_length]
/-- .. over pairs -/
theorem lc_pureVZ {K : PySem.W.Frag} {J : It} {G : Hp → Prop} {n j1 j2 : Nat} {us : List V} {xs ys : Nat → Option V} {te : TE} {vs : List Nat} {σ : L2.St} {H1 : Hp} {D : Addr} {Qd : Hp → Prop} (wk : Walk J n G (YPair xs ys)) (hG : ∀ H, Evl.Ex H1 H → G H)
    (hl : us.length = n) (hz : n ≤ 60000) (hD : H1 D = none) (hw : ∀ x y, wipe (((wipe σ vs).set j1 x).set j2 y) vs = wipe σ vs)
    (hs : ∀ (i : Nat) (x y : V) (u : V) (H : Hp) (Q : VK), xs i = some x → ys i = some y → us[i]? = some u → Evl.Ex H1 H → (∀ H' : Hp, Evl.Ex H H' → Q u H') → te (((wipe σ vs).set j1 (some x)).set j2 (some y)) H Q)
    (hd : ∀ H, Evl.Ex H1 H → H D = some (.lst us) → Qd H) :
    ∃ W : Nat → Nat → Hp → Prop, (∃ m, W 0 m (upd H1 D (.lst []))) ∧ ∀ i m H, W i m H →
      (J.stop i H ∧ Qd H) ∨ (J.go i H ∧ ∃ Nx : Hp → Prop, (∀ H', Nx H' → ∃ m', m' < m ∧ W (i + 1) m' H') ∧ ∀ x H', J.yld i H x H' →
        gTup K 2 (gCons (gName j1) (gCons (gName j2) gNil)) x (wipe σ vs) H' fun σ2 H2 => wipe σ2 vs = wipe σ vs ∧ tYes σ2 H2 fun b H3 =>
        if b = true then te σ2 H3 fun y H4 => ∃ acc, H4 D = some (.lst acc) ∧ acc.length < sizeLine ∧ Nx (upd H4 D (.lst (acc ++ [y]))) else Nx H3) := by
  refine lc_it wk (fun i H' => Evl.Ex H1 H' ∧ i ≤ n ∧ H' D = some (.lst (us.take i))) ⟨Evl.Ex.new hD, Nat.zero_le _, upd_same⟩ (fun i H _ h => hG H h.1) ?_ ?_
  · rintro i v H H' hi ⟨e1, hi2, h1⟩ ⟨T, x, y, rfl, hT, rfl, hx, hy⟩
    have eT := Evl.Ex.new (o := .tup [x, y]) hT
    refine ⟨T, _, rfl, SqT.of upd_same, rfl, x, _, rfl, ⟨y, _, rfl, ?_⟩⟩
    refine ⟨rfl, hw _ _, ?_⟩
    obtain ⟨u, hu⟩ : ∃ u, us[i]? = some u := ⟨us[i]'(by omega), by simp [show i < us.length by omega]⟩
    show te _ _ _
    refine hs i x y u _ _ hx hy hu (e1.trans eT) fun H'' e2 => ⟨_, e2 D _ (eT D _ h1), ?_, Evl.Ex.mut ((e1.trans eT).trans e2) hD, by omega, ?_⟩
    · rw [List.length_take]
      exact Evl.sz_lt (by omega)
    · rw [upd_same, take_snoc hu]
  · rintro H ⟨e1, _, h1⟩
    refine hd H e1 ?_
    rw [h1, ← hl, List.take_length]
/-- a sequence's type -/
theorem Sv.ty {t : Bool} {K : PySem.W.Frag} {H : Hp} {a : Addr} {xs : List V} (h : Sv t K H a xs) : TyX K H (.ref a) (.type (if t then "tuple" else "list")) := by
  cases t with
  | false =>
    have h : SqL K H a xs := h
    rcases h with (h | ⟨o, h⟩) | ⟨o, its, n, h, c, _⟩
    · exact .base (.lst h)
    · exact .base (.frz h)
    · exact .kList h c
  | true =>
    have h : SqT K H a xs := h
    rcases h with (h | ⟨o, h⟩) | ⟨o, its, n, h, c, _⟩
    · exact .base (.tup h)
    · exact .fTuple h
    · exact .kTuple h c
theorem kit_seq (K : PySem.W.Frag) (t : Bool) : PySem.W.kitAny K (.type (if t then "tuple" else "list")) [.type "list", .type "tuple"] = some true := by
  cases t with
  | false => exact kitAny_cons (b := true) (kit_ty (by decide +kernel)) (fun z => nomatch z) (fun _ => rfl)
  | true => exact kitAny_cons (b := false) (kit_ty (by decide +kernel)) (fun _ => kitAny_cons (b := true) (kit_ty (by decide +kernel)) (fun z => nomatch z) (fun _ => rfl)) (fun z => nomatch z)
/-- an int of the module -/
theorem pe_globI {X : Cx} {x : Str} {i : Int} {pos : Pos} (hg : Gl X x) (h : ∃ t, X.mg x = some (.int i t)) (hd : (x == ("__debug__" : Str)) = false := by decide) : PE X (.Name x pos) (tC (.int i)) := by
  obtain ⟨t, h⟩ := h
  exact pe_glob hg h ⟨_, rfl⟩ hd
end VB
/-! what the laws share -/
namespace VB
open PySem PySem.Spec PyProof.Rows L2 BM
section
variable {P : Program} {w : World} {K : PySem.W.Frag} {mg : Str → Option Value} {base : Heap} {f : Addr} {fd : FuncData}
/-- at a: a box: what is left of the digits, whether they count, the seed, the draws so far (below n) -/
def Box (H : Hp) (a : Addr) (n : Int) : Prop := ∃ (d m c : Int) (b : Bool), H a = some (.lst [.int d, .bl b, .int m, .int c]) ∧ 0 ≤ d ∧ 0 ≤ m ∧ m < 2147483629 ∧ 0 ≤ c ∧ c ≤ n
/-- all but what stands at a is as it was -/
def Exb (a : Addr) (H H' : Hp) : Prop := ∀ b o, b ≠ a → H b = some o → H' b = some o
theorem Exb.upd {a : Addr} {H : Hp} {o : HO} : Exb a H (upd H a o) := fun b u n e => by rw [upd_ne n]; exact e
theorem Exb.trans {a : Addr} {H H1 H2 : Hp} (x : Exb a H H1) (y : Exb a H1 H2) : Exb a H H2 := fun b o n e => y b o n (x b o n e)
theorem Exb.of {a : Addr} {H H' : Hp} (x : Evl.Ex H H') : Exb a H H' := fun b o _ e => x b o e
theorem Exb.new {a p : Addr} {H : Hp} {o : HO} (h : H p = none) : Exb a H (L2.upd H p o) := Exb.of (Evl.Ex.new h)
theorem Box.ex {H H' : Hp} {a : Addr} {n : Int} (b : Box H a n) (e : Evl.Ex H H') : Box H' a n := by
  obtain ⟨d, m, c, k, h, r⟩ := b
  exact ⟨d, m, c, k, e _ _ h, r⟩
theorem Box.at {H : Hp} {a p : Addr} {n : Int} (b : Box H a n) (h : H p = none) : p ≠ a := by
  obtain ⟨d, m, c, k, e, r⟩ := b
  rintro rfl
  rw [h] at e
  cases e
theorem Box.le {H : Hp} {a : Addr} {n m : Int} (b : Box H a n) (h : n ≤ m) : Box H a m := by
  obtain ⟨d, m', c, k, e, r1, r2, r3, r4, r5⟩ := b
  exact ⟨d, m', c, k, e, r1, r2, r3, r4, by omega⟩
abbrev ws8 : List Int := [128, 64, 32, 16, 8, 4, 2, 1]
theorem ws8_get {j : Nat} {u : Int} (h : ws8[j]? = some u) : 0 < u ∧ u ≤ 128 := by
  have m := List.mem_of_getElem? h
  simp only [ws8, List.mem_cons, List.not_mem_nil, or_false] at m
  omega
theorem bitsOf_ws (o : Int) : bitsOf o = ws8.map fun u => o / u % 2 := rfl
theorem octetsN_snoc : ∀ (n : Nat) (bs : List Int), octetsN (n + 1) bs = octetsN n bs ++ [octOf ((bs.drop (8 * n)).take 8)]
  | 0, bs => rfl
  | n + 1, bs => by
    show octOf (bs.take 8) :: octetsN (n + 1) (bs.drop 8) = octOf (bs.take 8) :: octetsN n (bs.drop 8) ++ _
    rw [octetsN_snoc n (bs.drop 8), List.drop_drop]
    have e : 8 + 8 * n = 8 * (n + 1) := by omega
    rw [e]
    rfl
theorem octetsN_len : ∀ (n : Nat) (bs : List Int), (octetsN n bs).length = n
  | 0, _ => rfl
  | n + 1, bs => by
    show (octetsN n (bs.drop 8)).length + 1 = _
    rw [octetsN_len n]
theorem cut8 (bs : List Int) (i : Nat) (hi : 8 * i ≤ bs.length) : cutV (IV bs) (some (0 + (i : Int) * 8)) (some (0 + (i : Int) * 8 + 8)) = IV ((bs.drop (8 * i)).take 8) := by
  have e1 : (0 : Int) + (i : Int) * 8 = ((8 * i : Nat) : Int) := by omega
  have e2 : ((8 * i : Nat) : Int) + 8 = ((8 * i + 8 : Nat) : Int) := by omega
  unfold cutV
  rw [e1, e2, HT.sIx_nat, HT.sIx_nat, iv_len, ← List.map_drop, ← List.map_take]
  have e3 : min (8 * i) bs.length = 8 * i := by omega
  rw [e3]
  congr 1
  rw [List.take_eq_take_iff, List.length_drop]
  omega
theorem octOf_snoc (bs : List Int) (b : Int) : octOf (bs ++ [b]) = 2 * octOf bs + b := by
  unfold octOf
  rw [List.foldl_append]
  rfl
theorem if_ne {x y : Int} {A B : Prop} (h1 : x ≠ y → A) (h2 : x = y → B) : if (!decide (V.int x = V.int y)) = true then A else B := by
  by_cases e : x = y
  · rw [decide_eq_true (congrArg V.int e)]
    exact iteF (h2 e)
  · rw [decide_eq_false (fun z => e (V.int.inj z))]
    exact iteT (h1 e)
theorem if_eq {x y : Int} {A B : Prop} (h1 : x = y → A) (h2 : x ≠ y → B) : if decide (V.int x = V.int y) = true then A else B := by
  by_cases e : x = y
  · rw [decide_eq_true (congrArg V.int e)]
    exact iteT (h1 e)
  · rw [decide_eq_false (fun z => e (V.int.inj z))]
    exact iteF (h2 e)
theorem drop_get {α : Type} {l : List α} {i : Nat} {x : α} (h : l[i]? = some x) : l.drop i = x :: l.drop (i + 1) := by
  obtain ⟨hi, e⟩ := List.getElem?_eq_some_iff.mp h
  rw [List.drop_eq_getElem_cons hi, e]
theorem get_lt {α : Type} {l : List α} {i : Nat} (h : i < l.length) : ∃ x, l[i]? = some x := ⟨l[i], by simp [h]⟩
theorem iv_set (pre post : List Int) (x y : Int) : (IV (pre ++ x :: post)).set pre.length (V.int y) = IV (pre ++ y :: post) := by
  rw [← List.map_set, List.set_append_right _ _ (Nat.le_refl _)]
  simp
theorem turned_cons (x y m : Int) (as bs : List Int) : turned (x :: as) (y :: bs) m = if x = y then x :: turned as bs m else (if m % 2 = 1 then y else x) :: turned as bs (m / 2) := by
  rw [turned]
/-- beyond all masks -/
def MM : Int := 2 ^ 4096
theorem MM_eq : (1 : Int) * 2 ^ (4096 : Int).toNat = MM := by
  have e : (4096 : Int).toNat = 4096 := rfl
  rw [e, Int.one_mul]
  rfl
theorem pow_nn (k : Nat) : (0 : Int) < 2 ^ k := Int.pow_pos (by decide)
theorem pow_mono {a b : Nat} (h : a ≤ b) : (2 : Int) ^ a ≤ 2 ^ b := by
  have q : (2 : Nat) ^ a ≤ 2 ^ b := Nat.pow_le_pow_right (by decide) h
  have q2 : (((2 : Nat) ^ a : Nat) : Int) ≤ ((2 ^ b : Nat) : Int) := Int.ofNat_le.mpr q
  simpa using q2
theorem MM_half {k : Nat} (h : k ≤ 4095) : 2 * (2 : Int) ^ k ≤ MM := by
  have q := pow_mono (a := k + 1) (b := 4096) (by omega)
  rw [Int.pow_succ] at q
  unfold MM
  omega
theorem lt_natAbs {x : Int} {n : Nat} (h0 : 0 ≤ x) (h : x < 2 ^ n) : x.natAbs < 2 ^ n := by
  have e : (x.natAbs : Int) = x := Int.natAbs_of_nonneg h0
  have q : (x.natAbs : Int) < ((2 ^ n : Nat) : Int) := by
    rw [e]
    simpa using h
  exact Int.ofNat_lt.mp q
theorem more_bits {x w : Int} {n : Nat} (h0 : 0 ≤ x) (h : x < 2 ^ n) (w0 : 0 ≤ w) (w1 : w < 2 ^ 48) : 0 ≤ x * 2 ^ 48 + w ∧ x * 2 ^ 48 + w < 2 ^ (n + 48) := by
  rw [Int.pow_add]
  have p : (0 : Int) < 2 ^ 48 := pow_nn 48
  have m : (x + 1) * 2 ^ 48 ≤ 2 ^ n * 2 ^ 48 := Int.mul_le_mul_of_nonneg_right (by omega) (Int.le_of_lt p)
  rw [Int.add_mul, Int.one_mul] at m
  have m0 : 0 ≤ x * 2 ^ 48 := Int.mul_nonneg h0 (Int.le_of_lt p)
  omega
theorem oct_snoc {xs : List Int} {r : Int} (h : Oct xs) (h0 : 0 ≤ r) (h1 : r ≤ 255) : Oct (xs ++ [r]) := by
  intro o ho
  rcases List.mem_append.mp ho with q | q
  · exact h o q
  · have e : o = r := by simpa using q
    omega
theorem zip_get {xs ys : List Int} {p : Int × Int} (h : p ∈ xs.zip ys) : ∃ i : Nat, xs[i]? = some p.1 ∧ ys[i]? = some p.2 := by
  obtain ⟨i, hi⟩ := List.mem_iff_getElem?.mp h
  obtain ⟨q1, q2⟩ := List.getElem?_zip_eq_some.mp hi
  exact ⟨i, q1, q2⟩
theorem bitAnd_pp {x y : Int} (hx : 0 ≤ x) (hy : 0 ≤ y) : Builtin.bitAnd x y = ((x.toNat &&& y.toNat : Nat) : Int) := by
  obtain ⟨a, rfl⟩ := nat_of hx
  obtain ⟨b, rfl⟩ := nat_of hy
  rfl
/-- two lists of octets, item by item -/
def both (f : Int → Int → Int) (xs ys : List Int) : List Int := (xs.zip ys).map fun p => f p.1 p.2
theorem both_len {f : Int → Int → Int} {xs ys : List Int} (h : xs.length = ys.length) : (both f xs ys).length = xs.length := by
  unfold both
  rw [List.length_map, List.length_zip]
  omega
theorem both_get {f : Int → Int → Int} {xs ys : List Int} {i : Nat} {u : Int} (h : (both f xs ys)[i]? = some u) : ∃ x y, xs[i]? = some x ∧ ys[i]? = some y ∧ u = f x y := by
  unfold both at h
  rw [List.getElem?_map] at h
  cases e : (xs.zip ys)[i]? with
  | none => rw [e] at h; cases h
  | some p =>
    rw [e] at h
    obtain ⟨q1, q2⟩ := List.getElem?_zip_eq_some.mp e
    exact ⟨p.1, p.2, q1, q2, (Option.some.inj h).symm⟩
theorem both_oct {f : Int → Int → Int} {xs ys : List Int} (ox : Oct xs) (oy : Oct ys) (h : ∀ x y, 0 ≤ x ∧ x ≤ 255 → 0 ≤ y ∧ y ≤ 255 → 0 ≤ f x y ∧ f x y ≤ 255) : Oct (both f xs ys) := by
  intro o ho
  obtain ⟨i, hi⟩ := List.mem_iff_getElem?.mp ho
  obtain ⟨x, y, hx, hy, rfl⟩ := both_get hi
  exact h x y (ox x (List.mem_of_getElem? hx)) (oy y (List.mem_of_getElem? hy))
theorem oct_and {x y : Int} (hx : 0 ≤ x ∧ x ≤ 255) (hy : 0 ≤ y ∧ y ≤ 255) : (0 ≤ Builtin.bitAnd x y ∧ Builtin.bitAnd x y ≤ 255) ∧ Le (bitsOf (Builtin.bitAnd x y)) (bitsOf x) := by
  rw [bitAnd_pp hx.1 hy.1]
  have e : ((x.toNat : Nat) : Int) = x := by omega
  have h := and_oct (a := x.toNat) (b := y.toNat) (by omega)
  refine ⟨by omega, ?_⟩
  have q := and_le x.toNat y.toNat
  rw [e] at q
  exact q
theorem oct_or {x y : Int} (hx : 0 ≤ x ∧ x ≤ 255) (hy : 0 ≤ y ∧ y ≤ 255) : (0 ≤ Builtin.bitOr x y ∧ Builtin.bitOr x y ≤ 255) ∧ Le (bitsOf x) (bitsOf (Builtin.bitOr x y)) := by
  rw [Bits.bitOr_pp hx.1 hy.1]
  have e : ((x.toNat : Nat) : Int) = x := by omega
  have h := or_oct (a := x.toNat) (b := y.toNat) (by omega) (by omega)
  refine ⟨by omega, ?_⟩
  have q := le_or x.toNat y.toNat
  rw [e] at q
  exact q
theorem bitsL_le' {xs ys : List Int} (hl : xs.length = ys.length) (h : ∀ (i : Nat) x y, xs[i]? = some x → ys[i]? = some y → Le (bitsOf x) (bitsOf y)) : Le (bitsL xs) (bitsL ys) :=
  bitsL_le hl fun p hp => by
    obtain ⟨i, h1, h2⟩ := zip_get hp
    exact h i _ _ h1 h2
theorem oct_255 (c : Nat) : Oct (List.replicate c 255) := fun o ho => by
  have e := List.eq_of_mem_replicate ho
  omega
theorem iv_rep (c : Nat) (o : Int) : IV (List.replicate c o) = List.replicate c (V.int o) := List.map_replicate ..
/-- one more octet of a comprehension over a box -/
def Grown (a D : Addr) (H0 : Hp) (m : Int) (i : Nat) (H' : Hp) : Prop := Exb a H0 H' ∧ Box H' a (m + 3 * i) ∧ ∃ xs : List Int, xs.length = i ∧ Oct xs ∧ H' D = some (.lst (IV xs))
theorem Grown.start {a D : Addr} {H : Hp} {m : Int} (B : Box H a m) (hD : H D = none) : Grown a D H m 0 (upd H D (.lst [])) :=
  ⟨Exb.new hD, (B.ex (Evl.Ex.new hD)).le (by omega), [], rfl, fun _ h => (by cases h), upd_same⟩
theorem Grown.more {a D : Addr} {H0 H1 H2 : Hp} {m r : Int} {i : Nat} (g : Grown a D H0 m i H1) (hD : D ≠ a) (hn : H0 D = none) (hi : i ≤ 1000) (e : Exb a H1 H2) (B : Box H2 a (m + 3 * i + 3)) (r0 : 0 ≤ r) (r1 : r ≤ 255) :
    ∃ acc, H2 D = some (.lst acc) ∧ acc.length < sizeLine ∧ Grown a D H0 m (i + 1) (upd H2 D (.lst (acc ++ [V.int r]))) := by
  obtain ⟨e1, B1, xs, hl, ho, h⟩ := g
  have B2 : Box (upd H2 D (.lst (IV xs ++ [V.int r]))) a (m + 3 * i + 3) := by
    obtain ⟨d, m', c, k, hb, q⟩ := B
    exact ⟨d, m', c, k, by rw [upd_ne (Ne.symm hD)]; exact hb, q⟩
  refine ⟨IV xs, e D _ hD h, by rw [iv_len, hl]; exact Evl.sz_lt (by omega), ?_, B2.le (by omega), xs ++ [r], by simp [hl], oct_snoc ho r0 r1, by rw [upd_same, iv_snoc]⟩
  intro b o n q
  have hb : b ≠ D := by
    rintro rfl
    rw [hn] at q
    cases q
  rw [upd_ne hb]
  exact e b o n (e1 b o n q)
/-- keywords in other orders than the parameters' -/
abbrev g1 : List Value → List Value → List Value := fun _ ws => [ws.getD 0 .none]
abbrev g1V : List V → List V → List V := fun _ ws => [ws.getD 0 .non]
abbrev g21 : List Value → List Value → List Value := fun _ ws => [ws.getD 1 .none, ws.getD 0 .none]
abbrev g21V : List V → List V → List V := fun _ ws => [ws.getD 1 .non, ws.getD 0 .non]
abbrev g321 : List Value → List Value → List Value := fun _ ws => [ws.getD 2 .none, ws.getD 1 .none, ws.getD 0 .none]
abbrev g321V : List V → List V → List V := fun _ ws => [ws.getD 2 .non, ws.getD 1 .non, ws.getD 0 .non]
theorem same_ne {x : V} {A B : Prop} (h : B) : if (!decide (x = x)) = true then A else B := by
  rw [decide_eq_true rfl]
  exact iteF h
theorem same_int {x y : Int} {A B : Prop} (e : x = y) (h : B) : if (!decide (V.int x = V.int y)) = true then A else B := by
  subst e
  exact same_ne h
theorem same_bl {x y : Bool} {A B : Prop} (e : x = y) (h : B) : if (!decide (V.bl x = V.bl y)) = true then A else B := by
  subst e
  exact same_ne h
theorem if_dec {p : Prop} [Decidable p] {A B : Prop} (h1 : p → A) (h2 : ¬ p → B) : if decide p = true then A else B := by
  by_cases z : p
  · rw [decide_eq_true z]
    exact iteT (h1 z)
  · rw [decide_eq_false z]
    exact iteF (h2 z)
theorem two_ways {x y : Int} {ta tb : TE} {σ : L2.St} {H : Hp} {Q : VK} (S : V → Hp → Prop) (ha : x = y → ∀ Q' : VK, (∀ v H', S v H' → Q' v H') → ta σ H Q')
    (hb : x ≠ y → ∀ Q' : VK, (∀ v H', S v H' → Q' v H') → tb σ H Q') (hQ : ∀ v H', S v H' → Q v H') : if decide (V.int x = V.int y) = true then ta σ H Q else tb σ H Q :=
  if_eq (fun z => ha z Q hQ) (fun z => hb z Q hQ)
theorem sm_fallen (n : Nat) (as bs : List Int) : ∀ (k : Int), 0 ≤ k → k + (as.length : Int) ≤ 10000 → Sm (fallenL k as bs) := by
  induction as generalizing bs with
  | nil =>
    intro k _ _
    cases bs <;> exact fun n hn => by cases hn
  | cons a as ih =>
    intro k hk hl
    cases bs with
    | nil => exact fun n hn => by cases hn
    | cons b bs =>
      have r := ih bs (k + 1) (by omega) (by simp at hl; omega)
      rw [fallenL]
      split
      · intro n hn
        cases hn with
        | head => simp at hl; omega
        | tail _ hn => exact r n hn
      · exact r
theorem zip8 {f : Int → Int → Int} {a0 a1 a2 a3 a4 a5 a6 a7 b0 b1 b2 b3 b4 b5 b6 b7 : Int} : List.zipWith f [a7, a6, a5, a4, a3, a2, a1, a0] [b7, b6, b5, b4, b3, b2, b1, b0] = [f a7 b7, f a6 b6, f a5 b5, f a4 b4, f a3 b3, f a2 b2, f a1 b1, f a0 b0] := rfl
theorem xor_bits {x y : Int} (hx : 0 ≤ x ∧ x ≤ 255) (hy : 0 ≤ y ∧ y ≤ 255) : bitsOf (Builtin.bitXor x y) = List.zipWith (fun a b => if a = b then 0 else 1) (bitsOf x) (bitsOf y) := by
  obtain ⟨a, rfl⟩ := nat_of hx.1
  obtain ⟨b, rfl⟩ := nat_of hy.1
  rw [Bits.bitXor_pp hx.1 hy.1, Int.toNat_natCast, Int.toNat_natCast, bitsOf_tb, bitsOf_tb, bitsOf_tb, zip8]
  simp only [tb_xor]
theorem and_bits {x y : Int} (hx : 0 ≤ x ∧ x ≤ 255) (hy : 0 ≤ y ∧ y ≤ 255) : bitsOf (Builtin.bitAnd x y) = List.zipWith (fun a b => if a = 1 ∧ b = 1 then 1 else 0) (bitsOf x) (bitsOf y) := by
  obtain ⟨a, rfl⟩ := nat_of hx.1
  obtain ⟨b, rfl⟩ := nat_of hy.1
  rw [bitAnd_pp hx.1 hy.1, Int.toNat_natCast, Int.toNat_natCast, bitsOf_tb, bitsOf_tb, bitsOf_tb, zip8]
  simp only [tb_and]
theorem xor_range {x y : Int} (hx : 0 ≤ x ∧ x ≤ 255) (hy : 0 ≤ y ∧ y ≤ 255) : 0 ≤ Builtin.bitXor x y ∧ Builtin.bitXor x y ≤ 255 := by
  rw [Bits.bitXor_pp hx.1 hy.1]
  have h := xor_oct (a := x.toNat) (b := y.toNat) (by omega) (by omega)
  omega
/-- what falls, octet by octet -/
def fallO (x y : Int) : Int := Builtin.bitAnd x (Builtin.bitXor x y)
def riseO (x y : Int) : Int := Builtin.bitAnd y (Builtin.bitXor x y)
theorem fallO_range {x y : Int} (hx : 0 ≤ x ∧ x ≤ 255) (hy : 0 ≤ y ∧ y ≤ 255) : 0 ≤ fallO x y ∧ fallO x y ≤ 255 := (oct_and hx (xor_range hx hy)).1
theorem riseO_range {x y : Int} (hx : 0 ≤ x ∧ x ≤ 255) (hy : 0 ≤ y ∧ y ≤ 255) : 0 ≤ riseO x y ∧ riseO x y ≤ 255 := (oct_and hy (xor_range hx hy)).1
theorem zw_self {f g : Int → Int → Int} (h : ∀ a b : Int, f a (g a b) = (fun a b => f a (g a b)) a b) : ∀ as bs : List Int, List.zipWith f as (List.zipWith g as bs) = List.zipWith (fun a b => f a (g a b)) as bs
  | [], _ => by simp
  | _ :: _, [] => by simp
  | a :: as, b :: bs => by simp [zw_self h as bs]
theorem zw_other {f g : Int → Int → Int} : ∀ as bs : List Int, List.zipWith f bs (List.zipWith g as bs) = List.zipWith (fun a b => f b (g a b)) as bs
  | [], _ => by simp
  | _ :: _, [] => by simp
  | a :: as, b :: bs => by simp [zw_other as bs]
theorem ones_fall {xs ys : List Int} (ox : Oct xs) (oy : Oct ys) (hl : xs.length = ys.length) : onesL 0 (bitsL (both fallO xs ys)) = fallenL 0 (bitsL xs) (bitsL ys) := by
  have e : bitsL (both fallO xs ys) = List.zipWith (fun a b => if a = 1 ∧ (if a = b then (0 : Int) else 1) = 1 then (1 : Int) else 0) (bitsL xs) (bitsL ys) := by
    refine bitsL_both (fun x y hx hy => ?_) xs ys ox oy
    unfold fallO
    rw [and_bits hx (xor_range hx hy), xor_bits hx hy, zw_self fun _ _ => rfl]
  rw [e]
  refine ones_of (fun as bs k => fallenL k as bs) (fun a b => a = 1 ∧ b = 0) (fun _ => by simp [fallenL]) (fun a as b bs k => by rw [fallenL]) ?_ _ _ 0 (by rw [bitsL_len, bitsL_len, hl]) (bitsL_bit xs) (bitsL_bit ys)
  intro a b ha hb
  rcases ha with rfl | rfl <;> rcases hb with rfl | rfl <;> decide
theorem fallen_swap : ∀ (as bs : List Int) (k : Int) , fallenL k bs as = (fun (as bs : List Int) (k : Int) => fallenL k bs as) as bs k := fun _ _ _ => rfl
theorem ones_rise {xs ys : List Int} (ox : Oct xs) (oy : Oct ys) (hl : xs.length = ys.length) : onesL 0 (bitsL (both riseO xs ys)) = fallenL 0 (bitsL ys) (bitsL xs) := by
  have e : bitsL (both riseO xs ys) = List.zipWith (fun a b => if b = 1 ∧ (if a = b then (0 : Int) else 1) = 1 then (1 : Int) else 0) (bitsL xs) (bitsL ys) := by
    refine bitsL_both (fun x y hx hy => ?_) xs ys ox oy
    unfold riseO
    rw [and_bits hy (xor_range hx hy), xor_bits hx hy, zw_other]
  rw [e]
  refine ones_of (fun as bs k => fallenL k bs as) (fun a b => b = 1 ∧ a = 0) (fun _ => by simp [fallenL]) (fun a as b bs k => by rw [fallenL]) ?_ _ _ 0 (by rw [bitsL_len, bitsL_len, hl]) (bitsL_bit xs) (bitsL_bit ys)
  intro a b ha hb
  rcases ha with rfl | rfl <;> rcases hb with rfl | rfl <;> decide
theorem ones_diff {xs ys : List Int} (ox : Oct xs) (oy : Oct ys) (hl : xs.length = ys.length) : onesL 0 (bitsL (both Builtin.bitXor xs ys)) = diffL 0 (bitsL xs) (bitsL ys) := by
  have e : bitsL (both Builtin.bitXor xs ys) = List.zipWith (fun a b => if a = b then (0 : Int) else 1) (bitsL xs) (bitsL ys) :=
    bitsL_both (fun x y hx hy => xor_bits hx hy) xs ys ox oy
  rw [e]
  refine ones_of (fun as bs k => diffL k as bs) (fun a b => ¬ a = b) (fun _ => by simp [diffL]) (fun a as b bs k => ?_) ?_ _ _ 0 (by rw [bitsL_len, bitsL_len, hl]) (bitsL_bit xs) (bitsL_bit ys)
  · rw [diffL]
    by_cases z : a = b <;> simp [z]
  · intro a b ha hb
    rcases ha with rfl | rfl <;> rcases hb with rfl | rfl <;> decide
/-- the zeros of an octet -/
def zO (n : Nat) : Int := 8 - (([n / 128 % 2, n / 64 % 2, n / 32 % 2, n / 16 % 2, n / 8 % 2, n / 4 % 2, n / 2 % 2, n / 1 % 2].count 1 : Nat) : Int)
theorem zO_eq : ∀ n : Nat, n < 256 → zO n = (((bitsOf (n : Int)).count 0 : Nat) : Int) := by decide +kernel
theorem zO_sum : ∀ os : List Int, Oct os → (os.map fun o => zO o.toNat).sum = zc (bitsL os)
  | [], _ => rfl
  | o :: os, h => by
    have r := zO_sum os fun x hx => h x (List.mem_cons_of_mem _ hx)
    have ho := h o (List.mem_cons_self ..)
    obtain ⟨n, rfl⟩ := nat_of ho.1
    rw [List.map_cons, List.sum_cons, r, Int.toNat_natCast, zO_eq n (by omega), bitsL_cons]
    unfold zc
    rw [List.count_append]
    omega
theorem ty_int (K : PySem.W.Frag) (H : Hp) (i : Int) : TyX K H (.int i) (.type "int") := .base (.int i)
theorem bitAnd_nn (a b : Nat) : Builtin.bitAnd (a : Int) (b : Int) = ((a &&& b : Nat) : Int) := by
  rw [bitAnd_pp (by omega) (by omega)]
  rfl
theorem worth_nat (j : Nat) : (128 : Int) / 2 ^ j = ((128 / 2 ^ j : Nat) : Int) := by
  simp
/-- at bit n of octets -/
theorem at_bit {xs : List Int} {n : Nat} (ox : Oct xs) (h : n < 8 * xs.length) : ∃ o : Nat, o < 256 ∧ xs[n / 8]? = some (o : Int) ∧ (bitsL xs)[n]? = (bitsOf (o : Int))[n % 8]? := by
  obtain ⟨x, hx⟩ := get_lt (l := xs) (i := n / 8) (by omega)
  have hm := ox x (List.mem_of_getElem? hx)
  obtain ⟨o, rfl⟩ := nat_of hm.1
  refine ⟨o, by omega, hx, ?_⟩
  have e := bitsL_get xs (n / 8) (n % 8) (by omega)
  rw [hx] at e
  have e2 : 8 * (n / 8) + n % 8 = n := by omega
  rw [e2] at e
  exact e
theorem both_at {g : Int → Int → Int} {xs ys : List Int} {i : Nat} {x y u : V} (hx : (IV xs)[i]? = some x) (hy : (IV ys)[i]? = some y) (hu : (IV (both g xs ys))[i]? = some u) : ∃ m n : Int, x = .int m ∧ y = .int n ∧ u = .int (g m n) := by
  obtain ⟨m, hm, rfl⟩ := iv_get hx
  obtain ⟨n, hn, rfl⟩ := iv_get hy
  obtain ⟨k, hk, rfl⟩ := iv_get hu
  obtain ⟨m', n', hm', hn', rfl⟩ := both_get hk
  rw [hm] at hm'
  rw [hn] at hn'
  cases hm'
  cases hn'
  exact ⟨_, _, rfl, rfl, rfl⟩
theorem bitXor_nn (a b : Nat) : Builtin.bitXor (a : Int) (b : Int) = ((a ^^^ b : Nat) : Int) := by
  rw [Bits.bitXor_pp (by omega) (by omega)]
  rfl
/-- one unlike bit on -/
theorem one_turn {os done as' bs' U : List Int} {m : Int} {i : Nat} {p : Int} {rest : List Int} (ho : Oct os) (hb : bitsL os = done ++ as') (bb : Bit bs') (hl : as'.length = bs'.length) (hu : diffL (done.length : Int) as' bs' = p :: rest) :
    ∃ (n o : Nat) (x y : Int) (pre as2 bs2 : List Int), p = (n : Int) ∧ o < 256 ∧ os[n / 8]? = some (o : Int) ∧ n / 8 < os.length ∧ as'.length = pre.length + 1 + as2.length ∧ as2.length = bs2.length ∧ Bit bs2 ∧
      (∀ m, turned as' bs' m = pre ++ (if m % 2 = 1 then y else x) :: turned as2 bs2 (m / 2)) ∧ rest = diffL ((done.length + pre.length + 1 : Nat) : Int) as2 bs2 ∧ bitsL os = (done ++ pre ++ [x]) ++ as2 ∧
      Oct (os.set (n / 8) ((o ^^^ (128 / 2 ^ (n % 8)) : Nat) : Int)) ∧ bitsL (os.set (n / 8) ((o ^^^ (128 / 2 ^ (n % 8)) : Nat) : Int)) = (done ++ pre ++ [y]) ++ as2 := by
  obtain ⟨pre, x, y, as2, bs2, h1, h2, h3, h4, h5, h6, h7⟩ := diff_at as' bs' _ p rest hl hu
  have lb := bitsL_len os
  have hn : done.length + pre.length < 8 * os.length := by
    rw [← lb, hb, h1]
    simp
  obtain ⟨o, o1, o2, o3⟩ := at_bit ho hn
  have bx : (bitsL os)[done.length + pre.length]? = some x := by
    rw [hb, h1, List.getElem?_append_right (by omega), Nat.add_sub_cancel_left, List.getElem?_append_right (by omega)]
    simp
  have bx2 : (bitsOf (o : Int))[(done.length + pre.length) % 8]? = some x := by rw [← o3]; exact bx
  have hx : x = 0 ∨ x = 1 := bitsL_bit os x (List.mem_of_getElem? bx)
  have hy : y = 0 ∨ y = 1 := bb y (by rw [h2]; simp)
  have yx : y = 1 - x := by omega
  obtain ⟨t1, t2⟩ := bit_turn o o1 ((done.length + pre.length) % 8) (by omega)
  have gd : (bitsOf (o : Int)).getD ((done.length + pre.length) % 8) 0 = x := by rw [List.getD_eq_getElem?_getD, bx2]; rfl
  rw [gd, ← yx] at t2
  have st := bitsL_set os ((done.length + pre.length) / 8) ((done.length + pre.length) % 8) _ _ _ (by omega) o2 t2
  have e8 : 8 * ((done.length + pre.length) / 8) + (done.length + pre.length) % 8 = done.length + pre.length := by omega
  rw [e8] at st
  refine ⟨done.length + pre.length, o, x, y, pre, as2, bs2, by rw [h4]; simp, o1, o2, by omega, by rw [h1]; simp; omega, h6, fun b hbm => bb b (by rw [h2]; simp [hbm]), h7, by rw [h5, h4]; congr 1, ?_, ?_, ?_⟩
  · rw [hb, h1]
    simp
  · intro z hz
    rcases List.mem_or_eq_of_mem_set hz with z1 | z1
    · exact ho z z1
    · omega
  · rw [st, hb, h1, List.append_assoc, List.append_assoc, List.set_append_right _ _ (by omega), Nat.add_sub_cancel_left]
    congr 1
    rw [List.set_append_right _ _ (Nat.le_refl _), Nat.sub_self]
    rfl
theorem Sv.tupOf {H : Hp} {a : Addr} {xs : List V} {t : Bool} {Q : VK} (S : Sv t K H a xs) (q : ∀ p H', Evl.Ex H H' → SqT K H' p xs → Q (.ref p) H') : rTupI K [.ref a] H Q := by
  unfold rTupI
  cases t with
  | false => exact ⟨a, xs, rfl, .inl ⟨S, fun l hl => q l _ (Evl.Ex.new hl) (SqT.of upd_same)⟩⟩
  | true => exact ⟨a, xs, rfl, .inr ⟨S, q a H (Evl.Ex.refl _) S⟩⟩
theorem Sv.listOf {H : Hp} {a : Addr} {xs : List V} {t : Bool} {Q : VK} (S : Sv t K H a xs) (q : ∀ p, H p = none → Q (.ref p) (upd H p (.lst xs))) : rListI K [.ref a] H Q := by
  unfold rListI
  exact ⟨a, xs, rfl, S.either, q⟩
theorem test_false {c : TT} {t u : TS} {D : Ends} {σ : L2.St} {H : Hp} (hc : ∀ Q' : Bool → Hp → Prop, (∀ H1, Evl.Ex H H1 → Q' false H1) → c σ H Q') (hu : ∀ H1, Evl.Ex H H1 → u D σ H1) : tIfI c t u D σ H := by
  unfold tIfI
  exact hc _ fun H1 e => iteF (hu H1 e)
theorem mem3 {w p q r : Int} {A B : Prop} (h1 : (w = p ∨ w = q ∨ w = r) → A) (h2 : B) : if (if false = true then !inV (V.int w) [.int p, .int q, .int r] else inV (V.int w) [.int p, .int q, .int r]) = true then A else B := by
  have e : (if false = true then !inV (V.int w) [.int p, .int q, .int r] else inV (V.int w) [.int p, .int q, .int r]) = decide (w = p ∨ w = q ∨ w = r) := by
    simp [inV, eqV, Bool.beq_eq_decide_eq, eq_comm]
  rw [e]
  exact if_dec h1 fun _ => h2
theorem in3 (w p q r : Int) : inV (.int w) [.int p, .int q, .int r] = decide (w = p ∨ w = q ∨ w = r) := by
  simp [inV, eqV, Bool.beq_eq_decide_eq, eq_comm]
abbrev tn (xs ys : List Int) (m : Int) : List Int := octetsL (turned (bitsL xs) (bitsL ys) m)
theorem tn_spec {xs ys : List Int} (m : Int) (hl : xs.length = ys.length) : bitsL (tn xs ys m) = turned (bitsL xs) (bitsL ys) m ∧ Oct (tn xs ys m) ∧ (tn xs ys m).length = xs.length := by
  have lx := bitsL_len xs
  have ly := bitsL_len ys
  have l := turned_len (bitsL xs) (bitsL ys) m (by omega)
  exact octetsL_spec (by omega) (turned_bit _ _ m (bitsL_bit xs) (bitsL_bit ys))
theorem sm_oct {xs : List Int} (h : Oct xs) : Sm xs := fun n hn => by
  have := h n hn
  omega
theorem ex_b {a : Addr} {H0 H H' : Hp} (e : Evl.Ex H0 H) (h : H0 a = none) (x : Exb a H H') : Evl.Ex H0 H' := fun b o q => x b o (fun z => by rw [z, h] at q; cases q) (e b o q)
theorem same_eq {x : V} {A B : Prop} (h : A) : if decide (x = x) = true then A else B := by
  rw [decide_eq_true rfl]
  exact iteT h
theorem ones_ok {k : Nat} (h : k ≤ 4096) : 0 ≤ (2 : Int) ^ k - 1 ∧ (2 : Int) ^ k - 1 < MM := by
  have p := pow_nn k
  have q : (2 : Int) ^ k ≤ MM := pow_mono h
  omega
theorem same_v {x y : V} {A B : Prop} (e : x = y) (h : B) : if (!decide (x = y)) = true then A else B := by
  subst e
  exact same_ne h
theorem bits_rep (o b : Int) (h : bitsOf o = List.replicate 8 b) : ∀ c : Nat, bitsL (List.replicate c o) = List.replicate (8 * c) b
  | 0 => rfl
  | c + 1 => by
    rw [List.replicate_succ, bitsL_cons, bits_rep o b h c, h, List.replicate_append_replicate]
    congr 1
    omega
theorem bits_ones (c : Nat) : bitsL (List.replicate c 255) = List.replicate (8 * c) 1 := bits_rep 255 1 (by decide) c
theorem bits_none (c : Nat) : bitsL (List.replicate c 0) = List.replicate (8 * c) 0 := bits_rep 0 0 (by decide) c
theorem oct_0 (c : Nat) : Oct (List.replicate c 0) := fun o h => by rw [List.eq_of_mem_replicate h]; omega
theorem zc_ones (n : Nat) : zc (List.replicate n 1) = 0 := by
  unfold zc
  rw [List.count_replicate]
  rfl
theorem zc_none (n : Nat) : zc (List.replicate n 0) = n := by
  unfold zc
  rw [List.count_replicate_self]
theorem le_rep : ∀ n : Nat, Le (List.replicate n 0) (List.replicate n 1)
  | 0 => Le.refl _
  | n + 1 => by
    rw [List.replicate_succ, List.replicate_succ]
    have := le_rep n
    simp [Le, this]
theorem fallen_rep : ∀ (n : Nat) (k : Int), fallenL k (List.replicate n 1) (List.replicate n 0) = (List.range n).map fun (i : Nat) => k + (i : Int)
  | 0, k => rfl
  | n + 1, k => by
    rw [List.replicate_succ, List.replicate_succ, fallenL, if_pos ⟨rfl, rfl⟩, fallen_rep n (k + 1), List.range_succ_eq_map, List.map_cons, List.map_map]
    congr 1
    · simp
    · apply List.map_congr_left
      intro i _
      simp
      omega
theorem due_long {c n : Nat} {dd : List Int} (hn : n = 512) (h : n ≤ c) (hd : dd = List.replicate n 0 ++ List.replicate (c - n) 255) : octetsL (turned (bitsL (List.replicate c 255)) (bitsL (List.replicate c 0)) (2 ^ 4096 - 1)) = dd := by
  subst hd
  have n8 : 4096 = 8 * n := by omega
  rw [n8]
  clear n8 hn
  have e : 8 * c = 8 * n + 8 * (c - n) := by omega
  rw [bits_ones, bits_none, e, turned_first]
  have e2 : List.replicate (8 * n) (0 : Int) ++ List.replicate (8 * (c - n)) 1 = bitsL (List.replicate n 0 ++ List.replicate (c - n) 255) := by
    rw [bitsL_append, bits_none, bits_ones]
  rw [e2, octetsL_bitsL]
  intro o ho
  rcases List.mem_append.mp ho with z | z
  · exact oct_0 _ o z
  · exact oct_255 _ o z
theorem rep_flat (k : Nat) (o : Int) : (List.replicate k [V.int o]).flatten = IV (List.replicate k o) := by
  rw [iv_rep]
  simp
/-- (o,) * k -/
theorem mulT1 {H : Hp} {t : Addr} {k o : Int} {Q : VK} (S : SqT K H t [V.int o]) (h1 : 1 ≤ k) (h2 : k ≤ 1000) (q : ∀ (n : Nat) p H', (n : Int) = k → Evl.Ex H H' → SqT K H' p (IV (List.replicate n o)) → Q (.ref p) H') : rMulU1 K (.ref t) (.int k) H Q := by
  unfold rMulU1
  by_cases e : k = 1
  · subst e
    exact .inr ⟨t, _, rfl, rfl, S, q 1 t H rfl (Evl.Ex.refl _) S⟩
  · refine .inl (.inr (.inr ⟨t, k, _, rfl, rfl, S, by simp, by omega, h2, by simp, fun p hp => q k.toNat p _ (by omega) (Evl.Ex.new hp) ?_⟩))
    rw [rep_flat]
    exact SqT.of upd_same
theorem mulL1 {H : Hp} {t : Addr} {k o : Int} {Q : VK} (S : H t = some (.lst [V.int o])) (h1 : 1 ≤ k) (h2 : k ≤ 1000) (q : ∀ (n : Nat) p H', (n : Int) = k → H p = none → Evl.Ex H H' → H' p = some (.lst (IV (List.replicate n o))) → Q (.ref p) H') : rMulU1 K (.ref t) (.int k) H Q := by
  unfold rMulU1
  refine .inl (.inr (.inl ⟨t, _, _, rfl, rfl, S, by omega, by omega, ?_, fun p hp => q k.toNat p _ (by omega) hp (Evl.Ex.new hp) ?_⟩))
  · exact Evl.sz_of (by simp; omega)
  · rw [upd_same, rep_flat]
theorem mulI1 {H : Hp} {i j : Int} {Q : VK} (c : CMulX i j) (q : Q (.int (i * j)) H) : rMulU1 K (.int i) (.int j) H Q := by
  unfold rMulU1
  exact .inl (.inl ⟨i, j, rfl, rfl, c, q⟩)
theorem rg_iv (n : Nat) : rgV 0 (n : Int) = IV ((List.range n).map fun (i : Nat) => (0 : Int) + (i : Int)) := by
  have e : ((n : Int) - 0).toNat = n := by omega
  have e2 : ∀ l : List Int, IV l = l.map V.int := fun _ => rfl
  unfold rgV
  rw [e, e2, List.map_map]
  rfl
end
end VB
/-! errors with a value: made, raised, caught by several clauses with a name, their value read -/
namespace VB
open PySem PySem.Spec PyProof.Rows L2
/-! ### try: .. except A as n: .. except B as n: .. -/
/-- what the clauses wish of an exception of the body, one behind the other; slot i is n's -/
def wManyAs (K : PySem.W.Frag) (i : Nat) (Wout : WX) (D : Ends) : List (Value × (Addr → Value → Option Addr → TS)) → WX
  | [] => Wout
  | (c, ts) :: r => fun cls d σ H => ∃ b, PySem.W.exmOne K cls c = some b ∧
      (b = true → ∀ a, H a = none → ts a cls d { nx := fun σ' H' => D.nx (σ'.set i none) H', rt := D.rt, bk := fun σ' H' => D.bk (σ'.set i none) H', ct := fun σ' H' => D.ct (σ'.set i none) H' } (σ.set i (some (.ref a))) H) ∧
      (b = false → wManyAs K i Wout D r cls d σ H)
inductive HdsAs (X : Cx) (i : Nat) (n : Str) : List ExceptHandler → List (Value × (Addr → Value → Option Addr → TS)) → Prop
  | nil : HdsAs X i n [] []
  | cons {x : Str} {c : Value} {ts : Addr → Value → Option Addr → TS} {b₀ : Stmt} {suite : List Stmt} {np pos' : Pos} {hds : List ExceptHandler} {l : List (Value × (Addr → Value → Option Addr → TS))} (hc : Names X x c)
      (hsu : ∀ (a : Addr) (oe : Obj) (cls : Value) (d : Option Addr) (pn : List (Addr × Obj)), Zc cls d oe → (∃ vs, oe.data = .fields vs) → PSs (X.suite a ((a, oe) :: pn)) (b₀ :: suite) (ts a cls d)) (r : HdsAs X i n hds l) :
      HdsAs X i n (.ExceptHandler (some (.Name x np)) (some n) (b₀ :: suite) pos' :: hds) ((c, ts) :: l)
section
variable {X : Cx} {body : List Stmt} {h₀ : ExceptHandler} {hds : List ExceptHandler} {l : List (Value × (Addr → Value → Option Addr → TS))} {pos : Pos} {tb : WX → TS} {Wout : WX} {i : Nat} {n : Str}
theorem ps_try_manyAs (hs : X.stack = X.env :: X.outer) (hf : X.env.frame = some X.env.locals) (hN : X.N.Nodup) (hi : X.N[i]? = some n) (hln : X.env.kindOf n = some .local) (tk : Takes X Wout)
    (hb : ∀ (W : WX) (pn : List (Addr × Obj)) (xe : Value → Shared → Prop), Takes (X.tr pn xe) W → PassesOwn (model X.prog X.w) X.A X.env xe → PSs (X.tr pn xe) body (tb W))
    (hh : HdsAs X i n (h₀ :: hds) l) : PS X (.Try body (h₀ :: hds) [] [] pos) (fun D σ H => tb (wManyAs X.K i Wout D l) D σ H) := by
  refine ⟨fun pins s σ H D I h => ?_⟩
  have ok := I.ok
  have hfr : X.A.frames = some (X.env :: X.outer) := by rw [ok.frames, hs]
  have hloc : Loc X.env.scope n := .inl hln
  refine wpAny_Try_except ?_
  refine wpAny_mono ((hb (wManyAs X.K i Wout D l) (X.pn ++ pins) (fun e s₁ => wpAny (model X.prog X.w) X.A (noteFrame e X.env) (fun _ s₂ => wpAny (model X.prog X.w) X.A (setFlight e none) (fun _ s₃ =>
    wpAny (model X.prog X.w) X.A (handleBy e X.env (h₀ :: hds)) (SP X pins D) X.xe s₃) X.xe s₂) X.xe s₁) (fun u s' xx => ?_) PassesOwn.looking).run [] s σ H D (I.toTry _) h) (fun f s1 hsp => ?_) (fun e s1 he => he)
  · -- the catch
    obtain ⟨a, B, sI, pins', σ', H', cls, d, rfl, J', nb, up, sky, na, os, ag, w⟩ := xx
    have J : Inv X pins σ' H' sI := J'.ofTry ok
    have sky' : Sky B (X.env :: X.outer) a (Zc cls d) X.env.locals s'.heap := by rw [← hs]; exact sky
    show wpAny (model X.prog X.w) X.A (noteFrame (.ref a) X.env) _ _ _
    refine Sky.land Zc.steady hfr hf sky' fun h3 fl3 up3 => ?_
    have J3 : Inv X pins σ' H' { s' with heap := h3 } := J.landed nb fl3.1 (up.trans up3) os ag
    obtain ⟨oe3, vs3, he3, hz3, hd3⟩ := fl3.there
    have notFr : ∀ {h : Heap} {o : Obj} {vs : Array Value}, h.FunFrames B (X.env :: X.outer) → h.get? a = some o → o.data = .fields vs → a ∉ frs (X.env :: X.outer) := fun {h o vs} ff e dd hm => by
      obtain ⟨_, o', e', hnf⟩ := ff.mem hm
      rw [e] at e'; cases e'
      exact hnf _ dd
    have nfr := notFr fl3.2.2.1 he3 hd3
    have nL : a ≠ X.env.locals := fun z => nfr (List.mem_filterMap.mpr ⟨X.env, List.mem_cons_self, by rw [hf, z]⟩)
    have nF : a ∉ X.fs := fun hm => by
      obtain ⟨e, he, q⟩ := List.mem_filterMap.mp hm
      exact nfr (List.mem_filterMap.mpr ⟨e, List.mem_cons_of_mem _ he, q⟩)
    have S3 := J3.suite he3 hd3 na nL nF
    have go : ∀ {hds' : List ExceptHandler} {l' : List (Value × (Addr → Value → Option Addr → TS))}, HdsAs X i n hds' l' → wManyAs X.K i Wout D l' cls d σ' H' →
        wpAny (model X.prog X.w) X.A (handleBy (.ref a) X.env hds') (SP X pins D) X.xe { s' with heap := h3 } := by
      intro hds' l' hk
      induction hk with
      | nil =>
        intro w
        refine wpAny_handleBy_nil ?_
        obtain ⟨k1, k2, k3, oe, vs, T, oT, ts', he, hz, hd, h1, hr⟩ := id fl3
        unfold PySem.passOn
        refine wpAny_bind (wpAny_field he hd h1 ?_)
        rw [if_neg (show ¬ ((Value.ref T == Value.none) = true) from by simp)]
        have fin : wpAny (model X.prog X.w) X.A (setFlight (.ref a) X.env.frame) (fun _ s4 => wpAny (model X.prog X.w) X.A (throw (.ref a) : Sem Flow) (SP X pins D) X.xe s4) X.xe { s' with heap := h3 } := by
          rw [hf]
          refine HandSPX.setFlight_upZ fl3 fun h4 hh4 up4 => wpAny_throw (tk _ _ ?_)
          exact ⟨a, B, sI, pins, σ', H', cls, d, rfl, J, nb, (up.trans up3).trans up4, .inr (.inr (by rw [hs]; exact hh4)), na, os, ag, w⟩
        first
          | exact wpAny_bind (wpAny_pure (wpAny_bind fin))
          | exact wpAny_bind fin
      | @cons x c ts b₀ suite np pos' hds2 l2 hc hsu r ih =>
        intro w
        obtain ⟨b, hb1, hyes, hno⟩ := w
        refine wpAny_handleBy_cons (codeAny_handlers_test ?_) (by intro q; cases q)
        have LT : PySem.W.Looks (model X.prog X.w) h3 (typeOf (.ref a)) cls := fun A Q E s k q => wpAny_typeOf_ref (k _ _ he3) (by rw [hz3.1]; exact q)
        have LM := PySem.W.exm_one (M := model X.prog X.w) (J3.kIn) LT hb1
        have test : ∀ {Q : Value → Shared → Prop} {E : Value → Shared → Prop}, Q c { s' with heap := h3 } → wpAny (model X.prog X.w) (X.A.mark (some (.ref a))) (eval (.Name x np) X.env) Q E { s' with heap := h3 } := fun {Q E} q => by
          obtain ⟨hg, hdbg, hm | ⟨hm, hv, hnn⟩⟩ := hc
          · exact ld_glob (X := X.suite a ((a, oe3) :: (X.pn ++ pins))) S3 hg hm q hdbg
          · exact ld_blt (X := X.suite a ((a, oe3) :: (X.pn ++ pins))) S3 hg hm hv q hnn hdbg
        refine test (LM.here ?_)
        cases b with
        | true =>
          refine codeAny_handlers_suite_as ?_
          refine HandSPX.lands_againZ fl3 fun h4 fl4 up4 => ?_
          have J4 : Inv X pins σ' H' { s' with heap := h4 } := J.landed nb fl4.1 ((up.trans up3).trans up4) os ag
          obtain ⟨oe4, vs4, he4, hz4, hd4⟩ := fl4.there
          have S4 := J4.suite he4 hd4 na nL nF
          refine store_ok (X := X.suite a ((a, oe4) :: (X.pn ++ pins))) (v := .ref a) S4 hN hi hloc rfl (fun s5 S5 => ?_) (.inr hln)
          refine wpAny_mono ((hsu a oe4 cls d (X.pn ++ pins) hz4 ⟨_, hd4⟩).run [] s5 _ H' _ S5 (hyes rfl a na)) (fun f s6 hsp => ?_) (fun _ _ z => False.elim z)
          have end_ : ∀ {σ6 : L2.St} {H6 : Hp} {Q : Shared → Prop}, Inv (X.suite a ((a, oe4) :: (X.pn ++ pins))) [] σ6 H6 s6 → (∀ s7, Inv X pins (σ6.set i none) H6 s7 → Q s7) →
              wpAny (model X.prog X.w) X.A (do bindName X.env n .none; unbindBehindTheSuite X.env n pos') (fun _ s7 => Q s7) X.xe s6 := fun {σ6 H6 Q} S6 hq => gone_ok (S6.unsuite ok) hN hi hln hq
          cases f with
          | next =>
            obtain ⟨σ6, H6, S6, q6⟩ := hsp
            exact end_ S6 fun s7 J7 => ⟨_, _, J7, q6⟩
          | brk =>
            obtain ⟨σ6, H6, S6, q6⟩ := hsp
            exact end_ S6 fun s7 J7 => ⟨_, _, J7, q6⟩
          | cont =>
            obtain ⟨σ6, H6, S6, q6⟩ := hsp
            exact end_ S6 fun s7 J7 => ⟨_, _, J7, q6⟩
          | ret u =>
            obtain ⟨v6, σ6, H6, S6, r6, q6⟩ := hsp
            exact end_ S6 fun s7 J7 => ⟨_, _, _, J7, r6, q6⟩
        | false =>
          show wpAny _ X.A (handleBy (.ref a) X.env hds2) _ _ _
          exact ih (hno rfl)
    exact go hh w
  · cases f with
    | next =>
      obtain ⟨σ', H', J', q⟩ := hsp
      exact wpAny_execs_nil ⟨σ', H', J'.ofTry ok, q⟩
    | brk =>
      obtain ⟨σ', H', J', q⟩ := hsp
      exact ⟨σ', H', J'.ofTry ok, q⟩
    | cont =>
      obtain ⟨σ', H', J', q⟩ := hsp
      exact ⟨σ', H', J'.ofTry ok, q⟩
    | ret u =>
      obtain ⟨v, σ', H', J', r, q⟩ := hsp
      exact ⟨v, σ', H', J'.ofTry ok, r, q⟩
end
/-! ### calls within a try -/
section
variable {X : Cx} {CX : CXT} {k n : Nat} {ps ks : List Str} {sp : Sp} {E : L2.St → XK} {x : Str} {p pos : Pos}
  {e : Expr} {es : List Expr} {kws : List Keyword} {t tk : TA} {g : List Value → List Value → List Value} {gV : List V → List V → List V}
theorem backS {pins : List (Addr × Obj)} {σ : L2.St} {H : Hp} {s s' : Shared} {Q : VK} {E : XK} {r : Result}
    (hx : PassesAt CX X σ E) (I : Inv X pins σ H s) (hq : CR CX X.stack X.prog X.w H s Q E r s') :
    match r with
    | .ok (.ret u) => EP X pins σ Q u s'
    | .ok _ => False
    | .error e => X.xe e s' := by
  cases r with
  | error e => exact hx pins H s e s' I hq
  | ok fl =>
    cases fl with
    | ret u => exact I.after hq
    | next => exact hq
    | brk => exact hq
    | cont => exact hq
theorem enterS {f : Addr} {fd : FuncData} {pins : List (Addr × Obj)} {σ : L2.St} {H : Hp} {s : Shared} {Q : VK} {E : XK}
    {args : Args} {us : List Value} {vs : List V} (F : Fg X.prog X.w X.K X.mg X.base CX k f fd ps sp)
    (hr : Rm k X.A) (hx : PassesAt CX X σ E) (I : Inv X pins σ H s) (hb : BindsTo s fd args (ps.zip us))
    (r : Vals vs us) (h : sp vs H Q E) :
    wpAny (model X.prog X.w) X.A (call (.ref f) args.pos args.kw) (EP X pins σ Q) X.xe s := by
  refine wpAny_call (codeAny_mono (F.go X.A X.stack s H args us vs Q E hr I.env0 hb r h) ?_)
  intro r s' hq
  have z := backS hx I hq
  cases r with
  | error e => exact z
  | ok fl =>
    cases fl with
    | ret u => exact z
    | next => exact z.elim
    | brk => exact z.elim
    | cont => exact z.elim
theorem pe_calS (C : Cal X.prog X.w X.K X.mg X.base CX k x ps sp) (hr : Rm k X.A) (hx : ∀ σ, PassesAt CX X σ (E σ))
    (ha : PA X (e :: es) t) (hg : Gl X x := by rfl) (hdb : (x == ("__debug__" : Str)) = false := by decide)
    (he : starEach (e :: es) X.env = (false, eval e X.env) :: starEach es X.env := by rfl)
    (hpl : (backTo pos (starEach es X.env)).any (·.1) = false := by rfl) :
    PE X (.Call (.Name x p) (e :: es) [] pos) (tCallS sp E t) := by
  obtain ⟨f, fd, F, hm, hk, hb⟩ := C.ex
  constructor
  intro pins s σ H Q I h
  refine wpAny_Call_Name_kw (ld_glob I hg hm ?_ hdb)
  refine PySem.W.callWith_K (h₀ := X.base) I.ok.mod.kin hk (thn (ha.run pos pins s σ H _ I h) ?_) he hpl
  rintro us s1 ⟨vs, H1, I1, r, q⟩
  have q : sp vs H1 Q (E σ) := q
  have l : (us ++ []).length = ps.length := by
    rw [List.append_nil, ← r.length]
    exact F.cnt _ _ _ _ q
  have b := hb s1 us I1.kIn l
  rw [List.append_nil] at b
  exact ⟨I1.kIn, enterS (args := ⟨us, []⟩) F hr (hx σ) I1 b r q⟩
def tCallSN (n m : Nat) (sp : Sp) (gV : List V → List V → List V) (E : L2.St → XK) (tk : TA) : TE := fun σ H Q => tk σ H fun zs H2 => zs.length = m ∧ sp (gV [] zs) H2 Q (E σ)
theorem pe_calkS (C : CalK X.prog X.w X.K X.mg X.base CX k x ps 0 ks g gV sp) (hr : Rm k X.A) (hx : ∀ σ, PassesAt CX X σ (E σ))
    (hkw : PK X kws tk) (hg : Gl X x := by rfl)
    (hall : (backToKw pos (keywordEach kws X.env)).all (·.1.isSome) = true := by rfl)
    (hks : (backToKw pos (keywordEach kws X.env)).filterMap (·.1) = ks := by rfl)
    (hdb : (x == ("__debug__" : Str)) = false := by decide)
    (hpl : ((backTo pos (starEach [] X.env)).any (·.1) || (backToKw pos (keywordEach kws X.env)).any (·.1.isNone)) = false := by rfl) :
    PE X (.Call (.Name x p) [] kws pos) (tCallSN 0 ks.length sp gV E tk) := by
  obtain ⟨f, fd, F, hm, hk, hb⟩ := C.ex
  constructor
  intro pins s σ H Q I h
  refine wpAny_Call_Name_kw (ld_glob I hg hm ?_ hdb)
  have h : tk σ H fun zs H2 => zs.length = ks.length ∧ sp (gV [] zs) H2 Q (E σ) := h
  refine PySem.W.callWith_KW0 (h₀ := X.base) I.ok.mod.kin hk hall (thn (hkw.run pos pins s σ H _ I h) ?_) hpl
  rintro ws s2 ⟨zs, H2, I2, rz, l2, q2⟩
  refine ⟨I2.kIn, ?_⟩
  rw [hks]
  exact enterS (args := ⟨[], ks.zip ws⟩) F hr (hx σ) I2
    (hb.to s2 [] ws I2.kIn rfl (rz.length.symm.trans l2)) (hb.rel .nil rz) q2
end
/-! ### errors that carry one value -/
/-- the __init__ of a class statement -/
def initOf : Stmt → Stmt
  | .ClassDef (body := b) .. => b.headD (.Pass ⟨0, 0, 0, 0⟩)
  | s => s
/-- the class x at C, its __init__ at fI, its value's name g -/
structure ErrC (K : PySem.W.Frag) (mg : Str → Option Value) (x g : Str) (C fI : Addr) : Prop where
  oex : OexC K C
  gC : mg x = some (.ref C)
  iC : PySem.W.findIn K (.ref C) "__init__" = some (some (.ref fI))
  tI : PySem.W.typeIn K (.ref fI) = some (.type "function")
  noG : PySem.W.findIn K (.ref C) g = some none
  xf : XfC K C
/-- what __init__ does -/
def spInit (K : PySem.W.Frag) (g : Str) : Sp := fun vs H Q _ => ∃ (a C : Addr) (y : V), vs = [.ref a, y] ∧ OexC K C ∧ PySem.W.findIn K (.ref C) g = some none ∧ H a = some (exo a C none) ∧
  ∀ dx, H dx = none → dx ≠ a → Q .non (upd (upd H dx (exd dx [(g, y)])) a (exo a C (some dx)))
/-- the reading of C(y), at its end -/
theorem made {K : PySem.W.Frag} {g : Str} {C : Addr} {y : V} {H1 : Hp} {Q : XK} (T : OexC K C) (hn : PySem.W.findIn K (.ref C) g = some none) (q : ∀ d, H1 d = none → Q (.ref C) (some d) (upd H1 d (.xd [(g, y)]))) :
    [y].length ≤ 1000 ∧ ∀ a, H1 a = none → spInit K g (.ref a :: ([y] ++ [])) (upd H1 a (exo a C none))
      (fun v H2 => v = .non ∧ ∃ (d : Addr) (fs : List (Str × V)), H2 a = some (exo a C (some d)) ∧ H2 d = some (exd d fs) ∧ H1 d = none ∧ Q (.ref C) (some d) (upd (del H2 a) d (.xd fs))) (fun _ _ _ => False) := by
  refine ⟨by simp, fun a na => ⟨a, C, y, rfl, T, hn, upd_same, fun dx nd ne => ⟨rfl, dx, [(g, y)], upd_same, ?_, ?_, ?_⟩⟩⟩
  · rw [upd_ne ne, upd_same]
  · rw [upd_ne ne] at nd
    exact nd
  · rw [upd_ne ne] at nd
    have e : upd (del (upd (upd (upd H1 a (exo a C none)) dx (exd dx [(g, y)])) a (exo a C (some dx))) a) dx (.xd [(g, y)]) = upd H1 dx (.xd [(g, y)]) := by
      funext b
      by_cases hb : b = dx
      · subst hb
        rw [upd_same, upd_same]
      · rw [upd_ne hb, upd_ne hb]
        by_cases ha : b = a
        · subst ha
          rw [del_same, na]
        · rw [del_ne ha, upd_ne ha, upd_ne hb, upd_ne ha]
    rw [e]
    exact q dx nd
end VB
/-! methods and makings, of defs told as Fg -/
namespace VB
open PySem PySem.Spec PyProof.Rows L2
theorem Rm.make {k : Nat} {A : Around} (r : Rm (k + 1) A) (C : Addr) (us : List Value) (kw : List (Str × Value)) : Rm k (A.under (.builtin "type.__call__" ⟨.ref C :: us, kw⟩)) :=
  ⟨r.rm.make C us kw, r.gd⟩
section
variable (P : Program) (w : World) (K : PySem.W.Frag) (mg : Str → Option Value) (base : Heap) (CX : CXT) (k : Nat)
/-- a method of the class at C -/
structure CalM (C : Addr) (m : Str) (ps : List Str) (sp : Sp) : Prop where
  ex : ∃ (f : Addr) (fd : FuncData), Fg P w K mg base CX k f fd ps sp ∧ Cls K C ∧ Meth K C m f ∧ Binds K fd ps []
/-- .. called with keywords -/
structure CalMK (C : Addr) (m : Str) (ps : List Str) (n : Nat) (ks : List Str) (g : List Value → List Value → List Value) (gV : List V → List V → List V) (sp : Sp) : Prop where
  ex : ∃ (f : Addr) (fd : FuncData), Fg P w K mg base CX k f fd ps sp ∧ Cls K C ∧ Meth K C m f ∧ KBn K fd ps n ks g gV
/-- the class x, made -/
structure Mak (x : Str) (C : Addr) (ps : List Str) (sp : Sp) : Prop where
  ex : ∃ (f : Addr) (fd : FuncData), Fg P w K mg base CX k f fd ps sp ∧ Mk K C f ∧ mg x = some (.ref C) ∧ Binds K fd ps []
structure MakK (x : Str) (C : Addr) (ps : List Str) (n : Nat) (ks : List Str) (g : List Value → List Value → List Value) (gV : List V → List V → List V) (sp : Sp) : Prop where
  ex : ∃ (f : Addr) (fd : FuncData), Fg P w K mg base CX k f fd ps sp ∧ Mk K C f ∧ mg x = some (.ref C) ∧ KBn K fd ps n ks g gV
end
section
variable {X : Cx} {CX : CXT} {k n : Nat} {ps ks : List Str} {sp : Sp} {E : XK} {x m : Str} {p pos apos : Pos} {C : Addr}
  {e o : Expr} {es : List Expr} {kws : List Keyword} {t tk : TA} {ta : TE}
  {g : List Value → List Value → List Value} {gV : List V → List V → List V}
/-- what a call of a method is, step by step -/
abbrev askM (X : Cx) (o : Expr) (m : Str) (pl : Sem Bool) (apos pos : Pos) (zs : List Expr) : Sem Value := do let u ← eval o X.env; standAt apos.atName; let (g, as) ← holding [u] (getMethod u m pl); callWith pos g as (backTo pos (starEach zs X.env)) (backToKw pos (keywordEach [] X.env))
theorem pe_calM {pl : Sem Bool} (M : CalM X.prog X.w X.K X.mg X.base CX k C m ps sp) (hr : Rm k X.A) (hx : Passes CX X E) (he : PE X o ta) (ha : PA X (e :: es) t)
    (hst : starEach (e :: es) X.env = (false, eval e X.env) :: starEach es X.env := by rfl) (hpl : (backTo pos (starEach es X.env)).any (·.1) = false := by rfl)
    (ht : eval (.Call (.Attribute o m apos) (e :: es) [] pos) X.env = askM X o m pl apos pos (e :: es) := by rfl) :
    PE X (.Call (.Attribute o m apos) (e :: es) [] pos) (tMeth C m sp [] E ta t) := by
  obtain ⟨f, fd, F, c, hm, hb⟩ := M.ex
  constructor
  intro pins s σ H Q I h
  refine PySem.W.methodCall_KW (pl := pl) (thn (he.run pins s σ H _ I h) ?_) ht
  rintro u s1 ⟨x, H1, I1, rx, a, dx, fs, rfl, ea, l, q⟩
  obtain rfl : u = Value.ref a := rx
  refine getmeth_ok I1 ea c hm l ?_
  refine PySem.W.callWith_K (first := [.ref a]) (h₀ := X.base) I.ok.mod.kin hm.kp (thn (ha.run pos pins s1 σ H1 _ I1 q) ?_) hst hpl
  rintro us s2 ⟨vs, H2, I2, r, q2⟩
  have q3 : sp (.ref a :: (vs ++ [])) H2 Q E := q2
  rw [List.append_nil] at q3
  have r2 : Vals (V.ref a :: vs) (Value.ref a :: us) := .cons rfl r
  have b := hb s2 (.ref a :: us) I2.kIn (by rw [List.append_nil, ← r2.length]; exact F.cnt _ _ _ _ q3)
  rw [List.append_nil] at b
  exact ⟨I2.kIn, enter (args := ⟨.ref a :: us, []⟩) F hr hx I2 b r2 q3⟩
theorem pe_calM0 {pl : Sem Bool} (M : CalM X.prog X.w X.K X.mg X.base CX k C m ps sp) (hr : Rm k X.A) (hx : Passes CX X E) (he : PE X o ta)
    (ht : eval (.Call (.Attribute o m apos) [] [] pos) X.env = askM X o m pl apos pos [] := by rfl) :
    PE X (.Call (.Attribute o m apos) [] [] pos) (tMeth C m sp [] E ta tNil) := by
  obtain ⟨f, fd, F, c, hm, hb⟩ := M.ex
  constructor
  intro pins s σ H Q I h
  refine PySem.W.methodCall_KW (pl := pl) (thn (he.run pins s σ H _ I h) ?_) ht
  rintro u s1 ⟨x, H1, I1, rx, a, dx, fs, rfl, ea, l, q⟩
  obtain rfl : u = Value.ref a := rx
  refine getmeth_ok I1 ea c hm l ?_
  have q3 : sp [.ref a] H1 Q E := q
  have b := hb s1 [.ref a] I1.kIn (F.cnt _ _ _ _ q3)
  exact PySem.W.callWith_K0 (first := [.ref a]) I1.kIn hm.kp (enter (args := ⟨[.ref a], []⟩) F hr hx I1 b (show Vals [V.ref a] [Value.ref a] from .cons rfl .nil) q3)
theorem run_mak {f : Addr} {fd : FuncData} {pins : List (Addr × Obj)} {σ : L2.St} {H : Hp} {s : Shared} {Q : VK} {us : List Value} {kw : List (Str × Value)} {zs : List Value} {vs : List V} (M : Mk X.K C f) (F : Fg X.prog X.w X.K X.mg X.base CX k f fd ps sp) (hr : Rm (k + 1) X.A)
    (hx : Passes CX X E) (I : Inv X pins σ H s)
    (h : ∀ x dx, H x = none → H dx = none → dx ≠ x → sp (.ref x :: vs) (upd (upd H dx (.own x)) x (.ins C dx [])) (fun v H2 => v = .non ∧ Q (.ref x) H2) E)
    (hb : ∀ (s2 : Shared), X.K.In s2.heap → BindsTo s2 fd ⟨.ref (s.heap.objs.size + 1) :: us, kw⟩ (ps.zip (.ref (s.heap.objs.size + 1) :: zs))) (r : Vals vs zs) :
    wpAny (model X.prog X.w) X.A (call (.ref C) us kw) (EP X pins σ Q) X.xe s := by
  have hq := h (s.heap.objs.size + 1) s.heap.objs.size (I.hok.fresh (Nat.le_succ _)) (I.hok.fresh (Nat.le_refl _)) (Nat.ne_of_lt (Nat.lt_succ_self _))
  have I2 := Inv.made (C := C) I
  refine wpAny_call (make_map (f := f) I.kIn M.makes M.init (beq_iff_eq.mp M.fn) (codeAny_mono (F.go _ X.stack _ _ ⟨.ref (s.heap.objs.size + 1) :: us, kw⟩ (.ref (s.heap.objs.size + 1) :: zs) _ _ E (hr.make C us kw)
    (I2.env0.make C us kw) (hb _ I2.kIn) (show Vals (V.ref (s.heap.objs.size + 1) :: vs) (Value.ref (s.heap.objs.size + 1) :: zs) from .cons rfl r) hq) ?_))
  intro r' s' hq'
  cases r' with
  | error e => exact hx pins σ _ _ e s' I2 hq'
  | ok fl =>
    cases fl with
    | ret u =>
      obtain ⟨v, H', I3, rv, ev, q3⟩ := I2.after hq'
      subst ev
      exact ⟨rv, ⟨V.ref (s.heap.objs.size + 1), H', I3, rfl, q3⟩⟩
    | next => exact False.elim hq'
    | brk => exact False.elim hq'
    | cont => exact False.elim hq'
theorem pe_mak (M : Mak X.prog X.w X.K X.mg X.base CX k x C ps sp) (hr : Rm (k + 1) X.A) (hx : Passes CX X E) (ha : PA X (e :: es) t) (hg : Gl X x := by rfl) (hdb : (x == ("__debug__" : Str)) = false := by decide)
    (he : starEach (e :: es) X.env = (false, eval e X.env) :: starEach es X.env := by rfl) (hpl : (backTo pos (starEach es X.env)).any (·.1) = false := by rfl) :
    PE X (.Call (.Name x p) (e :: es) [] pos) (tMake C sp [] E t) := by
  obtain ⟨f, fd, F, mk, hm, hb⟩ := M.ex
  constructor
  intro pins s σ H Q I h
  refine wpAny_Call_Name_kw (ld_glob I hg hm ?_ hdb)
  refine PySem.W.callWith_K (h₀ := X.base) I.ok.mod.kin mk.kp (thn (ha.run pos pins s σ H _ I h) ?_) he hpl
  rintro us s1 ⟨vs, H1, I1, r, q⟩
  refine ⟨I1.kIn, run_mak (vs := vs) (zs := us) mk F hr hx I1 (fun x dx a b c => ?_) (fun s2 k2 => ?_) r⟩
  · have z := q x dx a b c
    rw [List.append_nil] at z
    exact z
  · have q0 := q (s1.heap.objs.size + 1) s1.heap.objs.size (I1.hok.fresh (Nat.le_succ _)) (I1.hok.fresh (Nat.le_refl _)) (Nat.ne_of_lt (Nat.lt_succ_self _))
    have l := F.cnt _ _ _ _ q0
    have b := hb s2 (.ref (s1.heap.objs.size + 1) :: us) k2 (by rw [List.append_nil, ← l, List.append_nil, List.length_cons, List.length_cons, r.length])
    rw [List.append_nil] at b
    exact b
/-- +: ints, lists, and tuples of any length -/
def rAddA (K : PySem.W.Frag) : R2 := fun x y H Q => rAddU K x y H Q ∨ rCatA K x y H Q
theorem u_addA {K : PySem.W.Frag} (hK : X.K = K := by rfl) : OpR X (binaryOp .Add) (rAddA K) := by
  subst hK
  exact (u_add rfl).or op_catA
/-- an item of a list, at a place from the front -/
def rGetL (K : PySem.W.Frag) : R2 := fun x y H Q => ∃ p xs i z, x = .ref p ∧ y = .int (i : Nat) ∧ SqL K H p xs ∧ xs[i]? = some z ∧ i < 1000000 ∧ Q z H
theorem get_list {K : PySem.W.Frag} (hK : X.K = K := by rfl) : PGet X (rGetL K) := by
  subst hK
  intro pins s σ H x y v u Q I rx ry h
  obtain ⟨p, xs, i, z, rfl, rfl, hq, he, hi, q⟩ := h
  cases rx
  obtain ⟨t, rfl⟩ := ry
  obtain ⟨its, r, pl, hz⟩ := I.list hq
  obtain ⟨w, ew, rw'⟩ := r.get he
  exact wpAny_getItem_list pl.isList (by omega) (by omega) (by simpa using ew) ⟨z, H, I, rw', q⟩
theorem pe_fldU {K : PySem.W.Frag} {f : Str} (he : PE X e ta) (hb : attributeBase e f X.env (eval e X.env) = eval e X.env) (hK : X.K = K := by rfl) : PE X (.Attribute e f pos) (tFld K ta f) := by
  subst hK
  exact pe_fld he hb
theorem ps_fldU {K : PySem.W.Frag} {value : Expr} {tv : TE} {f : Str} {pos' : Pos} (ha : PE X o ta) (hv : PE X value tv) (hs : swapsWith value (some (.Attribute o f pos')) pos.line X.env = pure false) (hK : X.K = K := by rfl) : PS X (.Assign [.Attribute o f pos'] value pos) (sFld K ta tv f) := by
  subst hK
  exact ps_fld ha hv hs
theorem ps_fldaugU {K : PySem.W.Frag} {value : Expr} {tv : TE} {f : Str} {tpos : Pos} {op : Operator} {rd : V → V → Hp → VK → Prop} (ha : PE X o ta) (hv : PE X value tv) (hop : InOp X op rd) (hK : X.K = K := by rfl) : PS X (.AugAssign (.Attribute o f tpos) op value pos) (sFldAug K ta tv rd f) := by
  subst hK
  exact ps_fldaug ha hv hop
theorem pe_dpop2U {f : Expr} {cpos : Pos} {td ty tx : TE} (ho : PE X o td) (he : PE X e ty) (hf : PE X f tx) (h1 : attributeBase o "pop" X.env (eval o X.env) = eval o X.env := by rfl)
    (h2 : ((backTo cpos (starEach [e, f] X.env)).all (fun x => !x.1) && (backToKw cpos (keywordEach [] X.env)).all (fun x => x.1.isSome)
      && decide (([e, f] : List Expr).length + ([] : List Keyword).length + (if ([] : List Keyword).isEmpty then 0 else 1) < 30)) = true := by rfl)
    (h3 : (apos.endLine == cpos.line) = true := by rfl) (h4 : backTo cpos (starEach [e, f] X.env) = [(false, eval e X.env), (false, eval f X.env)] := by rfl) :
    PE X (.Call (.Attribute o "pop" apos) [e, f] [] cpos) (tDPop2 td ty tx) := pe_dpop2 ho he hf ⟨h1, h2, h3, h4⟩
end
end VB
/-! repr of data, of truths and of ints -/
namespace VB
open PySem PySem.Spec PyProof.Rows L2
section
variable {X : Cx}
theorem call_repr_bl : CallR X (.builtin "repr") (fun xs H Q => ∃ b : Bool, xs = [.bl b] ∧ Q (.str (if b then "True" else "False")) H) := by
  intro pins s σ H xs us Q I r h
  obtain ⟨b, rfl, q⟩ := h
  obtain ⟨u, rfl, ru⟩ := vals1 r
  cases (show u = Value.bool b from ru)
  exact PySem.P.repr_of_bool ⟨.str _, H, I.tok _, ⟨_, rfl⟩, q⟩
end
def rReprU (K : PySem.W.Frag) : List V → Hp → VK → Prop := fun xs H Q => rRepr K xs H Q ∨ ((∃ i, xs = [.int i] ∧ i.natAbs.log2 < 1920 ∧ Q (.str (toString i)) H) ∨ ∃ b : Bool, xs = [.bl b] ∧ Q (.str (if b then "True" else "False")) H)
section
variable {X : Cx} {K : PySem.W.Frag} {H : Hp} {Q : VK}
theorem u_reprU {k : Nat} (hr : Rm k X.A) (hK : X.K = K := by rfl) : CallR X (.builtin "repr") (rReprU K) := by
  subst hK
  exact (call_repr hr).or (CallR.or (SkE.call_repr_int (X := X)) (call_repr_bl (X := X)))
theorem rp_bl (b : Bool) (q : Q (.str (if b then "True" else "False")) H) : rReprU K [.bl b] H Q := .inr (.inr ⟨b, rfl, q⟩)
theorem rp_int {i : Int} (h : i.natAbs.log2 < 1920) (q : Q (.str (toString i)) H) : rReprU K [.int i] H Q := .inr (.inl ⟨i, rfl, h, q⟩)
end
end VB
/-! raising an error that carries one value -/
namespace VB
open PySem PySem.Spec PyProof.Rows L2
/-- the class x at C with the value's name g, and its __init__ -/
structure MkE (P : Program) (w : World) (K : PySem.W.Frag) (mg : Str → Option Value) (base : Heap) (x g : Str) (C fI : Addr) : Prop where
  err : ErrC K mg x g C fI
  ini : ∃ fd, FnOk P w K mg base CX0 1 fI fd ["self", g] (spInit K g) ∧ Binds K fd ["self", g] []
section
variable {X : Cx} {x g : Str} {C fI : Addr} {p pos : Pos} {e : Expr} {ta : TA}
theorem pmk_err {k : Nat} (M : MkE X.prog X.w X.K X.mg X.base x g C fI) (hr : Rm k X.A) (ha : PA X [e] ta) (hk : 2 ≤ k := by omega) (hg : Gl X x := by rfl) (hdb : (x == ("__debug__" : Str)) = false := by decide)
    (he : starEach [e] X.env = (false, eval e X.env) :: starEach [] X.env := by rfl) (hpl : (backTo pos (starEach [] X.env)).any (·.1) = false := by rfl) :
    PMk X (.Call (.Name x p) [e] [] pos) (tMkO C (spInit X.K g) [] ta) := by
  obtain ⟨fd, F, b⟩ := M.ini
  exact pmk_oex M.err.oex M.err.iC M.err.tI F (hr.rm.mono hk) b .nil pass0 hg M.err.gC ha hdb he hpl
theorem ps_raiseE {k : Nat} {W : WX} (M : MkE X.prog X.w X.K X.mg X.base x g C fI) (hr : Rm k X.A) (tk : Takes X W) (hc : X.calm = true) (ha : PA X [e] ta) {pos' : Pos} (hk : 2 ≤ k := by omega) (hg : Gl X x := by rfl) (hdb : (x == ("__debug__" : Str)) = false := by decide)
    (he : starEach [e] X.env = (false, eval e X.env) :: starEach [] X.env := by rfl) (hpl : (backTo pos (starEach [] X.env)).any (·.1) = false := by rfl) :
    PS X (.Raise (some (.Call (.Name x p) [e] [] pos)) none pos') (fun _ σ H => tMkO C (spInit X.K g) [] ta σ H fun cls d H' => W cls d σ H') :=
  ps_raise hc tk (pmk_err M hr ha hk hg hdb he hpl)
end
end VB
/-! methods called within a try -/
namespace VB
open PySem PySem.Spec PyProof.Rows L2
def tMethS (C : Addr) (m : Str) (sp : Sp) (E : L2.St → XK) (ta : TE) (t : TA) : TE := fun σ H Q => tMeth C m sp [] (E σ) ta t σ H Q
section
variable {X : Cx} {CX : CXT} {k n : Nat} {ps ks : List Str} {sp : Sp} {E : L2.St → XK} {x m : Str} {p pos apos : Pos} {C : Addr} {e o : Expr} {es : List Expr} {t tk : TA} {ta : TE}
theorem pe_calMS {pl : Sem Bool} (M : CalM X.prog X.w X.K X.mg X.base CX k C m ps sp) (hr : Rm k X.A) (hx : ∀ σ, PassesAt CX X σ (E σ)) (he : PE X o ta) (ha : PA X (e :: es) t)
    (hst : starEach (e :: es) X.env = (false, eval e X.env) :: starEach es X.env := by rfl) (hpl : (backTo pos (starEach es X.env)).any (·.1) = false := by rfl)
    (ht : eval (.Call (.Attribute o m apos) (e :: es) [] pos) X.env = askM X o m pl apos pos (e :: es) := by rfl) :
    PE X (.Call (.Attribute o m apos) (e :: es) [] pos) (tMethS C m sp E ta t) := by
  obtain ⟨f, fd, F, c, hm, hb⟩ := M.ex
  constructor
  intro pins s σ H Q I h
  refine PySem.W.methodCall_KW (pl := pl) (thn (he.run pins s σ H _ I h) ?_) ht
  rintro u s1 ⟨x, H1, I1, rx, a, dx, fs, rfl, ea, l, q⟩
  obtain rfl : u = Value.ref a := rx
  refine getmeth_ok I1 ea c hm l ?_
  refine PySem.W.callWith_K (first := [.ref a]) (h₀ := X.base) I.ok.mod.kin hm.kp (thn (ha.run pos pins s1 σ H1 _ I1 q) ?_) hst hpl
  rintro us s2 ⟨vs, H2, I2, r, q2⟩
  have q3 : sp (.ref a :: (vs ++ [])) H2 Q (E σ) := q2
  rw [List.append_nil] at q3
  have r2 : Vals (V.ref a :: vs) (Value.ref a :: us) := .cons rfl r
  have b := hb s2 (.ref a :: us) I2.kIn (by rw [List.append_nil, ← r2.length]; exact F.cnt _ _ _ _ q3)
  rw [List.append_nil] at b
  exact ⟨I2.kIn, enterS (args := ⟨.ref a :: us, []⟩) F hr (hx σ) I2 b r2 q3⟩
theorem takes_no : Takes X (fun _ _ _ _ => False) := fun _ _ ⟨_, _, _, _, _, _, _, _, _, _, _, _, _, _, _, _, w⟩ => w.elim
theorem op_isT : OpR X (compareOp .Is) (fun x y H Q => ∃ b : Bool, y = .bl b ∧ (x = .non ∨ ∃ a, x = .bl a) ∧ Q (.bl (decide (x = .bl b))) H) := by
  intro pins s σ H x y v u Q I rx ry h
  obtain ⟨b, rfl, hx, q⟩ := h
  cases (show u = Value.bool b from ry)
  rcases hx with rfl | ⟨a, rfl⟩
  · cases (show v = Value.none from rx)
    exact wpAny_is_other rfl (fun z => by cases z) ⟨.bl false, H, I, rfl, by simpa using q⟩
  · cases (show v = Value.bool a from rx)
    by_cases e : a = b
    · subst e
      exact wpAny_is_self rfl ⟨.bl true, H, I, rfl, by simpa using q⟩
    · exact wpAny_is_other rfl (fun z => e (Value.bool.inj z)) ⟨.bl false, H, I, rfl, by simpa [e] using q⟩
end
end VB
/-! methods with keywords within a try, makings within a try, makings with keywords -/
namespace VB
open PySem PySem.Spec PyProof.Rows L2
def tMethKS (C : Addr) (m : Str) (sp : Sp) (n : Nat) (gV : List V → List V → List V) (E : L2.St → XK) (ta : TE) (tk : TA) : TE := fun σ H Q => ta σ H fun x H1 => ∃ a dx fs, x = .ref a ∧ H1 a = some (.ins C dx fs) ∧ fs.lookup m = none ∧
  tk σ H1 fun zs H2 => zs.length = n ∧ sp (gV [.ref a] zs) H2 Q (E σ)
def tMakeS (C : Addr) (sp : Sp) (E : L2.St → XK) (t : TA) : TE := fun σ H Q => tMake C sp [] (E σ) t σ H Q
section
variable {X : Cx} {CX : CXT} {k n : Nat} {ps ks : List Str} {sp : Sp} {x m : Str} {p pos apos : Pos} {C : Addr} {e o : Expr} {es : List Expr} {kws : List Keyword} {t tk : TA} {ta : TE}
  {g : List Value → List Value → List Value} {gV : List V → List V → List V}
abbrev askMK (X : Cx) (o : Expr) (m : Str) (pl : Sem Bool) (apos pos : Pos) (kws : List Keyword) : Sem Value := do let u ← eval o X.env; standAt apos.atName; let (g, as) ← holding [u] (getMethod u m pl); callWith pos g as (backTo pos (starEach [] X.env)) (backToKw pos (keywordEach kws X.env))
theorem pe_calMkS {E : L2.St → XK} {pl : Sem Bool} (M : CalMK X.prog X.w X.K X.mg X.base CX k C m ps 1 ks g gV sp) (hr : Rm k X.A) (hx : ∀ σ, PassesAt CX X σ (E σ)) (he : PE X o ta) (hkw : PK X kws tk)
    (hall : (backToKw pos (keywordEach kws X.env)).all (·.1.isSome) = true := by rfl)
    (hks : (backToKw pos (keywordEach kws X.env)).filterMap (·.1) = ks := by rfl)
    (hpl : ((backTo pos (starEach [] X.env)).any (·.1) || (backToKw pos (keywordEach kws X.env)).any (·.1.isNone)) = false := by rfl)
    (ht : eval (.Call (.Attribute o m apos) [] kws pos) X.env = askMK X o m pl apos pos kws := by rfl) :
    PE X (.Call (.Attribute o m apos) [] kws pos) (tMethKS C m sp ks.length gV E ta tk) := by
  obtain ⟨f, fd, F, c, hm, hb⟩ := M.ex
  constructor
  intro pins s σ H Q I h
  refine PySem.W.methodCall_KW (pl := pl) (thn (he.run pins s σ H _ I h) ?_) ht
  rintro u s1 ⟨x, H1, I1, rx, a, dx, fs, rfl, ea, l, q⟩
  obtain rfl : u = Value.ref a := rx
  refine getmeth_ok I1 ea c hm l ?_
  refine PySem.W.callWith_KW0 (first := [.ref a]) (h₀ := X.base) I.ok.mod.kin hm.kp hall (thn (hkw.run pos pins s1 σ H1 _ I1 q) ?_) hpl
  rintro ws s2 ⟨zs, H2, I2, rz, l2, q2⟩
  refine ⟨I2.kIn, ?_⟩
  rw [hks]
  have r1 : Vals [V.ref a] [Value.ref a] := .cons rfl .nil
  exact enterS (args := ⟨[.ref a], ks.zip ws⟩) F hr (hx σ) I2 (hb.to s2 [.ref a] ws I2.kIn rfl (rz.length.symm.trans l2)) (hb.rel r1 rz) q2
theorem run_makS {E : XK} {f : Addr} {fd : FuncData} {pins : List (Addr × Obj)} {σ : L2.St} {H : Hp} {s : Shared} {Q : VK} {us : List Value} {kw : List (Str × Value)} {zs : List Value} {vs : List V} (M : Mk X.K C f) (F : Fg X.prog X.w X.K X.mg X.base CX k f fd ps sp) (hr : Rm (k + 1) X.A)
    (hx : PassesAt CX X σ E) (I : Inv X pins σ H s)
    (h : ∀ x dx, H x = none → H dx = none → dx ≠ x → sp (.ref x :: vs) (upd (upd H dx (.own x)) x (.ins C dx [])) (fun v H2 => v = .non ∧ Q (.ref x) H2) E)
    (hb : ∀ (s2 : Shared), X.K.In s2.heap → BindsTo s2 fd ⟨.ref (s.heap.objs.size + 1) :: us, kw⟩ (ps.zip (.ref (s.heap.objs.size + 1) :: zs))) (r : Vals vs zs) :
    wpAny (model X.prog X.w) X.A (call (.ref C) us kw) (EP X pins σ Q) X.xe s := by
  have hq := h (s.heap.objs.size + 1) s.heap.objs.size (I.hok.fresh (Nat.le_succ _)) (I.hok.fresh (Nat.le_refl _)) (Nat.ne_of_lt (Nat.lt_succ_self _))
  have I2 := Inv.made (C := C) I
  refine wpAny_call (make_map (f := f) I.kIn M.makes M.init (beq_iff_eq.mp M.fn) (codeAny_mono (F.go _ X.stack _ _ ⟨.ref (s.heap.objs.size + 1) :: us, kw⟩ (.ref (s.heap.objs.size + 1) :: zs) _ _ E (hr.make C us kw)
    (I2.env0.make C us kw) (hb _ I2.kIn) (show Vals (V.ref (s.heap.objs.size + 1) :: vs) (Value.ref (s.heap.objs.size + 1) :: zs) from .cons rfl r) hq) ?_))
  intro r' s' hq'
  cases r' with
  | error e => exact hx pins _ _ e s' I2 hq'
  | ok fl =>
    cases fl with
    | ret u =>
      obtain ⟨v, H', I3, rv, ev, q3⟩ := I2.after hq'
      subst ev
      exact ⟨rv, ⟨V.ref (s.heap.objs.size + 1), H', I3, rfl, q3⟩⟩
    | next => exact False.elim hq'
    | brk => exact False.elim hq'
    | cont => exact False.elim hq'
theorem pe_makS {E : L2.St → XK} (M : Mak X.prog X.w X.K X.mg X.base CX k x C ps sp) (hr : Rm (k + 1) X.A) (hx : ∀ σ, PassesAt CX X σ (E σ)) (ha : PA X (e :: es) t) (hg : Gl X x := by rfl) (hdb : (x == ("__debug__" : Str)) = false := by decide)
    (he : starEach (e :: es) X.env = (false, eval e X.env) :: starEach es X.env := by rfl) (hpl : (backTo pos (starEach es X.env)).any (·.1) = false := by rfl) :
    PE X (.Call (.Name x p) (e :: es) [] pos) (tMakeS C sp E t) := by
  obtain ⟨f, fd, F, mk, hm, hb⟩ := M.ex
  constructor
  intro pins s σ H Q I h
  refine wpAny_Call_Name_kw (ld_glob I hg hm ?_ hdb)
  refine PySem.W.callWith_K (h₀ := X.base) I.ok.mod.kin mk.kp (thn (ha.run pos pins s σ H _ I h) ?_) he hpl
  rintro us s1 ⟨vs, H1, I1, r, q⟩
  refine ⟨I1.kIn, run_makS (vs := vs) (zs := us) mk F hr (hx σ) I1 (fun x dx a b c => ?_) (fun s2 k2 => ?_) r⟩
  · have z := q x dx a b c
    rw [List.append_nil] at z
    exact z
  · have q0 := q (s1.heap.objs.size + 1) s1.heap.objs.size (I1.hok.fresh (Nat.le_succ _)) (I1.hok.fresh (Nat.le_refl _)) (Nat.ne_of_lt (Nat.lt_succ_self _))
    have l := F.cnt _ _ _ _ q0
    have b := hb s2 (.ref (s1.heap.objs.size + 1) :: us) k2 (by rw [List.append_nil, ← l, List.append_nil, List.length_cons, List.length_cons, r.length])
    rw [List.append_nil] at b
    exact b
def tMakK (C : Addr) (sp : Sp) (n : Nat) (gV : List V → List V → List V) (E : XK) (tk : TA) : TE := fun σ H Q => tk σ H fun zs H2 => zs.length = n ∧ ∀ x dx, H2 x = none → H2 dx = none → dx ≠ x → sp (gV [.ref x] zs) (upd (upd H2 dx (.own x)) x (.ins C dx [])) (fun v H3 => v = .non ∧ Q (.ref x) H3) E
/-- C(k = v, ..) -/
theorem pe_makK {E : XK} (M : MakK X.prog X.w X.K X.mg X.base CX k x C ps 1 ks g gV sp) (hr : Rm (k + 1) X.A) (hx : Passes CX X E) (hkw : PK X kws tk) (hg : Gl X x := by rfl)
    (hall : (backToKw pos (keywordEach kws X.env)).all (·.1.isSome) = true := by rfl) (hks : (backToKw pos (keywordEach kws X.env)).filterMap (·.1) = ks := by rfl) (hdb : (x == ("__debug__" : Str)) = false := by decide)
    (hpl : ((backTo pos (starEach [] X.env)).any (·.1) || (backToKw pos (keywordEach kws X.env)).any (·.1.isNone)) = false := by rfl) :
    PE X (.Call (.Name x p) [] kws pos) (tMakK C sp ks.length gV E tk) := by
  obtain ⟨f, fd, F, mk, hm, hb⟩ := M.ex
  constructor
  intro pins s σ H Q I h
  refine wpAny_Call_Name_kw (ld_glob I hg hm ?_ hdb)
  refine PySem.W.callWith_KW0 (h₀ := X.base) I.ok.mod.kin mk.kp hall (thn (hkw.run pos pins s σ H _ I h) ?_) hpl
  rintro ws s2 ⟨zs, H2, I2, rz, l2, q2⟩
  refine ⟨I2.kIn, ?_⟩
  rw [hks]
  have hq := q2 (s2.heap.objs.size + 1) s2.heap.objs.size (I2.hok.fresh (Nat.le_succ _)) (I2.hok.fresh (Nat.le_refl _)) (Nat.ne_of_lt (Nat.lt_succ_self _))
  have I3 := Inv.made (C := C) I2
  have r1 : Vals [V.ref (s2.heap.objs.size + 1)] [Value.ref (s2.heap.objs.size + 1)] := .cons rfl .nil
  have r2 := hb.rel r1 rz
  refine wpAny_call (make_map (f := f) I2.kIn mk.makes mk.init (beq_iff_eq.mp mk.fn) (codeAny_mono (F.go _ X.stack _ _ ⟨[Value.ref (s2.heap.objs.size + 1)], ks.zip ws⟩ (g [Value.ref (s2.heap.objs.size + 1)] ws) _ _ E (hr.make C [] (ks.zip ws))
    (I3.env0.make C [] (ks.zip ws)) (hb.to _ [Value.ref (s2.heap.objs.size + 1)] ws I3.kIn rfl (rz.length.symm.trans l2)) r2 hq) fun r s' hq' => ?_))
  cases r with
  | error e => exact hx pins σ _ _ e s' I3 hq'
  | ok fl =>
    cases fl with
    | ret u =>
      obtain ⟨v, H', I4, rv, ev, q3⟩ := I3.after hq'
      subst ev
      exact ⟨rv, ⟨V.ref (s2.heap.objs.size + 1), H', I4, rfl, q3⟩⟩
    | next => exact False.elim hq'
    | brk => exact False.elim hq'
    | cont => exact False.elim hq'
end
end VB
/-! a list, longer by a tuple's items -/
namespace VB
open PySem PySem.Spec PyProof.Rows L2
theorem list_extend_tup (l : Addr) (items : Array Value) (n : Nat) (b : Addr) (items2 : Array Value) (n2 : Nat) (dd : Option Addr) (sl : Array (Option Value)) (hs0 : ¬(!items.isEmpty && Builtin.List.listTooLong (items.size + items2.size)) = true) (hs1 : items.size ≤ sizeLine) (hs2 : items.size + items2.size ≤ sizeLine + 1) :
    Meets (Builtin.«list.extend» ⟨[.ref l, .ref b], []⟩) (fun _ R s => s.heap.get? l = some { cls := .type "list", dict := none, data := .seq items n, slots := #[] } ∧ s.heap.get? b = some { cls := .type "tuple", dict := dd, data := .seq items2 n2, slots := sl } ∧ R (.ok (.ret Value.none)) { s with heap := s.heap.update l (Obj.mapSeq fun x => x ++ items2), toks := s.toks }) :=
  .of_wp fun prog w A R s h => by
    obtain ⟨hp, g, d, tk, os⟩ := s; obtain ⟨hl, hb, h⟩ := h; have f1 := AutoSeq1.idx_int; have f2 := AutoSeq1.sub_tuple_tuple; have f3 := AutoSeq1.sub_list_list; have f4 := AutoSeq1.sub_tuple_list; have f5 := AutoSeq1.sub_list_tuple;
    have hz' : (items ++ items2).size ≤ sizeLine + 1 := by rw [Array.size_append]; exact hs2
    wp_walk using (wpAny_updateSeq hl rfl (hz := hs1) (_hz' := hz')), wpAny_loadPart' hl, wpAny_loadPart' hb; exact ⟨_, rfl, h⟩
def rExtT (K : PySem.W.Frag) : V → List V → Hp → VK → Prop := fun x vs H Q => ∃ l b xs zs, x = .ref l ∧ vs = [.ref b] ∧ H l = some (.lst xs) ∧ SqT K H b zs ∧ xs.length + zs.length ≤ sizeLine ∧ Q .non (upd H l (.lst (xs ++ zs)))
def rExtU (K : PySem.W.Frag) : V → List V → Hp → VK → Prop := fun x vs H Q => rExtend x vs H Q ∨ rExtT K x vs H Q
section
variable {X : Cx} {K : PySem.W.Frag}
theorem mt_extU (hK : X.K = K := by rfl) : MtM X "list.extend" (rExtU K) := by
  subst hK
  intro pins s σ H x vs v us Q I rx rv h
  rcases h with h | h
  · exact mt_extend pins s σ H x vs v us Q I rx rv h
  obtain ⟨l, b, xs, zs, rfl, rfl, hH, hB, hz, q⟩ := h
  cases rx
  obtain ⟨u, rfl, ru⟩ := rv.one
  cases ru
  obtain ⟨z, its, n, r, hl, e⟩ := I.lstM hH
  obtain ⟨its2, r2, ⟨⟨cls, dd, data, sl⟩, e2, hc, n2, hd⟩, hl2⟩ := I.tuple hB
  simp only at hc hd
  subst hc hd
  have l1 := r.length
  have l2 := r2.length
  have hsz : its.toArray.size + its2.toArray.size ≤ sizeLine := by rw [List.size_toArray, List.size_toArray]; omega
  have hlong : ¬ (!its.toArray.isEmpty && Builtin.List.listTooLong (its.toArray.size + its2.toArray.size)) = true := by
    rw [notLongL hsz, Bool.and_false]
    exact Bool.false_ne_true
  refine call_meets F.slot_list_extend ⟨_, e, rfl⟩ F.entry_list_extend (F.args_list_extend_2 _ _)
    (list_extend_tup l its.toArray n b its2.toArray n2 dd sl hlong (by rw [List.size_toArray]; omega) (by omega)) ⟨e, e2, ?_⟩
  refine ⟨.non, _, I.lset (its' := its ++ its2) hH e (by simp) (r.append r2) ?_, rfl, q⟩
  rw [List.length_append]
  omega
theorem u_max1 (hc : X.calm = true) (hK : X.K = K := by rfl) : CallR X (.builtin "max") (rMax K) := by
  subst hK
  exact cr_max hc
end
/-- what isinstance asks of instances of the class at C -/
structure InsC (K : PySem.W.Frag) (C : Addr) : Prop where
  ha : PySem.W.findIn K (.ref C) "__class__" = some (some (.builtin "object.__class__"))
  hn : PySem.W.specialIn K (.builtin "object.__class__") "__get__" = some (some (.builtin "getset_descriptor.__get__"))
  htk : PySem.W.takesIn K (.builtin "object.__class__") = some true
  hm : PySem.W.mroIn K C (.type "object") = some true
  kit : PySem.W.kitOne K (.ref C) (.ref C) = some true
def insB (K : PySem.W.Frag) (C : Addr) : Bool := decide (PySem.W.findIn K (.ref C) "__class__" = some (some (.builtin "object.__class__"))) && (decide (PySem.W.specialIn K (.builtin "object.__class__") "__get__" = some (some (.builtin "getset_descriptor.__get__"))) && (decide (PySem.W.takesIn K (.builtin "object.__class__") = some true) &&
  (decide (PySem.W.mroIn K C (.type "object") = some true) && decide (PySem.W.kitOne K (.ref C) (.ref C) = some true))))
theorem insB_ok {K : PySem.W.Frag} {C : Addr} (h : insB K C = true) : InsC K C := by
  unfold insB at h
  obtain ⟨h1, h⟩ := Bool.and_eq_true_iff.mp h
  obtain ⟨h2, h⟩ := Bool.and_eq_true_iff.mp h
  obtain ⟨h3, h⟩ := Bool.and_eq_true_iff.mp h
  obtain ⟨h4, h5⟩ := Bool.and_eq_true_iff.mp h
  exact ⟨of_decide_eq_true h1, of_decide_eq_true h2, of_decide_eq_true h3, of_decide_eq_true h4, of_decide_eq_true h5⟩
end VB
/-! error classes that carry one value, from what is looked at -/
namespace VB
open PySem PySem.Spec PyProof.Rows L2
def oexB (K : PySem.W.Frag) (C : Addr) : Bool := match K.lookup C with
  | some ⟨.type "type", _, .cls cd, sl⟩ => (match cd.mro, sl.toList with
    | .ref C' :: bm, [_, _, _, _, some (.builtin n), _] => decide (C' = C) && (decide (n = "ValueError.__new__") && (!cd.hasDel && (cd.hasDict && PySem.HandSPX.refsVE bm)))
    | _, _ => false)
  | _ => false
theorem oexB_cls {K : PySem.W.Frag} {C : Addr} (q : oexB K C = true) : ∃ nm q N bs bm sn sub ab col dd k0 k1 k2 k3 k5, K.lookup C = some (excClassObj nm q C N bs bm true sn sub ab col dd k0 k1 k2 k3 k5 "ValueError.__new__") ∧ PySem.HandSPX.refsVE bm = true := by
  unfold oexB at q
  split at q
  · rename_i dd cd sl ho
    split at q
    · rename_i C' bm k0 k1 k2 k3 n k5 hm hs
      simp only [Bool.and_eq_true, decide_eq_true_eq, Bool.not_eq_true'] at q
      obtain ⟨rfl, rfl, hdel, hdic, ht⟩ := q
      obtain ⟨nm, bs, mro, ns, qn, hd, sn, sub, ab, col, del⟩ := cd
      dsimp only at hm hdel hdic
      subst hm hdel hdic
      have hsl : sl = #[k0, k1, k2, k3, some (.builtin "ValueError.__new__"), k5] := by
        obtain ⟨l⟩ := sl
        simp only at hs
        rw [hs]
      subst hsl
      exact ⟨nm, qn, ns, bs, bm, sn, sub, ab, col, dd, k0, k1, k2, k3, k5, ho, ht⟩
    · cases q
  · cases q
def errB (K : PySem.W.Frag) (x g : Str) : Bool := oexB K (He.ga K x) && (decide (PySem.W.findIn K (.ref (He.ga K x)) "__setattr__" = some (some (.builtin "object.__setattr__"))) && (decide (PySem.W.subIn K (.ref (He.ga K x)) (.type "BaseException") = some true) && (decide (PySem.W.typeIn K (.ref (He.ga K x)) = some (.type "type")) && (PySem.W.keepIn K (.ref (He.ga K x)) &&
  (decide (PySem.W.findIn K (.ref (He.ga K x)) "__init__" = some (some (.ref (He.ma K (He.ga K x) "__init__")))) && (decide (PySem.W.typeIn K (.ref (He.ma K (He.ga K x) "__init__")) = some (.type "function")) && (decide (PySem.W.findIn K (.ref (He.ga K x)) g = some none) && (xfB K (He.ga K x) && decide (PySem.W.exmOne K (.ref (He.ga K x)) (.ref (He.ga K x)) = some true)))))))))
theorem errB_ok {K : PySem.W.Frag} {mg : Str → Option Value} {x g : Str} (h : errB K x g = true) (gC : mg x = some (.ref (He.ga K x))) : ErrC K mg x g (He.ga K x) (He.ma K (He.ga K x) "__init__") ∧ PySem.W.exmOne K (.ref (He.ga K x)) (.ref (He.ga K x)) = some true := by
  unfold errB at h
  obtain ⟨h1, h⟩ := Bool.and_eq_true_iff.mp h
  obtain ⟨h2, h⟩ := Bool.and_eq_true_iff.mp h
  obtain ⟨h3, h⟩ := Bool.and_eq_true_iff.mp h
  obtain ⟨h4, h⟩ := Bool.and_eq_true_iff.mp h
  obtain ⟨h5, h⟩ := Bool.and_eq_true_iff.mp h
  obtain ⟨h6, h⟩ := Bool.and_eq_true_iff.mp h
  obtain ⟨h7, h⟩ := Bool.and_eq_true_iff.mp h
  obtain ⟨h8, h⟩ := Bool.and_eq_true_iff.mp h
  obtain ⟨h9, h10⟩ := Bool.and_eq_true_iff.mp h
  exact ⟨⟨⟨oexB_cls h1, of_decide_eq_true h2, of_decide_eq_true h3, of_decide_eq_true h4, h5⟩, gC, of_decide_eq_true h6, of_decide_eq_true h7, of_decide_eq_true h8, xfB_ok h9⟩, of_decide_eq_true h10⟩
end VB
/-! repr of data, of truths, of ints, of None and of texts -/
namespace VB
open PySem PySem.Spec PyProof.Rows L2
section
variable {X : Cx}
theorem call_repr_non : CallR X (.builtin "repr") (fun xs H Q => xs = [.non] ∧ Q (.str "None") H) := by
  intro pins s σ H xs us Q I r h
  obtain ⟨rfl, q⟩ := h
  obtain ⟨u, rfl, ru⟩ := vals1 r
  cases (show u = Value.none from ru)
  exact PySem.P.repr_of_none ⟨.str _, H, I.tok _, ⟨_, rfl⟩, q⟩
theorem call_repr_str : CallR X (.builtin "repr") (fun xs H Q => ∃ x : Str, xs = [.str x] ∧ (reprText x).length ≤ sizeLine ∧ Q (.str (reprText x)) H) := by
  intro pins s σ H xs us Q I r h
  obtain ⟨x, rfl, hl, q⟩ := h
  obtain ⟨u, rfl, ru⟩ := vals1 r
  obtain ⟨t, rfl⟩ := (show ∃ t, u = Value.str x t from ru)
  exact PySem.P.repr_of_str ⟨.str _, H, I.tok _, ⟨_, rfl⟩, q⟩ hl
end
def rReprA (K : PySem.W.Frag) : List V → Hp → VK → Prop := fun xs H Q => rReprU K xs H Q ∨ ((xs = [.non] ∧ Q (.str "None") H) ∨ ∃ x : Str, xs = [.str x] ∧ (reprText x).length ≤ sizeLine ∧ Q (.str (reprText x)) H)
section
variable {X : Cx} {K : PySem.W.Frag} {H : Hp} {Q : VK}
theorem u_reprA {k : Nat} (hr : Rm k X.A) (hK : X.K = K := by rfl) : CallR X (.builtin "repr") (rReprA K) := by
  subst hK
  exact (u_reprU hr).or (call_repr_non.or call_repr_str)
end
end VB
/-! repr of an int of any size below the limit of digits, where nothing has set that limit -/
namespace VB
open PySem PySem.Spec PyProof.Rows L2
section
variable {prog : Program} {w : World} {A : Around} {E : Value → Shared → Prop} {s : Shared} {a : Int} {t : Tok}
theorem call_int_repr_big {Q : Value → Shared → Prop} (hn : s.heap.NoDigits) (ha : a.natAbs < 10 ^ 4300) (h : Q (.str (toString a) s.toks) { s with toks := s.toks + 1 }) :
    wpAny (model prog w) A (call (.builtin "int.__repr__") [.int a t]) Q E s := by
  refine wpAny_call_entry F.slot_int_repr (typeIs_int s a t) F.entry_int_repr ?_ (F.args_int_repr_1 _)
  unfold Builtin.«int.__repr__»
  show wpAny _ _ (do let r ← Builtin.overDigitLimit? a; _) _ _ s
  exact wpAny_bind (overDigitLimit_any hn (fun hlt => wpAny_bind (wpAny_mkStr (wpAny_pure ⟨_, rfl, h⟩) (int_text_fits10 hlt))) (fun hge => absurd hge (Nat.not_le.mpr ha)))
theorem repr_of_int_big {Q : Value → Shared → Prop} (hn : s.heap.NoDigits) (ha : a.natAbs < 10 ^ 4300) (h : Q (.str (toString a) s.toks) { s with toks := s.toks + 1 }) :
    wpAny (model prog w) A (call (.builtin "repr") [.int a t]) Q E s := by
  have hT := typeIs_int s a t
  have hv : [Value.int a t].any Value.onHeap = false := rfl
  refine Calls.call_function_entry F.kind_repr F.plain_repr F.entry_repr (F.args_repr1 _) ?_
  unfold Builtin.«repr»
  refine wpAny_bind (m := oneArg "repr" _) (wpAny_pure ?_)
  simp only [cRoomFor, hv, Bool.false_eq_true, if_false, pure_bind]
  refine wpAny_bind (wpAny_specialOf (name := Str.ofString "__repr__") hT F.slot_int_repr.lookup ?_)
  refine wpAny_bind (m := callSpecialIfBound? (.int a t) (Str.ofString "__repr__")) (wpAny_callSpecialIfBound?_slot (name := Str.ofString "__repr__") hT F.slot_int_repr (call_int_repr_big hn ha ?_))
  refine wpAny_bind (wpAny_isInstance (T := "str") (b := true) rfl isSubtype_str_str ?_)
  exact wpAny_pure ⟨_, rfl, h⟩
end
section
variable {X : Cx}
def rReprB : List V → Hp → VK → Prop := fun xs H Q => ∃ i, xs = [.int i] ∧ i.natAbs < 10 ^ 4300 ∧ Q (.str (toString i)) H
theorem call_repr_big (hd : X.base.NoDigits) : CallR X (.builtin "repr") rReprB := by
  intro pins s σ H xs us Q I r h
  obtain ⟨i, rfl, hz, q⟩ := h
  obtain ⟨u, rfl, t, rfl⟩ := vals1 r
  exact repr_of_int_big (hd.keeps I.bk) hz ⟨.str _, H, I.tok _, ⟨_, rfl⟩, q⟩
end
theorem first_callD {P : Program} {w : World} {K : PySem.W.Frag} {mg mb : Str → Option Value} {CX : CXT} {k : Nat}
    {fa a : Addr} {fd : FuncData} {x : Str} {sp : Sp} {s : Shared} {vs : List Value} {ns : List Int}
    (KX : K.In s.heap) (hns : s.heap.Ns mainGlobals mg) (hb : s.heap.Ns builtinsNs mb)
    (hbb : ∀ x : Str, x ≠ "__name__" → mb x = bootBuiltins x) (hlim : s.heap.NoLimit) (hdig : s.heap.NoDigits) (hg : s.gens = #[])
    (ha : s.heap.get? a = some { cls := .type "list", data := .seq vs.toArray }) (hi : IntsAre vs ns)
    (hl : ns.length ≤ sizeLine) (hr : Rm k callerA)
    (F : ∀ base : Heap, K.In base → base.Ns mainGlobals mg → base.NoDigits → Fg P w K mg base CX k fa fd [x] sp)
    (hbind : ∀ (s : Shared) (u : Value), BindsTo s fd ⟨[u], []⟩ [(x, u)])
    (hsp : ∀ H : Hp, Only H → SqL K H a (ns.map V.int) → sp [.ref a] H (fun v _ => v = .bl true) fun _ _ _ => False)
    (hCX : ∀ H e s', CX [] H s (fun _ _ _ => False) e s' → False) :
    codeAny (model P w) callerA (.call (.ref fa) ⟨[.ref a], []⟩)
      (fun r s' => r = .ok (.ret (.bool true)) ∧ OldK s.heap s'.heap ∧ s'.os = s.os ∧ AllBare s'.gens) s := by
  -- what is tracked at first: the script at most
  let o : Obj := { cls := .type "list", data := .seq vs.toArray }
  have main : ∀ H : Hp, (∀ b, H b = none ∨ (b = a ∧ H b = some (.frz o (.lst (ns.map V.int))) ∧ K.lookup a = none)) →
      SqL K H a (ns.map V.int) → HOk P w H s.heap → codeAny (model P w) callerA (.call (.ref fa) ⟨[.ref a], []⟩)
      (fun r s' => r = .ok (.ret (.bool true)) ∧ OldK s.heap s'.heap ∧ s'.os = s.os ∧ AllBare s'.gens) s := by
    intro H hH hS hok
    have dictFree : ∀ {b : Addr} {ob : Obj} {es : Array DictEntry} {ep : Nat}, s.heap.get? b = some ob →
        ob.data = .dict es ep → H b = none := by
      intro b ob es ep e d
      rcases hH b with q | ⟨rfl, q, _⟩
      · exact q
      · rw [ha] at e
        cases e
        exact nomatch d
    have nsB : ∀ {b : Addr} {m : Str → Option Value}, s.heap.Ns b m → (hidT s.heap H).Ns b m := by
      rintro b m ⟨ob, es, ep, e, d, r⟩
      exact ⟨ob, es, ep, hidT_get e (dictFree e d), d, r⟩
    have kB : K.In (hidT s.heap H) := by
      intro b ob e
      refine hidT_get (KX b ob e) ?_
      rcases hH b with q | ⟨rfl, _, q⟩
      · exact q
      · rw [e] at q
        cases q
    have lim' : (hidT s.heap H).NoLimit := by
      obtain ⟨mc, h1, h2⟩ := hlim
      exact ⟨mc, nsB h1, h2⟩
    have dig' : (hidT s.heap H).NoDigits := by
      obtain ⟨mc, h1, h2⟩ := hdig
      exact ⟨mc, nsB h1, h2⟩
    have md : Mod K mg (hidT s.heap H) := ⟨kB, nsB hns, ⟨mb, nsB hb, hbb⟩, lim'⟩
    have nob : ∀ b ∈ frs ([] : List Env), H b = none := fun b hb => by cases hb
    have e0 : Env0 P w K mg (hidT s.heap H) callerA [] s H :=
      ⟨rfl, md, fun b ob e => of_hidT e, Nat.le_of_eq (hidT_size _ _), trivial, nob, hok, .of_eq hg⟩
    have oH : Only H := by
      intro b
      rcases hH b with q | ⟨_, q, _⟩
      · exact .inl q
      · exact .inr ⟨_, _, q⟩
    have run := (F _ kB (nsB hns) dig').go callerA [] s H ⟨[.ref a], []⟩ [.ref a] [.ref a] _ _ hr e0
      (hbind s (.ref a)) (.cons rfl .nil) (hsp H oH hS)
    refine codeAny_mono run ?_
    intro r s' h
    match r, h with
    | .error e, h => exact (hCX H e s' h).elim
    | .ok .next, h => exact False.elim h
    | .ok .brk, h => exact False.elim h
    | .ok .cont, h => exact False.elim h
    | .ok (.ret u), h =>
      obtain ⟨v, H', os, bare, un, hok', rv, q⟩ := h
      have q : v = .bl true := q
      subst q
      have ru : u = Value.bool true := rv
      subst ru
      refine ⟨rfl, OldK.of_keep ?_, os, bare⟩
      intro b ob e
      rcases hH b with q | ⟨_, q, _⟩
      · exact un.keep b ob e q (fun z => by cases z) (fun z => by cases z)
      · obtain ⟨e1, _⟩ := hok b _ q
        obtain ⟨e2, _⟩ := hok' b _ (un.frzs b o _ q)
        rw [e] at e1
        cases e1
        exact e2
  have rv := vals_ints hi
  cases hk : K.lookup a with
  | some ob =>
    have e := KX a ob hk
    rw [ha] at e
    cases e
    refine main (fun _ => none) (fun b => .inl rfl) (.inr ⟨_, vs.toArray, _, hk, rfl, rfl, rfl, ?_, by simpa using rv⟩) (fun b u z => by cases z)
    rw [List.size_toArray, hi.length]
    exact hl
  | none =>
    let H1 : Hp := fun b => if b = a then some (.frz o (.lst (ns.map V.int))) else none
    have at1 : H1 a = some (.frz o (.lst (ns.map V.int))) := if_pos rfl
    refine main H1 ?_ (.inl (.inr ⟨o, at1⟩)) ?_
    · intro b
      by_cases hb : b = a
      · subst hb
        exact .inr ⟨rfl, at1, hk⟩
      · exact .inl (if_neg hb)
    · intro b u z
      by_cases hb : b = a
      · subst hb
        rw [at1] at z
        cases z
        exact ⟨ha, by rw [List.length_map]; exact hl, vs, _, rv, ha⟩
      · have z' : H1 b = none := if_neg hb
        rw [z'] at z
        cases z

/-- law_walk, the heap's digits let be -/
theorem law_walkD {l : PySem.W.OpenLaw} {n k : Nat} {q : Program} {loose : List Str} {XP : (Str → Option Value) → Heap → Prop}
    {YP : World → Heap → Prop} {d : DefRec} {CX : CXT} {x : Str}
    (hn : l.most = some n) (hn2 : n ≤ sizeLine) (hdf : d.params.defaults = []) (hr : Rm k callerA)
    (F : ∀ (w : World) (mg : Str → Option Value) (fa : Addr) (h : Heap), YP w h → h.Ns mainGlobals mg → mg d.name = some (.ref fa) → h.NoDigits →
      ∃ (K : PySem.W.Frag) (fd : FuncData) (sp : Sp), K.In h ∧ (∀ (s : Shared) (u : Value), BindsTo s fd ⟨[u], []⟩ [(x, u)]) ∧
        (∀ (H : Hp) (a : Addr) (ns : List Int), ns.length ≤ n → Only H → SqL K H a (ns.map V.int) →
          sp [.ref a] H (fun v _ => v = .bl true) fun _ _ _ => False) ∧
        ∀ base : Heap, K.In base → base.Ns mainGlobals mg → base.NoDigits → Fg l.prog w K mg base CX k fa fd [x] sp)
    (hCX : ∀ (H : Hp) (s : Shared) (e : Value) (s' : Shared), CX [] H s (fun _ _ _ => False) e s' → False) :
    PySem.W.WalkO q loose XP YP l.row.toRowW d [] (fun f vs => PySem.call f vs) := by
  refine Att.attach_call hn hdf ?_
  intro w s₀ s₁ mg mb fa o pm cd doc a vs ns G Y ho hd hcd hmg hobj hints hlen hg
  obtain ⟨K, fd, sp, KX, hb, hsp, hF⟩ := F w mg fa _ Y G.T.g hmg G.T.nodigits
  exact first_callD KX G.T.g G.T.b G.T.builtins G.T.nolimit G.T.nodigits hg hobj hints (Nat.le_trans hlen hn2) hr hF hb
    (fun H hO hS => hsp H a ns hlen hO hS) (fun H e s' => hCX H s₁ e s')
end VB
/-! repr of a list of flat values, ints of any size below the limit of digits among them -/
namespace VB
open PySem PySem.Spec PyProof.Rows L2
/-- what a flat value is shown as -/
inductive Tx : V → Str → Prop
  | non : Tx .non "None"
  | bl (b : Bool) : Tx (.bl b) (if b then "True" else "False")
  | int (i : Int) (h : i.natAbs < 10 ^ 4300) : Tx (.int i) (toString i)
  | str (x : Str) (h : (reprText x).length ≤ sizeLine) : Tx (.str x) (reprText x)
section
variable {prog : Program} {w : World} {A : Around} {E : Value → Shared → Prop} {s : Shared} {a : Int} {t : Tok}
theorem pyReprObj_big {Q : Value → Shared → Prop} (hn : s.heap.NoDigits) (ha : a.natAbs < 10 ^ 4300) (h : Q (.str (toString a) s.toks) { s with toks := s.toks + 1 }) :
    wpAny (model prog w) A (pyReprObj (.int a t)) Q E s := by
  have hT := typeIs_int s a t
  have hv : [Value.int a t].any Value.onHeap = false := rfl
  unfold pyReprObj
  simp only [cRoomFor, hv, Bool.false_eq_true, if_false, pure_bind]
  refine wpAny_bind (wpAny_specialOf (name := Str.ofString "__repr__") hT F.slot_int_repr.lookup ?_)
  refine wpAny_bind (m := callSpecialIfBound? (.int a t) (Str.ofString "__repr__")) (wpAny_callSpecialIfBound?_slot (name := Str.ofString "__repr__") hT F.slot_int_repr (call_int_repr_big hn ha ?_))
  refine wpAny_bind (wpAny_isInstance (T := "str") (b := true) rfl isSubtype_str_str ?_)
  exact wpAny_pure h
theorem reprK_tx {h₀ : Heap} {y : V} {u : Value} {x : Str} (hd : h₀.NoDigits) (r : RelV y u) (e : Tx y x) : ReprK prog w [] h₀ 0 u x := by
  cases e with
  | non => cases r; exact .of_is ReprIs.none _ _ _
  | bl b => cases r; exact .of_is (ReprIs.bool b) _ _ _
  | str z hz =>
    obtain ⟨k, rfl⟩ := r
    exact .of_is (ReprIs.str z k hz) _ _ _
  | int i hi =>
    obtain ⟨k, rfl⟩ := r
    intro base hb A g E s Q hg hcl hu hk hQ
    rw [pyReprUnder_leaf (v := .int i k) (by omega) (fun _ z => nomatch z)]
    unfold pyRepr
    exact wpAny_bind (pyReprObj_big (hd.keeps hk) hi (wpAny_pure (hQ s.heap _ fun _ _ z => z)))
end
section
variable {X : Cx} {k : Nat}
/-- repr(l), l a list of flat values, not empty -/
def rReprL (K : PySem.W.Frag) : List V → Hp → VK → Prop := fun xs H Q => ∃ (a : Addr) (ys : List V) (ts : List Str), xs = [.ref a] ∧ SqL K H a ys ∧ ys ≠ [] ∧ Paired Tx ys ts ∧ (listText ts).length ≤ sizeLine ∧ Q (.str (listText ts)) H
theorem paired_at {α β : Type} {R : α → β → Prop} : ∀ {xs : List α} {ys : List β}, Paired R xs ys → ∀ {i : Nat} {x : α}, xs[i]? = some x → ∃ y, ys[i]? = some y ∧ R x y
  | _, _, .nil, _, _, h => by cases h
  | _, _, .cons r t, 0, _, h => by cases h; exact ⟨_, rfl, r⟩
  | _, _, .cons r t, i + 1, _, h => paired_at t (i := i) h
theorem paired_len {α β : Type} {R : α → β → Prop} : ∀ {xs : List α} {ys : List β}, Paired R xs ys → xs.length = ys.length
  | _, _, .nil => rfl
  | _, _, .cons _ t => congrArg (· + 1) (paired_len t)
theorem call_reprL (hr : Rm k X.A) (hd : X.base.NoDigits) : CallR X (.builtin "repr") (rReprL X.K) := by
  intro pins s σ H xs us Q I r h
  obtain ⟨a, ys, ts, rfl, hs, ne, pt, hz, q⟩ := h
  obtain ⟨u, rfl, ru⟩ := vals1 r
  cases (show u = Value.ref a from ru)
  obtain ⟨its, rv, ⟨⟨cls, dd, data, sl⟩, n, ho, hc, hdn, hdt⟩, hlen⟩ := I.list hs
  simp only at hc hdt
  subst hc hdt
  have hu := hr.rm.un
  have hD : s.heap.NoDigits := hd.keeps I.bk
  cases its with
  | nil => cases rv; exact absurd rfl ne
  | cons x l =>
    have hl := rv.length
    have hl2 := paired_len pt
    refine call_repr_slot (T := "list") (by omega) ⟨_, ho, rfl⟩ F.slot_list_repr.toG ?_
    refine call_list_reprK (as := []) (d := 0) ho rfl rfl (fun z => nomatch z) (by simpa using (hl2.symm.trans hl)) (fun i y hy => ?_) (A := X.A.in1) (g := []) hr.gd (fun b _ => Clear.nil b) (by show X.A.units + 1 + (0 + 1) < cLine; omega) (fun _ _ z => z) (fun h' u' tk kp => ⟨_, _, rfl, ?_⟩) hz
    · have hy' : (x :: l)[i]? = some y := by simpa using hy
      have hi : i < ys.length := by
        obtain ⟨h1, _⟩ := List.getElem?_eq_some_iff.mp hy'
        rw [hl]
        exact h1
      obtain ⟨t, ht, hT⟩ := paired_at pt (List.getElem?_eq_getElem hi)
      obtain ⟨u2, hu2, ru2⟩ := rv.get (List.getElem?_eq_getElem hi)
      rw [hu2] at hy'
      cases hy'
      exact ⟨t, ht, reprK_tx hD ru2 hT⟩
    · exact ⟨.str (listText ts), H, I.un (Un.kept kp) (I.hok.kept kp), ⟨u', rfl⟩, q⟩
end
end VB
/-! repr of a dict whose keys and values are flat -/
namespace VB
open PySem PySem.Spec PyProof.Rows L2
/-- an entry's text -/
def TxE (p : Key × V) (x : Str) : Prop := ∃ a b : Str, Tx (kV p.1) a ∧ Tx p.2 b ∧ x = a ++ ": " ++ b
theorem key_rel {k : Key} {v : Value} (h : keyIs k v = true) : RelV (kV k) v := by
  rcases keyIs_shape h with ⟨i, t, rfl, rfl⟩ | ⟨x, t, rfl, rfl⟩
  · exact ⟨t, rfl⟩
  · exact ⟨t, rfl⟩
theorem entriesK {prog : Program} {w : World} {h₀ : Heap} (hd : h₀.NoDigits) : ∀ {kvs : List (Key × V)} {vs : List (Key × Value)} {es : List DictEntry} {ps : List Str},
    L2.KV kvs vs → Pairs (mixKind prog w) es vs → Paired TxE kvs ps → ReprEntriesK prog w [] h₀ 0 es ps
  | _, _, _, _, .nil, .nil, .nil => .nil
  | _, _, _, _, .cons r rs, .cons hk hv ts, .cons te tt => by
    obtain ⟨a, b, ta, tb, rfl⟩ := te
    obtain ⟨e1, rv⟩ := r
    refine .cons (reprK_tx hd (key_rel ?_) ta) (reprK_tx hd (hv ▸ rv) tb) (entriesK hd rs ts tt)
    rw [e1]
    exact hk
section
variable {X : Cx} {k : Nat}
def rReprD : List V → Hp → VK → Prop := fun xs H Q => ∃ (a : Addr) (kvs : List (Key × V)) (ps : List Str), xs = [.ref a] ∧ H a = some (.dK kvs) ∧ Paired TxE kvs ps ∧ (dictText ps).length ≤ sizeLine ∧ Q (.str (dictText ps)) H
theorem call_reprD (hr : Rm k X.A) (hd : X.base.NoDigits) : CallR X (.builtin "repr") rReprD := by
  intro pins s σ H xs us Q I r h
  obtain ⟨a, kvs, ps, rfl, ha, pt, hz, q⟩ := h
  obtain ⟨u, rfl, ru⟩ := vals1 r
  cases (show u = Value.ref a from ru)
  have hx : ObjOk X.prog X.w H s.heap a (.dK kvs) := I.hok a _ ha
  obtain ⟨_, hsys, vs, hkv, o, es, ep, ho, hex, hda, _, hp, _⟩ := hx
  have hu := hr.rm.un
  have hD : s.heap.NoDigits := hd.keeps I.bk
  have hc : o.cls = .type "dict" := hex.1
  refine call_repr_slot (T := "dict") (by omega) ⟨o, ho, hc⟩ F.slot_dict_repr ?_
  refine call_dict_reprK (as := []) (d := 0) ho hc hda hsys (fun z => nomatch z) (entriesK hD hkv hp pt) (A := X.A.in1) (g := []) hr.gd (fun b _ => Clear.nil b) (by show X.A.units + 1 + (0 + 1) < cLine; omega) (fun _ _ z => z) (fun h' u' tk kp => ⟨_, _, rfl, ?_⟩) hz
  exact ⟨.str (dictText ps), H, I.un (Un.kept kp) (I.hok.kept kp), ⟨u', rfl⟩, q⟩
end
end VB
/-! repr of lists, tuples and dicts in one another, ints of any size below the limit of digits -/
namespace VB
open PySem PySem.Spec PyProof.Rows L2
mutual
/-- y is shown as t; bs: the lists, tuples and dicts that are opened for it; d: how deep -/
inductive Shw (H : Hp) : V → Str → List Addr → Nat → Prop
  | flat {y : V} {t : Str} : Tx y t → Shw H y t [] 0
  | dct {a : Addr} {kvs : List (Key × V)} {ps : List Str} : H a = some (.dK kvs) → Paired TxE kvs ps → Shw H (.ref a) (dictText ps) [a] 1
  | lst0 {a : Addr} : H a = some (.lst []) → Shw H (.ref a) "[]" [] 0
  | lst {a : Addr} {ys : List V} {ts : List Str} {bs : List Addr} {d : Nat} : H a = some (.lst ys) → ys ≠ [] → ShwAll H ys ts bs d → a ∉ bs → Shw H (.ref a) (listText ts) (a :: bs) (d + 1)
  | tup {a : Addr} {ys : List V} {ts : List Str} {bs : List Addr} {d : Nat} : H a = some (.tup ys) → ShwAll H ys ts bs d → a ∉ bs → Shw H (.ref a) (tupleText ts) (a :: bs) (d + 1)
inductive ShwAll (H : Hp) : List V → List Str → List Addr → Nat → Prop
  | nil {bs : List Addr} {d : Nat} : ShwAll H [] [] bs d
  | cons {y : V} {t : Str} {cs bs : List Addr} {e d : Nat} {ys : List V} {ts : List Str} : Shw H y t cs e → (∀ b ∈ cs, b ∈ bs) → e ≤ d → ShwAll H ys ts bs d → ShwAll H (y :: ys) (t :: ts) bs d
end
section
variable {P : Program} {w : World} {H : Hp} {h₀ : Heap}
theorem all_at {as : List Addr} {d : Nat} : ∀ {us : List Value} {ts : List Str}, ReprAllK P w as h₀ d us ts → ∀ {i : Nat} {u : Value}, us[i]? = some u → ∃ t, ts[i]? = some t ∧ ReprK P w as h₀ d u t
  | _, _, .nil, _, _, h => by cases h
  | _, _, .cons r t, 0, _, h => by cases h; exact ⟨_, rfl, r⟩
  | _, _, .cons r t, i + 1, _, h => all_at t (i := i) h
mutual
theorem shw_K (hok : HOk P w H h₀) (hd : h₀.NoDigits) : ∀ {y : V} {t : Str} {bs : List Addr} {d : Nat} {u : Value}, Shw H y t bs d → RelV y u → ReprK P w bs h₀ d u t
  | _, _, _, _, _, .flat tx, r => reprK_tx hd r tx
  | _, _, _, _, u, .dct (a := a) ha pt, r => by
    cases (show u = Value.ref a from r)
    have hx : ObjOk P w H h₀ a (.dK _) := hok a _ ha
    obtain ⟨_, hsys, vs, hkv, o, es, ep, ho, hex, hda, _, hp, _⟩ := hx
    exact ReprK.dict ho hex.1 hda hsys (fun z => nomatch z) (entriesK hd hkv hp pt)
  | _, _, _, _, u, .lst0 (a := a) ha, r => by
    cases (show u = Value.ref a from r)
    have hx : ObjOk P w H h₀ a (.lst _) := hok a _ ha
    obtain ⟨_, its, n, rv, ho⟩ := hx
    cases rv
    exact ReprK.listEmpty ho rfl rfl
  | _, _, _, _, u, .lst (a := a) ha ne hs na, r => by
    cases (show u = Value.ref a from r)
    have hx : ObjOk P w H h₀ a (.lst _) := hok a _ ha
    obtain ⟨_, its, n, rv, ho⟩ := hx
    have k := shw_all hok hd hs rv
    cases its with
    | nil => cases rv; exact absurd rfl ne
    | cons x l => exact ReprK.list ho rfl rfl na (by simpa using k.length_eq) (fun i y hy => all_at k (by simpa using hy))
  | _, _, _, _, u, .tup (a := a) ha hs na, r => by
    cases (show u = Value.ref a from r)
    have hx : ObjOk P w H h₀ a (.tup _) := hok a _ ha
    obtain ⟨_, its, rv, ho⟩ := hx
    have k := shw_all hok hd hs rv
    obtain ⟨o, e2, hc, n2, hdt⟩ := ho
    exact ReprK.tuple e2 hc hdt na (by simpa using k)
theorem shw_all (hok : HOk P w H h₀) (hd : h₀.NoDigits) : ∀ {ys : List V} {ts : List Str} {bs : List Addr} {d : Nat} {us : List Value}, ShwAll H ys ts bs d → Vals ys us → ReprAllK P w bs h₀ d us ts
  | _, _, _, _, _, .nil, .nil => .nil
  | _, _, _, _, _, .cons s hb he t, .cons r rs => .cons (((shw_K hok hd s r).more hb).level_le he) (shw_all hok hd t rs)
end
end
section
variable {X : Cx} {k : Nat}
/-- repr(y) -/
def rReprS : List V → Hp → VK → Prop := fun xs H Q => ∃ (y : V) (t : Str) (bs : List Addr) (d : Nat), xs = [y] ∧ Shw H y t bs d ∧ d ≤ 60 ∧ t.length ≤ sizeLine ∧ Q (.str t) H
theorem call_reprS (hr : Rm k X.A) (hd : X.base.NoDigits) : CallR X (.builtin "repr") rReprS := by
  intro pins s σ H xs us Q I r h
  obtain ⟨y, t, bs, d, rfl, hs, h60, hz, q⟩ := h
  have hu := hr.rm.un
  have hD : s.heap.NoDigits := hd.keeps I.bk
  have fin : ∀ (h' : Heap) (u' tk : Tok), (∀ b o, s.heap.get? b = some o → h'.get? b = some o) → EP X pins σ Q (.str t u') { s with heap := h', toks := tk } := fun h' u' tk kp => ⟨.str t, H, I.un (Un.kept kp) (I.hok.kept kp), ⟨u', rfl⟩, q⟩
  cases hs with
  | flat tx =>
    cases tx with
    | non => exact call_repr_non pins s σ H _ us Q I r ⟨rfl, q⟩
    | bl b => exact call_repr_bl pins s σ H _ us Q I r ⟨b, rfl, q⟩
    | int i hi => exact call_repr_big hd pins s σ H _ us Q I r ⟨i, rfl, hi, q⟩
    | str x hx => exact call_repr_str pins s σ H _ us Q I r ⟨x, rfl, hx, q⟩
  | dct ha pt => exact call_reprD hr hd pins s σ H _ us Q I r ⟨_, _, _, rfl, ha, pt, hz, q⟩
  | @lst0 a ha =>
    obtain ⟨u, rfl, ru⟩ := vals1 r
    cases (show u = Value.ref a from ru)
    have hx : ObjOk X.prog X.w H s.heap a (.lst _) := I.hok a _ ha
    obtain ⟨_, its, n, rv, ho⟩ := hx
    cases rv
    exact call_repr_slot (T := "list") (by omega) ⟨_, ho, rfl⟩ F.slot_list_repr.toG (call_list_repr_empty ⟨_, ho, rfl⟩ ho rfl ⟨_, _, rfl, fin s.heap _ _ fun _ _ z => z⟩)
  | @lst a ys ts bs d ha ne hs na =>
    obtain ⟨u, rfl, ru⟩ := vals1 r
    cases (show u = Value.ref a from ru)
    have hx : ObjOk X.prog X.w H s.heap a (.lst _) := I.hok a _ ha
    obtain ⟨_, its, n, rv, ho⟩ := hx
    have kk := shw_all (P := X.prog) (w := X.w) I.hok hD hs rv
    cases its with
    | nil => cases rv; exact absurd rfl ne
    | cons x l =>
      refine call_repr_slot (T := "list") (by omega) ⟨_, ho, rfl⟩ F.slot_list_repr.toG ?_
      exact call_list_reprK ho rfl rfl na (by simpa using kk.length_eq) (fun i y hy => all_at kk (by simpa using hy)) (A := X.A.in1) (g := []) hr.gd (fun b _ => Clear.nil b) (by show X.A.units + 1 + (d + 1) < cLine; omega) (fun _ _ z => z) (fun h' u' tk kp => ⟨_, _, rfl, fin h' u' tk kp⟩) hz
  | @tup a ys ts bs d ha hs na =>
    obtain ⟨u, rfl, ru⟩ := vals1 r
    cases (show u = Value.ref a from ru)
    have hx : ObjOk X.prog X.w H s.heap a (.tup _) := I.hok a _ ha
    obtain ⟨_, its, rv, o, e2, hc, n2, hdt⟩ := hx
    have kk := shw_all (P := X.prog) (w := X.w) I.hok hD hs rv
    refine call_repr_slot (T := "tuple") (by omega) ⟨o, e2, hc⟩ F.slot_tuple_repr ?_
    exact call_tuple_reprK e2 hc hdt na (by simpa using kk) (A := X.A.in1) (g := []) hr.gd (fun b _ => Clear.nil b) (by show X.A.units + 1 + (d + 1) < cLine; omega) (fun _ _ z => z) (fun h' u' tk kp => ⟨_, _, rfl, fin h' u' tk kp⟩) hz
end
end VB
/-! isinstance of a caught error that has a dict; == and index of own instances -/
namespace VB
open PySem PySem.Spec PyProof.Rows L2
/-- what isinstance asks of instances of the error class D, and that they are of class F -/
structure IsE (K : PySem.W.Frag) (D F : Addr) : Prop where
  ha : PySem.W.findIn K (.ref D) "__class__" = some (some (.builtin "object.__class__"))
  hn : PySem.W.specialIn K (.builtin "object.__class__") "__get__" = some (some (.builtin "getset_descriptor.__get__"))
  ht : PySem.W.takesIn K (.builtin "object.__class__") = some true
  hm : PySem.W.mroIn K D (.type "object") = some true
  kit : PySem.W.kitOne K (.ref D) (.ref F) = some true
def isEB (K : PySem.W.Frag) (D F : Addr) : Bool := decide (PySem.W.findIn K (.ref D) "__class__" = some (some (.builtin "object.__class__"))) && (decide (PySem.W.specialIn K (.builtin "object.__class__") "__get__" = some (some (.builtin "getset_descriptor.__get__"))) && (decide (PySem.W.takesIn K (.builtin "object.__class__") = some true) &&
  (decide (PySem.W.mroIn K D (.type "object") = some true) && decide (PySem.W.kitOne K (.ref D) (.ref F) = some true))))
theorem isEB_ok {K : PySem.W.Frag} {D F : Addr} (h : isEB K D F = true) : IsE K D F := by
  unfold isEB at h
  obtain ⟨h1, h⟩ := Bool.and_eq_true_iff.mp h
  obtain ⟨h2, h⟩ := Bool.and_eq_true_iff.mp h
  obtain ⟨h3, h⟩ := Bool.and_eq_true_iff.mp h
  obtain ⟨h4, h5⟩ := Bool.and_eq_true_iff.mp h
  exact ⟨of_decide_eq_true h1, of_decide_eq_true h2, of_decide_eq_true h3, of_decide_eq_true h4, of_decide_eq_true h5⟩
/-- isinstance(e, F), e the caught error -/
def rIsED (D F a : Addr) (cls : Value) (d : Option Addr) : List V → Hp → VK → Prop := fun xs H Q => xs = [.ref a, .ref F] ∧ cls = .ref D ∧ ∃ (dd : Addr) (fs : List (Str × V)), d = some dd ∧ H dd = some (.xd fs) ∧ Q (.bl true) H
theorem call_isED {X : Cx} {a D F : Addr} {oe : Obj} {cls : Value} {d : Option Addr} {pn : List (Addr × Obj)} (T : XfC X.K D) (C : IsE X.K D F) (hz : Zc cls d oe) (hf : ∃ vs, oe.data = .fields vs) : CallR (X.suite a ((a, oe) :: pn)) (.builtin "isinstance") (rIsED D F a cls d) := by
  intro pins s σ H xs us Q I r h
  obtain ⟨rfl, ec, dd, fs, ed, ea, q⟩ := h
  cases r with
  | cons rx rr =>
    cases rr with
    | cons rt rr =>
      cases rr
      cases rx
      cases rt
      subst ec
      subst ed
      obtain ⟨hget, _⟩ := I.pin (a, oe) (List.mem_append.mpr (.inl List.mem_cons_self))
      obtain ⟨vs, hd⟩ := hf
      have hx : ObjOk X.prog X.w H s.heap dd (.xd fs) := I.hok dd _ ea
      obtain ⟨mA, hns, hr⟩ := hx
      obtain ⟨od, ho, hl⟩ := lookIn_ns hns
      have J : PySem.W.InstAt s.heap a oe D (some od) := ⟨hget, hz.1, by unfold PySem.W.notCls; rw [hd] <;> rfl, by rw [hz.2]; exact ho⟩
      have hcl : (PySem.W.clsIn X.K D).isSome = true := by
        obtain ⟨cd, hc, _⟩ := PySem.W.any_some T.hdC
        rw [hc]
        rfl
      exact PySem.W.kia_one (PySem.W.kitx_exc hcl T.ga T.gg T.exC C.ha C.hn C.ht C.hm) I.kIn J C.kit (fun z => nomatch z) fun tk => ⟨.bl true, H, I.kept (t' := tk) fun _ _ z => z, rfl, q⟩
/-- what == asks of the class -/
def nsB (K : PySem.W.Frag) (N : Addr) : Bool := match K.lookup N with
  | some ⟨_, _, .dict es _, _⟩ => es.toList.all (fun e => match e.key with | .str _ _ => true | _ => false) && ((es.toList.find? (·.key.isStr "__eq__")).isNone && (es.toList.find? (·.key.isStr "__ne__")).isNone)
  | _ => false
def slB : List (Option Value) → Bool
  | [_, _, _, _, some (.builtin _), _] => true
  | _ => false
def cmpB (K : PySem.W.Frag) (C : Addr) : Bool := match K.lookup C with
  | some ⟨c, _, .cls cd, sl⟩ => decide (c = .type "type") && (decide (cd.mro = [.ref C, .type "object"]) && (!cd.hasDel && (slB sl.toList && nsB K cd.ns)))
  | _ => false
theorem cmp_ok {K : PySem.W.Frag} {h : Heap} {C a dx : Addr} (B : cmpB K C = true) (X : K.In h) (ha : h.get? a = some (PySem.W.instObj C dx)) : h.CmpInst a C [.type "object"] := by
  unfold cmpB at B
  split at B
  · rename_i c dd cd sl ho
    obtain ⟨b1, B⟩ := Bool.and_eq_true_iff.mp B
    obtain ⟨b2, B⟩ := Bool.and_eq_true_iff.mp B
    obtain ⟨b3, B⟩ := Bool.and_eq_true_iff.mp B
    obtain ⟨b4, b5⟩ := Bool.and_eq_true_iff.mp B
    have e1 : c = .type "type" := of_decide_eq_true b1
    have e2 : cd.mro = [.ref C, .type "object"] := of_decide_eq_true b2
    have e3 : cd.hasDel = false := by simpa using b3
    obtain ⟨nm, bs, mro, N, q, hdct, sn, sub, ab, col, del⟩ := cd
    dsimp only at e2 e3 b5
    subst e1 e2 e3
    obtain ⟨sl⟩ := sl
    unfold slB at b4
    split at b4
    · rename_i k0 k1 k2 k3 newId k5 es
      dsimp only at es
      subst es
      unfold nsB at b5
      split at b5
      · rename_i c' d' es ep sl' hN
        obtain ⟨n1, b5⟩ := Bool.and_eq_true_iff.mp b5
        obtain ⟨n2, n3⟩ := Bool.and_eq_true_iff.mp b5
        refine ⟨_, nm, q, N, bs, hdct, sn, sub, ab, col, dd, k0, k1, k2, k3, k5, newId, nsFind es, ha, rfl, X _ _ ho, ⟨_, es, ep, X _ _ hN, rfl, fun e he => ?_, fun _ => rfl⟩, ?_, ?_⟩
        · have := List.all_eq_true.mp n1 e (by simpa using he)
          split at this
          · rename_i n t hk
            exact ⟨n, t, hk⟩
          · cases this
        · show (es.find? fun e => e.key.isStr "__eq__").map (·.val) = none
          rw [← Array.find?_toList]
          rw [Option.isNone_iff_eq_none] at n2
          rw [n2]
          rfl
        · show (es.find? fun e => e.key.isStr "__ne__").map (·.val) = none
          rw [← Array.find?_toList]
          rw [Option.isNone_iff_eq_none] at n3
          rw [n3]
          rfl
      · cases b5
    · cases b4
  · cases B
/-- a == b, two own instances without an __eq__ of their own -/
def rEqI (C : Addr) : R2 := fun x y H Q => ∃ (a b da db : Addr) (fa fb : List (Str × V)), x = .ref a ∧ y = .ref b ∧ a ≠ b ∧ H a = some (.ins C da fa) ∧ H b = some (.ins C db fb) ∧ Q (.bl false) H
theorem op_eqI {X : Cx} {C : Addr} {k : Nat} (hr : Rm k X.A) (B : cmpB X.K C = true) : OpR X (compareOp .Eq) (rEqI C) := by
  intro pins s σ H x y v u Q I rx ry h
  obtain ⟨a, b, da, db, fa, fb, rfl, rfl, ne, ea, eb, q⟩ := h
  cases rx
  cases ry
  have oa : ObjOk X.prog X.w H s.heap a (.ins C da fa) := I.hok a _ ea
  have ob : ObjOk X.prog X.w H s.heap b (.ins C db fb) := I.hok b _ eb
  obtain ⟨_, _, _, ga, _⟩ := oa
  obtain ⟨_, _, _, gb, _⟩ := ob
  have hu := hr.rm.units
  obtain ⟨hp, g, d, t, os⟩ := s
  exact compareOp_eq_other F.cmp_object F.cmp_object (cmp_ok B I.kIn ga) (cmp_ok B I.kIn gb) ne (by omega) ⟨.bl false, H, I, rfl, q⟩
/-- l.index(b), l = [a, b] -/
def rIdx2 (C : Addr) : V → List V → Hp → VK → Prop := fun x xs H Q => ∃ (l a b da db : Addr) (fa fb : List (Str × V)), x = .ref l ∧ xs = [.ref b] ∧ H l = some (.lst [.ref a, .ref b]) ∧ a ≠ b ∧ H a = some (.ins C da fa) ∧ H b = some (.ins C db fb) ∧ Q (.int 1) H
theorem mt_idx2 {X : Cx} {C : Addr} {k : Nat} (hr : Rm k X.A) (B : cmpB X.K C = true) : MtR X "list.index" (rIdx2 C) := by
  intro pins s σ H x xs v us Q I rx rxs h
  obtain ⟨l, a, b, da, db, fa, fb, rfl, rfl, hl, ne, ea, eb, q⟩ := h
  cases rx
  obtain ⟨u, rfl, ru⟩ := rxs.one
  cases ru
  have oa : ObjOk X.prog X.w H s.heap a (.ins C da fa) := I.hok a _ ea
  have ob : ObjOk X.prog X.w H s.heap b (.ins C db fb) := I.hok b _ eb
  obtain ⟨_, _, _, ga, _⟩ := oa
  obtain ⟨_, _, _, gb, _⟩ := ob
  have hu := hr.rm.units
  obtain ⟨z, its, n, r, _, ho⟩ := I.lstM hl
  obtain ⟨u1, r', rfl, r1, r2⟩ : ∃ u1 r', its = u1 :: r' ∧ RelV (.ref a) u1 ∧ Vals [.ref b] r' := by
    cases r with
    | cons r1 r2 => exact ⟨_, _, rfl, r1, r2⟩
  obtain ⟨u2, rfl, r3⟩ := r2.one
  cases r1
  cases r3
  refine call_meets PySem.F.slot_list_index ⟨_, ho, rfl⟩ PySem.F.entry_list_index (PySem.F.args_list_index_2 _ _)
    (SeqAt.list_indexAt l #[Value.ref a, Value.ref b] n none #[] (.ref b) (fun y => y == .ref b) 1 (by show 1 < 2; omega) (by omega) ?_ ?_) ⟨ho, fun y hy => ?_, ?_⟩
  · exact beq_self_eq_true _
  · intro m hm hm1
    obtain rfl : m = 0 := by omega
    show (Value.ref a == Value.ref b) = false
    exact beq_eq_false_iff_ne.mpr fun z => ne (Value.ref.inj z)
  · have : y = .ref a ∨ y = .ref b := by simpa using hy
    rcases this with rfl | rfl
    · have e : (Value.ref a == Value.ref b) = false := beq_eq_false_iff_ne.mpr fun z => ne (Value.ref.inj z)
      rw [e]
      refine SeqAt.EqAt.of_refs ne fun prog w E Q hq => ?_
      obtain ⟨hp, g, d, t, os⟩ := s
      exact richCompare_eq_other F.cmp_object F.cmp_object (cmp_ok B I.kIn ga) (cmp_ok B I.kIn gb) ne (by show X.A.units + 1 < cLine; omega) hq
    · rw [beq_self_eq_true]
      exact SeqAt.EqAt.same _
  · exact ⟨.int 1, H, I.tok _, ⟨_, rfl⟩, q⟩
end VB
/-! an own error class called: C(e), C(g = e); as a value, and for a raise -/
namespace PySem
namespace HandSPX
open Builtin Builtin.ObjectAttr
section
variable {P : Program} {w : World} {M : Model} {A : Around} {E : Value → Shared → Prop} {R : Result → Shared → Prop} {h : Heap} {g : Array GenState} {d : Drawn} {t : Nat} {os : OsState}
variable {nm q : Str} {C N : Addr} {bs bm bB : List Value} {hd : Bool} {sn : List Str} {sub : List Value} {ab : Bool} {col : Option Bool} {dd : Option Addr} {k0 k1 k2 k3 k5 : Option Value} {B nI iI : String} {us : List Value} {kw : List (Str × Value)}
theorem kwNewChk (F : ExcBaseFacts B nI iI bB) (tail : ∀ X : String, bm.contains (.type X) = bB.contains (.type X)) {Q : Unit → Shared → Prop}
    (cC : h.get? C = some (excClassObj nm q C N bs bm hd sn sub ab col dd k0 k1 k2 k3 k5 nI)) (z : Q () ⟨h, g, d, t, os⟩) :
    wpAny M A (checkBuiltinCall nI ⟨.ref C :: us, kw⟩) Q E ⟨h, g, d, t, os⟩ := by
  have isB : (Value.ref C :: bm).contains (.type B) = true := by
    rw [List.contains_cons, tail, F.hasB]
    simp
  have star := F.noStar
  simp only [checkBuiltinCall, F.newKind, F.newSplit, F.newRow]
  repeat first
    | refine wpAny_loadPart_at cC ?_
    | (refine wpAny_isSubtype_exc cC ?_; rw [isB])
    | refine wpAny_staticBase_exc cC ?_
    | refine wpAny_madeBy_exc cC ?_
    | simp only [bne_self_eq_false, Bool.false_eq_true, if_false]
    | wp_step
  exact z
theorem kwNew (F : ExcBaseFacts B nI iI bB) (tail : ∀ X : String, bm.contains (.type X) = bB.contains (.type X))
    (cC : h.get? C = some (excClassObj nm q C N bs bm hd sn sub ab col dd k0 k1 k2 k3 k5 nI)) (len : us.length ≤ sizeLine)
    (z : R (.ok (.ret (.ref (h.objs.size + 1)))) ⟨(h.push (W.kdv_tup us)).push (excO C h.objs.size), g, d, t, os⟩) :
    codeAny (model P w) A (.builtin nI ⟨.ref C :: us, kw⟩) R ⟨h, g, d, t, os⟩ := by
  have ends := F.ends
  have isB : (Value.ref C :: bm).contains (.type B) = true := by
    rw [List.contains_cons, tail, F.hasB]
    simp
  have noA : (Value.ref C :: bm).contains (.type "AttributeError") = false := by
    rw [List.contains_cons, tail, F.noAttr]
    rfl
  have noN : (Value.ref C :: bm).contains (.type "NameError") = false := by
    rw [List.contains_cons, tail, F.noName]
    rfl
  apply codeAny_builtinAt F.entry
  unfold Builtin.«BaseException.__new__»
  apply wpAt_bind
  show wpAt _ _ _ (stack >>= _) _ _ _
  apply wpAt_bind
  refine wpAt_stack fun p below => ?_
  apply wpAt_of_wpAny
  wp_walk
  apply wpAt_of_wpAny
  rw [F.owner]
  repeat first
    | with_reducible refine wpAny_madeHere_exc F.canon cC ?_
    | with_reducible refine wpAny_loadPart_at cC ?_
    | (with_reducible refine wpAny_isSubtype_exc cC ?_; first | rw [isB] | rw [noA] | rw [noN])
    | wp_step
  show R _ _
  rw [Heap.size_push]
  exact z
theorem kwTypeCall (F : ExcBaseFacts B nI iI bB) (tail : ∀ X : String, bm.contains (.type X) = bB.contains (.type X)) {f : Addr} {Q : Fin → Shared → Prop}
    (cC : h.get? C = some (excClassObj nm q C N bs bm hd sn sub ab col dd k0 k1 k2 k3 k5 nI)) (li : W.Looks (model P w) h (typeLookup (.ref C) "__init__") (some (.ref f)))
    (lb : ∀ v, W.Looks (model P w) h (bindSpecial (.ref f) v) (.ref f, [v])) (len : us.length ≤ sizeLine)
    (z : codeAny (model P w) A (.call (.ref f) ⟨.ref (h.objs.size + 1) :: us, kw⟩)
      (fun r s => match r with | .ok (.ret v) => v = .none ∧ Q (.done (.ret (.ref (h.objs.size + 1)))) s | .ok _ => False | .error e => E e s)
      ⟨(h.push (W.kdv_tup us)).push (excO C h.objs.size), g, d, t, os⟩) :
    wpAny (model P w) A (Builtin.«type.__call__» ⟨.ref C :: us, kw⟩) Q E ⟨h, g, d, t, os⟩ := by
  repeat first
    | with_reducible refine wpAny_loadPart_at cC ?_
    | with_reducible refine wpAny_madeBy_exc cC ?_
    | wp_step
  apply codeAny_call_builtin_code (Code.quiet_builtin _ F.quiet)
  apply kwNewChk F tail cC
  apply kwNew F tail cC len
  show wpAny _ _ _ _ _ _
  have up : ∀ b o, h.get? b = some o → ((h.push (W.kdv_tup us)).push (excO C h.objs.size)).get? b = some o := fun _ _ e =>
    Heap.get?_push_of_some _ (Heap.get?_push_of_some _ e)
  have cC' := up _ _ cC
  have ce : ((h.push (W.kdv_tup us)).push (excO C h.objs.size)).get? (h.objs.size + 1) = some (excO C h.objs.size) := by heap_get
  have self : (Value.ref C :: bm).contains (.ref C) = true := by simp
  have li' := li.keeps up
  have lb' := (lb (.ref (h.objs.size + 1))).keeps up
  unfold isInstance
  repeat first
    | with_reducible refine wpAny_loadPart_at ce ?_
    | (with_reducible refine wpAny_isSubtype_exc cC' ?_; rw [self])
    | wp_step
  show wpAny _ _ (typeLookup (.ref C) _) _ _ _
  apply li'.at
  apply wpAny_holding
  apply wpAny_bind
  apply lb'.at
  apply wpAny_bind
  apply wpAny_call
  refine codeAny_mono z fun r s y => ?_
  cases r with
  | error e => exact y
  | ok fl =>
    cases fl with
    | ret v =>
      obtain ⟨rfl, y⟩ := y
      first
        | exact wpAny_pure (wpAny_pure y)
        | (wp_walk; exact y)
    | next => exact y.elim
    | brk => exact y.elim
    | cont => exact y.elim
theorem kwTcChk {Q : Unit → Shared → Prop} (cC : h.get? C = some (excClassObj nm q C N bs bm hd sn sub ab col dd k0 k1 k2 k3 k5 nI)) (z : Q () ⟨h, g, d, t, os⟩) :
    wpAny M A (checkBuiltinCall "type.__call__" ⟨.ref C :: us, kw⟩) Q E ⟨h, g, d, t, os⟩ := by
  have sb := tc_sub
  have ty : (⟨h, g, d, t, os⟩ : Shared).TypeIs (.ref C) "type" := ⟨_, cC, rfl⟩
  simp only [checkBuiltinCall, tc_kind, tc_split]
  repeat any_goals first
    | assumption
    | with_reducible refine wpAny_loadPart_at cC ?_
    | with_reducible refine wpAny_onRaise ?_
    | with_reducible refine wpAny_map ?_
    | wp_step
theorem kwCall (F : ExcBaseFacts B nI iI bB) (tail : ∀ X : String, bm.contains (.type X) = bB.contains (.type X)) {f : Addr}
    (cC : h.get? C = some (excClassObj nm q C N bs bm hd sn sub ab col dd k0 k1 k2 k3 k5 nI)) (li : W.Looks (model P w) h (typeLookup (.ref C) "__init__") (some (.ref f)))
    (lb : ∀ v, W.Looks (model P w) h (bindSpecial (.ref f) v) (.ref f, [v])) (len : us.length ≤ sizeLine)
    (z : codeAny (model P w) (A.under (.builtin "type.__call__" ⟨.ref C :: us, kw⟩)) (.call (.ref f) ⟨.ref (h.objs.size + 1) :: us, kw⟩) (W.InitBack (h.objs.size + 1) R) ⟨(h.push (W.kdv_tup us)).push (excO C h.objs.size), g, d, t, os⟩) :
    codeAny (model P w) A (.call (.ref C) ⟨us, kw⟩) R ⟨h, g, d, t, os⟩ := by
  have lk := tc_lookup
  have bd := tc_bind (.ref C)
  have ty : (⟨h, g, d, t, os⟩ : Shared).TypeIs (.ref C) "type" := ⟨_, cC, rfl⟩
  apply codeAny_of_tree
  show wpAny _ _ (callAny (.ref C) _) _ _ _
  repeat any_goals first
    | assumption
    | with_reducible refine wpAny_loadPart_at cC ?_
    | wp_step
  refine ⟨rfl, codeAny_call_builtin_at (Code.quiet_builtin _ (by decide +kernel)) entry_typeCall ?_⟩
  apply kwTcChk cC
  apply kwTypeCall F tail cC li lb len
  refine codeAny_mono z fun r s y => ?_
  cases r with
  | error e => exact y
  | ok fl => cases fl <;> exact y
end
end HandSPX
end PySem
namespace VB
open PySem PySem.Spec PyProof.Rows L2
/-- what stands when an error with the value y was made at a: all of it tracked; or the heap without it, for a raise -/
structure NewE (X : Cx) (pins : List (Addr × Obj)) (σ : L2.St) (H1 : Hp) (C : Addr) (g : Str) (y : V) (a : Addr) (s : Shared) : Prop where
  free : H1 a = none
  ex : ∃ (d : Addr) (H2 : Hp), H1 d = none ∧ d ≠ a ∧ H2 = upd (upd (upd H1 a (exo a C none)) d (exd d [(g, y)])) a (exo a C (some d)) ∧ Inv X pins σ H2 s ∧
    ∃ (t0 : Addr) (G : Heap), Inv X pins σ (upd H1 d (.xd [(g, y)])) { s with heap := G } ∧ (∀ b o, G.get? b = some o → s.heap.get? b = some o) ∧ G.get? a = none ∧
      s.heap.get? a = some ({ cls := .ref C, dict := some d, data := .fields #[.ref t0, .none, .none, .none, .bool false, .none] } : Obj) ∧ (upd H1 d (.xd [(g, y)]) : Hp) a = none
section
variable {X : Cx} {pins : List (Addr × Obj)} {σ : L2.St} {H1 : Hp} {s1 : Shared} {x g : Str} {C fI : Addr} {fd : FuncData} {us : List Value} {kw : List (Str × Value)} {y : V} {u : Value}
theorem run_new (M : ErrC X.K X.mg x g C fI) (F1 : FnOk X.prog X.w X.K X.mg X.base CX0 1 fI fd ["self", g] (spInit X.K g)) (hr : Room 2 X.A) (I1 : Inv X pins σ H1 s1) (lu : us.length ≤ 1000) (ru : RelV y u)
    (hb : ∀ (s : Shared) (a : Addr), X.K.In s.heap → BindsTo s fd ⟨.ref a :: us, kw⟩ ((["self", g] : List Str).zip [.ref a, u])) {R : Value → Shared → Prop} (k : ∀ (a : Addr) (s : Shared), NewE X pins σ H1 C g y a s → R (.ref a) s) :
    codeAny (model X.prog X.w) X.A (.call (.ref C) ⟨us, kw⟩) (fun r s => match r with | .ok (.ret v) => R v s | .ok _ => False | .error e => X.xe e s) s1 := by
  obtain ⟨nm, q, N, bs, bm, sn, sub, ab, col, dd, k0, k1, k2, k3, k5, cC, tail⟩ := M.oex.cls
  obtain ⟨h, gs, dr, tk, os⟩ := s1
  have kIn := I1.kIn
  have up : ∀ b o, h.get? b = some o → ((h.push (PySem.W.kdv_tup us)).push (PySem.HandSPX.excO C h.objs.size)).get? b = some o := fun _ _ e => Heap.get?_push_of_some _ (Heap.get?_push_of_some _ e)
  have le : h.objs.size ≤ h.objs.size + 1 := Nat.le_succ _
  have na : H1 (h.objs.size + 1) = none := I1.hok.fresh le
  have I2 := I1.laid (t' := tk) (o := exo (h.objs.size + 1) C none) up le (exo_ok (by heap_get))
  have sp : spInit X.K g [.ref (h.objs.size + 1), y] (upd H1 (h.objs.size + 1) (exo (h.objs.size + 1) C none))
      (fun v H2 => v = .non ∧ ∃ d, H1 d = none ∧ d ≠ h.objs.size + 1 ∧ H2 = upd (upd (upd H1 (h.objs.size + 1) (exo (h.objs.size + 1) C none)) d (exd d [(g, y)])) (h.objs.size + 1) (exo (h.objs.size + 1) C (some d))) (fun _ _ _ => False) :=
    ⟨_, C, y, rfl, M.oex, M.noG, upd_same, fun d nd ne => ⟨rfl, d, by rw [upd_ne ne] at nd; exact nd, ne, rfl⟩⟩
  have vals : Vals [V.ref (h.objs.size + 1), y] [Value.ref (h.objs.size + 1), u] := .cons rfl (.cons ru .nil)
  refine PySem.HandSPX.kwCall F.excBase_ValueError (fun Y => PySem.HandSPX.refsVE_contains Y bm tail) (kIn _ _ cC) (PySem.W.looks_findIn kIn M.iC) (fun v => PySem.W.bind_fn kIn v M.tI) (Nat.le_trans lu (by decide)) ?_
  refine codeAny_mono (F1.run _ X.stack _ _ ⟨.ref (h.objs.size + 1) :: us, kw⟩ _ _ _ _ (hr.make C us kw) (I2.env0.make C us kw) (hb _ _ I2.kIn) vals sp) fun r s' z => ?_
  cases r with
  | error e => exact (show PassesAt CX0 X σ (fun _ _ _ => False) from fun _ _ _ _ _ _ c => c.elim) pins _ _ e s' I2 z
  | ok fl =>
    cases fl with
    | ret v =>
      obtain ⟨v', H2, os2, bare, un, hok, rv, rfl, d, nd, ne, eH⟩ := z
      obtain ⟨h2, g2, d2, t2, os'⟩ := s'
      obtain rfl : os' = os := os2
      have ea : H2 (h.objs.size + 1) = some (exo (h.objs.size + 1) C (some d)) := by rw [eH, upd_same]
      have ed : H2 d = some (exd d [(g, y)]) := by rw [eH, upd_ne ne, upd_same]
      have I3 := I2.call (h' := h2) (g' := g2) (d' := d2) (t' := t2) (ch := []) un hok bare (fun b z => absurd z (by simp))
      obtain ⟨t0, G, J, kG, ge, hoe, nz⟩ := mk_end0 (d2 := d2) (t2 := t2) I1 le up un hok rfl bare ea ed nd
      have eq : upd (del H2 (h.objs.size + 1)) d (.xd [(g, y)]) = upd H1 d (.xd [(g, y)]) := by
        funext b
        by_cases hb : b = d
        · rw [hb, upd_same, upd_same]
        · rw [upd_ne hb, upd_ne hb]
          by_cases ha : b = h.objs.size + 1
          · rw [ha, del_same, na]
          · rw [del_ne ha, eH, upd_ne ha, upd_ne hb, upd_ne ha]
      rw [eq] at J nz
      exact ⟨rv, k _ _ ⟨na, d, _, nd, ne, eH, I3, t0, G, J, kG, ge, hoe, nz⟩⟩
    | next => exact z.elim
    | brk => exact z.elim
    | cont => exact z.elim
end
/-- C(e), C(g = e) as a value: the error and its dict stand -/
def tMkW (C : Addr) (g : Str) (ta : TA) : TE := fun σ H Q => ta σ H fun vs H1 => ∃ y, vs = [y] ∧ ∀ a d, H1 a = none → H1 d = none → d ≠ a → Q (.ref a) (upd (upd (upd H1 a (exo a C none)) d (exd d [(g, y)])) a (exo a C (some d)))
/-- the same for a raise: its dict stands -/
def tMkR (C : Addr) (g : Str) (ta : TA) : L2.St → Hp → XK → Prop := fun σ H Q => ta σ H fun vs H1 => ∃ y, vs = [y] ∧ ∀ d, H1 d = none → Q (.ref C) (some d) (upd H1 d (.xd [(g, y)]))
abbrev gK1 : List Value → List Value → List Value := fun us ws => [us.getD 0 .none, ws.getD 0 .none]
abbrev gK1V : List V → List V → List V := fun us ws => [us.getD 0 .non, ws.getD 0 .non]
/-- the class, made with the keyword g -/
structure MkEK (P : Program) (w : World) (K : PySem.W.Frag) (mg : Str → Option Value) (base : Heap) (x g : Str) (C fI : Addr) : Prop where
  err : ErrC K mg x g C fI
  ini : ∃ fd, FnOk P w K mg base CX0 1 fI fd ["self", g] (spInit K g) ∧ KBn K fd ["self", g] 1 [g] gK1 gK1V
section
variable {X : Cx} {x g : Str} {C fI : Addr} {p pos : Pos} {e : Expr} {ta tk : TA} {kws : List Keyword} {k : Nat}
/-- C(e), whatever is made of it -/
theorem call_new (M : MkE X.prog X.w X.K X.mg X.base x g C fI) (hr : Room 2 X.A) (ha : PA X [e] ta) (hg : Gl X x) (hdb : (x == ("__debug__" : Str)) = false)
    (he : starEach [e] X.env = (false, eval e X.env) :: starEach [] X.env) (hpl : (backTo pos (starEach [] X.env)).any (·.1) = false) {pins : List (Addr × Obj)} {s : Shared} {σ : L2.St} {H : Hp} (I : Inv X pins σ H s) {Z : V → Hp → Prop} {Y : Value → Shared → Prop}
    (h : ta σ H fun vs H1 => ∃ y, vs = [y] ∧ Z y H1) (fin : ∀ (y : V) (H1 : Hp) (a : Addr) (s' : Shared), Z y H1 → NewE X pins σ H1 C g y a s' → Y (.ref a) s') :
    wpAny (model X.prog X.w) X.A (eval (.Call (.Name x p) [e] [] pos) X.env) Y X.xe s := by
  obtain ⟨fd, F1, hb⟩ := M.ini
  refine wpAny_Call_Name_kw (ld_glob I hg M.err.gC ?_ hdb)
  refine PySem.W.callWith_K (h₀ := X.base) I.ok.mod.kin M.err.oex.kC (thn (ha.run pos pins s σ H _ I h) fun us s1 ⟨vs, H1, I1, r1, y, ev, z⟩ => ⟨I1.kIn, ?_⟩) he hpl
  subst ev
  obtain ⟨u, rfl, ru⟩ := vals1 r1
  refine wpAny_call (codeAny_mono (run_new M.err F1 hr I1 (by simp) ru (fun s a ki => ?_) fun a s' N => fin y H1 a s' z N) fun r s' q => ?_)
  · have b := hb s [.ref a, u] ki rfl
    exact b
  · cases r with
    | error e => exact q
    | ok fl => cases fl <;> exact q
theorem call_newK (M : MkEK X.prog X.w X.K X.mg X.base x g C fI) (hr : Room 2 X.A) (hkw : PK X kws tk) (hg : Gl X x) (hdb : (x == ("__debug__" : Str)) = false) (hall : (backToKw pos (keywordEach kws X.env)).all (·.1.isSome) = true) (hks : (backToKw pos (keywordEach kws X.env)).filterMap (·.1) = [g])
    (hpl : ((backTo pos (starEach [] X.env)).any (·.1) || (backToKw pos (keywordEach kws X.env)).any (·.1.isNone)) = false) {pins : List (Addr × Obj)} {s : Shared} {σ : L2.St} {H : Hp} (I : Inv X pins σ H s) {Z : V → Hp → Prop} {Y : Value → Shared → Prop}
    (h : tk σ H fun vs H1 => ∃ y, vs = [y] ∧ Z y H1) (fin : ∀ (y : V) (H1 : Hp) (a : Addr) (s' : Shared), Z y H1 → NewE X pins σ H1 C g y a s' → Y (.ref a) s') :
    wpAny (model X.prog X.w) X.A (eval (.Call (.Name x p) [] kws pos) X.env) Y X.xe s := by
  obtain ⟨fd, F1, hb⟩ := M.ini
  refine wpAny_Call_Name_kw (ld_glob I hg M.err.gC ?_ hdb)
  refine PySem.W.callWith_KW0 (h₀ := X.base) I.ok.mod.kin M.err.oex.kC hall (thn (hkw.run pos pins s σ H _ I h) fun us s1 ⟨vs, H1, I1, r1, y, ev, z⟩ => ⟨I1.kIn, ?_⟩) hpl
  subst ev
  obtain ⟨u, rfl, ru⟩ := vals1 r1
  rw [hks]
  refine wpAny_call (codeAny_mono (run_new M.err F1 hr I1 (by simp) ru (fun s a ki => ?_) fun a s' N => fin y H1 a s' z N) fun r s' q => ?_)
  · exact hb.to s [.ref a] [u] ki rfl rfl
  · cases r with
    | error e => exact q
    | ok fl => cases fl <;> exact q
theorem pe_mkv (M : MkE X.prog X.w X.K X.mg X.base x g C fI) (hr : Rm k X.A) (ha : PA X [e] ta) (hk : 2 ≤ k := by omega) (hg : Gl X x := by rfl) (hdb : (x == ("__debug__" : Str)) = false := by decide)
    (he : starEach [e] X.env = (false, eval e X.env) :: starEach [] X.env := by rfl) (hpl : (backTo pos (starEach [] X.env)).any (·.1) = false := by rfl) : PE X (.Call (.Name x p) [e] [] pos) (tMkW C g ta) :=
  ⟨fun pins s σ H Q I h => call_new M (hr.rm.mono hk) ha hg hdb he hpl I h fun y H1 a s' z N => by
    obtain ⟨na, d, H2, nd, ne, rfl, I2, _⟩ := N
    exact ⟨.ref a, _, I2, rfl, z a d na nd ne⟩⟩
theorem pe_mkvK (M : MkEK X.prog X.w X.K X.mg X.base x g C fI) (hr : Rm k X.A) (hkw : PK X kws tk) (hk : 2 ≤ k := by omega) (hg : Gl X x := by rfl) (hdb : (x == ("__debug__" : Str)) = false := by decide)
    (hall : (backToKw pos (keywordEach kws X.env)).all (·.1.isSome) = true := by rfl) (hks : (backToKw pos (keywordEach kws X.env)).filterMap (·.1) = [g] := by rfl)
    (hpl : ((backTo pos (starEach [] X.env)).any (·.1) || (backToKw pos (keywordEach kws X.env)).any (·.1.isNone)) = false := by rfl) : PE X (.Call (.Name x p) [] kws pos) (tMkW C g tk) :=
  ⟨fun pins s σ H Q I h => call_newK M (hr.rm.mono hk) hkw hg hdb hall hks hpl I h fun y H1 a s' z N => by
    obtain ⟨na, d, H2, nd, ne, rfl, I2, _⟩ := N
    exact ⟨.ref a, _, I2, rfl, z a d na nd ne⟩⟩
theorem NewE.mkN {pins : List (Addr × Obj)} {σ : L2.St} {H1 : Hp} {y : V} {a : Addr} {s' : Shared} {Q : XK} (M : ErrC X.K X.mg x g C fI) (N : NewE X pins σ H1 C g y a s') (z : ∀ d, H1 d = none → Q (.ref C) (some d) (upd H1 d (.xd [(g, y)]))) : L2N.MkP X pins σ Q (.ref a) s' := by
  obtain ⟨na, d, H2, nd, ne, rfl, I2, t0, G, J, kG, ge, hoe, nz⟩ := N
  exact ⟨a, _, _, _, _, .ref C, some d, rfl, J, kG, ge, hoe, ⟨rfl, rfl, fun vs e => by cases e; rfl⟩, rfl, rfl, nz, rfl, I2.bare, raises_own M.oex.exC M.oex.tyC, z d nd⟩
/-- raise C(e), raise C(g = e), where the context is kept as None -/
theorem pmkN_err (M : MkE X.prog X.w X.K X.mg X.base x g C fI) (hr : Rm k X.A) (ha : PA X [e] ta) (hk : 2 ≤ k := by omega) (hg : Gl X x := by rfl) (hdb : (x == ("__debug__" : Str)) = false := by decide)
    (he : starEach [e] X.env = (false, eval e X.env) :: starEach [] X.env := by rfl) (hpl : (backTo pos (starEach [] X.env)).any (·.1) = false := by rfl) : L2N.PMk X (.Call (.Name x p) [e] [] pos) (tMkR C g ta) :=
  fun pins s σ H Q I h => call_new M (hr.rm.mono hk) ha hg hdb he hpl I h fun y H1 a s' z N => N.mkN M.err z
theorem pmkN_errK (M : MkEK X.prog X.w X.K X.mg X.base x g C fI) (hr : Rm k X.A) (hkw : PK X kws tk) (hk : 2 ≤ k := by omega) (hg : Gl X x := by rfl) (hdb : (x == ("__debug__" : Str)) = false := by decide)
    (hall : (backToKw pos (keywordEach kws X.env)).all (·.1.isSome) = true := by rfl) (hks : (backToKw pos (keywordEach kws X.env)).filterMap (·.1) = [g] := by rfl)
    (hpl : ((backTo pos (starEach [] X.env)).any (·.1) || (backToKw pos (keywordEach kws X.env)).any (·.1.isNone)) = false := by rfl) : L2N.PMk X (.Call (.Name x p) [] kws pos) (tMkR C g tk) :=
  fun pins s σ H Q I h => call_newK M (hr.rm.mono hk) hkw hg hdb hall hks hpl I h fun y H1 a s' z N => N.mkN M.err z
end
end VB
/-! errors as values: bare ones, their fields, isinstance, raised with keywords -/
namespace VB
open PySem PySem.Spec PyProof.Rows L2
/-- a bare error class (no __init__ of its own) -/
structure BareC (K : PySem.W.Frag) (mg : Str → Option Value) (x : Str) (C : Addr) : Prop where
  q : PySem.W.excIn K C PySem.HandSPX.veTail "ValueError.__new__" = true
  gC : mg x = some (.ref C)
  kC : PySem.W.keepIn K (.ref C) = true
  exC : PySem.W.subIn K (.ref C) (.type "BaseException") = some true
  tyC : PySem.W.typeIn K (.ref C) = some (.type "type")
section
variable {X : Cx} {x g : Str} {C fI : Addr} {p pos : Pos} {e : Expr} {ta : TA}
theorem pe_exc0 (M : BareC X.K X.mg x C) (hg : Gl X x := by rfl) (hdb : (x == ("__debug__" : Str)) = false := by decide) :
    PE X (.Call (.Name x p) [] [] pos) (fun σ H Q => ∀ a, H a = none → Q (.ref a) (upd H a (ExO (.ref C) a))) := by
  refine ⟨fun pins s σ H Q I h => ?_⟩
  refine wpAny_Call_Name_kw (ld_glob I hg M.gC ?_ hdb)
  refine PySem.W.callWith_K0 I.kIn M.kC ?_
  obtain ⟨bm, N, nm, qn, bs, hdct, sn, sub, ab, col, dd, k0, k1, k2, k3, k5, mN, hC, hN, hni, T⟩ := exc_obj I.kIn M.q
  refine wpAny_call_exc_subT F.excBase_ValueError T hC hN hni (fun h' a hm => ?_) (Nat.zero_le _)
  have hn : H a = none := I.hok.gone hm.new
  obtain ⟨t, ht, _, _⟩ := hm.there
  exact ⟨.ref a, upd H a (ExO (.ref C) a), I.laidN hm.keeps hm.new hn (exO_ok ht ⟨rfl, rfl⟩ rfl rfl rfl (show 4 < 6 by decide)), rfl, h a hn⟩
/-- raise C() of a bare class, where the context is kept as None -/
theorem pmkN_exc0 (M : BareC X.K X.mg x C) (hg : Gl X x := by rfl) (hdb : (x == ("__debug__" : Str)) = false := by decide) :
    L2N.PMk X (.Call (.Name x p) [] [] pos) (fun _ H Q => Q (.ref C) none H) := by
  intro pins s σ H Q I h
  refine wpAny_Call_Name_kw (ld_glob I hg M.gC ?_ hdb)
  refine PySem.W.callWith_K0 I.kIn M.kC ?_
  obtain ⟨bm, N, nm, qn, bs, hdct, sn, sub, ab, col, dd, k0, k1, k2, k3, k5, mN, hC, hN, hni, T⟩ := exc_obj I.kIn M.q
  exact wpAny_call_exc_subT F.excBase_ValueError T hC hN hni (fun h' e hm => L2N.mk_of I hm (raises_own M.exC M.tyC) h (I.hok.gone hm.new)) (Nat.zero_le _)
/-! ### fields and isinstance of an error that is tracked, or pinned by the context -/
/-- a caught error that is kept: all but its class, its dict is left open -/
def erO (a C : Addr) (d : Option Addr) : HO := .ext fun h => ∃ (oe : Obj) (vs : Array Value), h.get? a = some oe ∧ Zc (.ref C) d oe ∧ oe.data = .fields vs
/-- an error of the class at C stands at a, its dict (none | at d) -/
def ErrAt (H : Hp) (a C : Addr) (d : Option Addr) : Prop := H a = some (exo a C d) ∨ H a = some (erO a C d) ∨ (d = none ∧ H a = some (ExO (.ref C) a))
def FldAt (H : Hp) (d : Addr) (fs : List (Str × V)) : Prop := H d = some (exd d fs) ∨ H d = some (.xd fs)
theorem ErrAt.ex {H H' : Hp} {a C : Addr} {d : Option Addr} (h : ErrAt H a C d) (e : Evl.Ex H H') : ErrAt H' a C d := by
  rcases h with h | h | ⟨h1, h⟩
  · exact .inl (e _ _ h)
  · exact .inr (.inl (e _ _ h))
  · exact .inr (.inr ⟨h1, e _ _ h⟩)
theorem FldAt.ex {H H' : Hp} {d : Addr} {fs : List (Str × V)} (h : FldAt H d fs) (e : Evl.Ex H H') : FldAt H' d fs := h.imp (e _ _) (e _ _)
theorem ErrAt.get {P : Program} {w : World} {H : Hp} {h : Heap} {a C : Addr} {d : Option Addr} (e : ErrAt H a C d) (hok : HOk P w H h) : ∃ (oe : Obj) (vs : Array Value), h.get? a = some oe ∧ Zc (.ref C) d oe ∧ oe.data = .fields vs := by
  rcases e with e | e | ⟨rfl, e⟩
  · obtain ⟨t1, z⟩ := exo_at hok e
    exact ⟨_, _, z, ⟨rfl, rfl⟩, rfl⟩
  · obtain ⟨z, _⟩ := hok a _ e
    exact z
  · obtain ⟨⟨oe, vs, z, zc, zd, _⟩, _⟩ := hok a _ e
    exact ⟨oe, vs, z, zc, zd⟩
theorem FldAt.get {P : Program} {w : World} {H : Hp} {h : Heap} {d : Addr} {fs : List (Str × V)} (e : FldAt H d fs) (hok : HOk P w H h) : ∃ mA, h.Ns1 d mA ∧ ∀ f, RelO (fs.lookup f) (mA f) := by
  rcases e with e | e
  · exact exd_at hok e
  · exact hok d _ e
/-- an error of the class at C: tracked, or one of the context's pins -/
def ErrP (pn : List (Addr × Obj)) (H : Hp) (a C : Addr) (d : Option Addr) : Prop := ErrAt H a C d ∨ ∃ (oe : Obj) (vs : Array Value), (a, oe) ∈ pn ∧ Zc (.ref C) d oe ∧ oe.data = .fields vs
theorem ErrP.ex {pn : List (Addr × Obj)} {H H' : Hp} {a C : Addr} {d : Option Addr} (h : ErrP pn H a C d) (e : Evl.Ex H H') : ErrP pn H' a C d := h.imp (fun z => z.ex e) fun z => z
theorem ErrP.get {X : Cx} {pins : List (Addr × Obj)} {σ : L2.St} {H : Hp} {s : Shared} {a C : Addr} {d : Option Addr} (e : ErrP X.pn H a C d) (I : Inv X pins σ H s) : ∃ (oe : Obj) (vs : Array Value), s.heap.get? a = some oe ∧ Zc (.ref C) d oe ∧ oe.data = .fields vs := by
  rcases e with e | ⟨oe, vs, hp, z, hd⟩
  · exact e.get I.hok
  · exact ⟨oe, vs, (I.pin (a, oe) (List.mem_append_left _ hp)).1, z, hd⟩
/-- e.f, e a tracked error -/
def tEf (K : PySem.W.Frag) (pn : List (Addr × Obj)) (f : Str) (te : TE) : TE := fun σ H Q => te σ H fun x H1 => ∃ (a C d : Addr) (fs : List (Str × V)) (v : V), x = .ref a ∧ XfC K C ∧ PySem.W.findIn K (.ref C) f = some none ∧ ErrP pn H1 a C (some d) ∧ FldAt H1 d fs ∧ fs.lookup f = some v ∧ Q v H1
theorem pe_ef {te : TE} {n : Str} (he : PE X e te) (hb : attributeBase e n X.env (eval e X.env) = eval e X.env := by rfl) : PE X (.Attribute e n pos) (tEf X.K X.pn n te) := by
  refine ⟨fun pins s σ H Q I h => ?_⟩
  refine attr_of hb (thn (he.run pins s σ H _ I h) fun u s1 hh => ?_)
  obtain ⟨x, H1, I1, rx, a, C, d, fs, v, ex, T, hno, ea, ed, l, q⟩ := hh
  subst ex
  obtain rfl : u = Value.ref a := rx
  obtain ⟨oe, vs, ha, hz, hd⟩ := ea.get I1
  obtain ⟨mA, hns, hr⟩ := ed.get I1.hok
  obtain ⟨od, ho, hl⟩ := lookIn_ns hns
  obtain ⟨u, hu, ru⟩ := RelO.some_of (v := v) (o := mA n) (by rw [← l]; exact hr n)
  have J : PySem.W.InstAt s1.heap a oe C (some od) := ⟨ha, hz.1, by unfold PySem.W.notCls; rw [hd] <;> rfl, by rw [hz.2]; exact ho⟩
  exact HandSPX.exc_get I1.kIn J T.ga T.gg T.exC (PySem.W.findObj_own T.hdC hno rfl (by rw [hl, hu])) (handed_of ru) ⟨v, H1, I1.tok _, ru, q⟩
/-- what isinstance asks of instances of the error class D -/
structure IsX (K : PySem.W.Frag) (D : Addr) : Prop where
  ha : PySem.W.findIn K (.ref D) "__class__" = some (some (.builtin "object.__class__"))
  hn : PySem.W.specialIn K (.builtin "object.__class__") "__get__" = some (some (.builtin "getset_descriptor.__get__"))
  ht : PySem.W.takesIn K (.builtin "object.__class__") = some true
  hm : PySem.W.mroIn K D (.type "object") = some true
def isXB (K : PySem.W.Frag) (D : Addr) : Bool := decide (PySem.W.findIn K (.ref D) "__class__" = some (some (.builtin "object.__class__"))) && (decide (PySem.W.specialIn K (.builtin "object.__class__") "__get__" = some (some (.builtin "getset_descriptor.__get__"))) && (decide (PySem.W.takesIn K (.builtin "object.__class__") = some true) &&
  decide (PySem.W.mroIn K D (.type "object") = some true)))
theorem isXB_ok {K : PySem.W.Frag} {D : Addr} (h : isXB K D = true) : IsX K D := by
  unfold isXB at h
  obtain ⟨h1, h⟩ := Bool.and_eq_true_iff.mp h
  obtain ⟨h2, h⟩ := Bool.and_eq_true_iff.mp h
  obtain ⟨h3, h4⟩ := Bool.and_eq_true_iff.mp h
  exact ⟨of_decide_eq_true h1, of_decide_eq_true h2, of_decide_eq_true h3, of_decide_eq_true h4⟩
/-- isinstance(e, c), e a tracked error -/
def rIsX (K : PySem.W.Frag) (pn : List (Addr × Obj)) : List V → Hp → VK → Prop := fun xs H Q => ∃ (a D : Addr) (d : Option Addr) (c : V) (cv : Value) (b : Bool), xs = [.ref a, c] ∧ XfC K D ∧ IsX K D ∧ ErrP pn H a D d ∧ (∀ dd, d = some dd → ∃ fs, FldAt H dd fs) ∧ (∀ u, RelV c u → u = cv) ∧ PySem.W.kitOne K (.ref D) cv = some b ∧ Q (.bl b) H
theorem call_isX : CallR X (.builtin "isinstance") (rIsX X.K X.pn) := by
  intro pins s σ H xs us Q I r h
  obtain ⟨a, D, d, c, cv, b, rfl, T, C, ea, ed, hcv, kit, q⟩ := h
  cases r with
  | cons rx rr =>
    cases rr with
    | cons rt rr =>
      cases rr
      cases rx
      have ec := hcv _ rt
      subst ec
      obtain ⟨oe, vs, ha, hz, hd⟩ := ea.get I
      have hcl : (PySem.W.clsIn X.K D).isSome = true := by
        obtain ⟨cd, hc, _⟩ := PySem.W.any_some T.hdC
        rw [hc]
        rfl
      have J : ∃ od, PySem.W.InstAt s.heap a oe D od := by
        cases d with
        | none => exact ⟨none, ha, hz.1, by unfold PySem.W.notCls; rw [hd] <;> rfl, by rw [hz.2]; trivial⟩
        | some dd =>
          obtain ⟨fs, ef⟩ := ed dd rfl
          obtain ⟨mA, hns, hr⟩ := ef.get I.hok
          obtain ⟨od, ho, hl⟩ := lookIn_ns hns
          exact ⟨some od, ha, hz.1, by unfold PySem.W.notCls; rw [hd] <;> rfl, by rw [hz.2]; exact ho⟩
      obtain ⟨od, J⟩ := J
      exact PySem.W.kia_one (PySem.W.kitx_exc hcl T.ga T.gg T.exC C.ha C.hn C.ht C.hm) I.kIn J kit (fun z => nomatch z) fun tk => ⟨.bl b, H, I.kept (t' := tk) fun _ _ z => z, rfl, q⟩
end
end VB
/-! what is shown stays when the heap grows, and when a list of it grows -/
namespace VB
open PySem PySem.Spec PyProof.Rows L2
mutual
theorem Shw.ex {H H' : Hp} (e : Evl.Ex H H') : ∀ {y : V} {t : Str} {bs : List Addr} {d : Nat}, Shw H y t bs d → Shw H' y t bs d
  | _, _, _, _, .flat x => .flat x
  | _, _, _, _, .dct h p => .dct (e _ _ h) p
  | _, _, _, _, .lst0 h => .lst0 (e _ _ h)
  | _, _, _, _, .lst h n s m => .lst (e _ _ h) n (ShwAll.ex e s) m
  | _, _, _, _, .tup h s m => .tup (e _ _ h) (ShwAll.ex e s) m
theorem ShwAll.ex {H H' : Hp} (e : Evl.Ex H H') : ∀ {ys : List V} {ts : List Str} {bs : List Addr} {d : Nat}, ShwAll H ys ts bs d → ShwAll H' ys ts bs d
  | _, _, _, _, .nil => .nil
  | _, _, _, _, .cons s b l t => .cons (Shw.ex e s) b l (ShwAll.ex e t)
end
mutual
theorem Shw.mut {H : Hp} {a : Addr} {o u : HO} (ha : H a = some o) (n0 : o ≠ .lst []) : ∀ {y : V} {t : Str} {bs : List Addr} {d : Nat}, Shw H y t bs d → a ∉ bs → Shw (upd H a u) y t bs d
  | _, _, _, _, .flat x, _ => .flat x
  | _, _, _, _, .dct h p, m => .dct (by rw [upd_ne (fun z => m (by simp [z]))]; exact h) p
  | _, _, _, _, .lst0 h, m => .lst0 (by rw [upd_ne (fun z => by rw [z, ha] at h; exact n0 (Option.some.inj h))]; exact h)
  | _, _, _, _, .lst h n s k, m => .lst (by rw [upd_ne (fun z => m (by simp [z]))]; exact h) n (ShwAll.mut ha n0 s (fun z => m (by simp [z]))) k
  | _, _, _, _, .tup h s k, m => .tup (by rw [upd_ne (fun z => m (by simp [z]))]; exact h) (ShwAll.mut ha n0 s (fun z => m (by simp [z]))) k
theorem ShwAll.mut {H : Hp} {a : Addr} {o u : HO} (ha : H a = some o) (n0 : o ≠ .lst []) : ∀ {ys : List V} {ts : List Str} {bs : List Addr} {d : Nat}, ShwAll H ys ts bs d → a ∉ bs → ShwAll (upd H a u) ys ts bs d
  | _, _, _, _, .nil, _ => .nil
  | _, _, _, _, .cons s b l t, m => .cons (Shw.mut ha n0 s (fun z => m (b _ z))) b l (ShwAll.mut ha n0 t m)
end
theorem ShwAll.app {H : Hp} {bs : List Addr} {d : Nat} : ∀ {xs ys : List V} {ts us : List Str}, ShwAll H xs ts bs d → ShwAll H ys us bs d → ShwAll H (xs ++ ys) (ts ++ us) bs d
  | _, _, _, _, .nil, h => h
  | _, _, _, _, .cons s b l t, h => .cons s b l (ShwAll.app t h)
theorem ShwAll.flat {H : Hp} {bs : List Addr} {d : Nat} : ∀ {xs : List V} {ts : List Str}, Paired Tx xs ts → ShwAll H xs ts bs d
  | _, _, .nil => .nil
  | _, _, .cons s t => .cons (.flat s) (fun _ z => nomatch z) (Nat.zero_le _) (ShwAll.flat t)
abbrev txI (i : Int) : Str := toString i
theorem ShwAll.iv {H : Hp} {bs : List Addr} {d : Nat} : ∀ {xs : List Int}, (∀ x ∈ xs, x.natAbs < 10 ^ 4300) → ShwAll H (IV xs) (xs.map txI) bs d
  | [], _ => .nil
  | x :: xs, h => .cons (.flat (.int x (h x (List.mem_cons_self ..)))) (fun _ z => nomatch z) (Nat.zero_le _) (ShwAll.iv fun y hy => h y (List.mem_cons_of_mem _ hy))
theorem lt_len (t : Str) (ts : List Str) : (listText (t :: ts)).length = piled (t :: ts) := by
  have h := textFrom_length_pos ts 1 (("[" : Str) ++ (if (0 : Nat) > 0 then ", " else "" : String) ++ t) (Nat.succ_pos 0)
  have hY : (textFrom 0 "[" (t :: ts)).length = (textFrom 1 (("[" : Str) ++ (if (0 : Nat) > 0 then ", " else "" : String) ++ t) ts).length := rfl
  show (textFrom 0 "[" (t :: ts) ++ "]").length = _
  have e : (("[" : Str) ++ (if (0 : Nat) > 0 then ", " else "" : String) ++ t).length = 1 + t.length := by
    rw [strLen_append, strLen_append]
    rfl
  rw [strLen_append, hY, h, e, piled_cons]
  show 1 + t.length + piled ts + 1 = _
  omega
theorem listText_len {ts : List Str} (h : ts ≠ []) : (listText ts).length = piled ts := by
  cases ts with
  | nil => exact absurd rfl h
  | cons t ts => exact lt_len t ts
theorem listText_le {b : Nat} (ts : List Str) (h : ∀ t ∈ ts, t.length ≤ b) : (listText ts).length ≤ (b + 2) * ts.length + 2 := by
  have := piled_le ts h
  by_cases z : ts = []
  · subst z
    show 2 ≤ _
    omega
  · rw [listText_len z]
    omega
theorem Shw.grow {H : Hp} {a : Addr} {ys : List V} {t : Str} {bs : List Addr} {d : Nat} (h : Shw H (.ref a) t bs d) (ha : H a = some (.lst ys)) {x : V} {u : Str} (hx : Tx x u) :
    ∃ t' bs' d', Shw (upd H a (.lst (ys ++ [x]))) (.ref a) t' bs' d' ∧ d' ≤ d + 1 ∧ t'.length ≤ t.length + u.length + 2 := by
  cases h with
  | flat tx => cases tx
  | dct hb => rw [ha] at hb; cases hb
  | tup hb => rw [ha] at hb; cases hb
  | lst0 hb =>
    rw [ha] at hb
    cases hb
    refine ⟨listText [u], [a], 1, .lst upd_same (by simp) (.cons (.flat hx) (fun _ z => by cases z) (Nat.le_refl 0) .nil) (fun z => by cases z), by omega, ?_⟩
    have := listText_le (b := u.length) [u] (by simp)
    simp only [List.length_cons, List.length_nil] at this
    have l2 : ("[]" : Str).length = 2 := by decide
    omega
  | @lst _ zs ts bs d hb n s m =>
    rw [ha] at hb
    cases hb
    refine ⟨listText (ts ++ [u]), a :: bs, d + 1, .lst upd_same (by simp) (ShwAll.app (ShwAll.mut ha (fun z => n (HO.lst.inj z)) s m) (.cons (.flat hx) (fun _ z => by cases z) (Nat.zero_le _) .nil)) m, by omega, ?_⟩
    have ne : ts ++ [u] ≠ [] := by simp
    rw [listText_len ne, piled_append, piled_cons, piled_nil]
    by_cases z : ts = []
    · subst z
      show 0 + _ ≤ _
      omega
    · rw [listText_len z]
      omega
end VB
namespace VB
open PySem PySem.Spec PyProof.Rows L2
theorem sum_le {b : Nat} : ∀ ts : List Str, (∀ t ∈ ts, t.length ≤ b) → (ts.map (·.length)).sum ≤ b * ts.length
  | [], _ => Nat.zero_le _
  | t :: ts, h => by
    have a := h t (List.mem_cons_self ..)
    have c := sum_le ts fun u hu => h u (List.mem_cons_of_mem _ hu)
    rw [List.map_cons, List.sum_cons, List.length_cons, Nat.mul_succ]
    omega
theorem tupleText_le {b : Nat} (ts : List Str) (h : ∀ t ∈ ts, t.length ≤ b) : (tupleText ts).length ≤ (b + 2) * ts.length + 3 := by
  have := tupleText_len_le ts
  have s := sum_le ts h
  rw [Nat.add_mul]
  omega
theorem Sv.mut {K : PySem.W.Frag} {H : Hp} {a b : Addr} {u : HO} {t : Bool} {xs : List V} (S : Sv t K H b xs) (n : b ≠ a) : Sv t K (upd H a u) b xs := by
  cases t with
  | false =>
    rcases S with (h | ⟨o, h⟩) | h
    · exact .inl (.inl (by rw [upd_ne n]; exact h))
    · exact .inl (.inr ⟨o, by rw [upd_ne n]; exact h⟩)
    · exact .inr h
  | true =>
    rcases S with (h | ⟨o, h⟩) | h
    · exact .inl (.inl (by rw [upd_ne n]; exact h))
    · exact .inl (.inr ⟨o, by rw [upd_ne n]; exact h⟩)
    · exact .inr h
end VB
/-! repr of a dict whose values are shown lists too -/
namespace VB
open PySem PySem.Spec PyProof.Rows L2
def TxN (H : Hp) (as : List Addr) (d : Nat) (p : Key × V) (x : Str) : Prop := ∃ a b : Str, Tx (kV p.1) a ∧ Shw H p.2 b as d ∧ x = a ++ ": " ++ b
theorem entriesN {P : Program} {w : World} {H : Hp} {h₀ : Heap} {as : List Addr} {d : Nat} (hok : HOk P w H h₀) (hd : h₀.NoDigits) : ∀ {kvs : List (Key × V)} {vs : List (Key × Value)} {es : List DictEntry} {ps : List Str},
    L2.KV kvs vs → Pairs (mixKind P w) es vs → Paired (TxN H as d) kvs ps → ReprEntriesK P w as h₀ d es ps
  | _, _, _, _, .nil, .nil, .nil => .nil
  | _, _, _, _, .cons r rs, .cons hk hv ts, .cons te tt => by
    obtain ⟨a, b, ta, tb, rfl⟩ := te
    obtain ⟨e1, rv⟩ := r
    refine .cons (((reprK_tx hd (key_rel ?_) ta).more (fun b z => nomatch z)).level_le (Nat.zero_le _)) (shw_K hok hd tb (hv ▸ rv)) (entriesN hok hd rs ts tt)
    rw [e1]
    exact hk
section
variable {X : Cx} {k : Nat}
def rReprN : List V → Hp → VK → Prop := fun xs H Q => ∃ (a : Addr) (kvs : List (Key × V)) (ps : List Str) (as : List Addr) (d : Nat), xs = [.ref a] ∧ H a = some (.dK kvs) ∧ Paired (TxN H as d) kvs ps ∧ a ∉ as ∧ d ≤ 50 ∧ (dictText ps).length ≤ sizeLine ∧ Q (.str (dictText ps)) H
theorem call_reprN (hr : Rm k X.A) (hd : X.base.NoDigits) : CallR X (.builtin "repr") rReprN := by
  intro pins s σ H xs us Q I r h
  obtain ⟨a, kvs, ps, as, d, rfl, ha, pt, na, h50, hz, q⟩ := h
  obtain ⟨u, rfl, ru⟩ := vals1 r
  cases (show u = Value.ref a from ru)
  have hx : ObjOk X.prog X.w H s.heap a (.dK kvs) := I.hok a _ ha
  obtain ⟨_, hsys, vs, hkv, o, es, ep, ho, hex, hda, _, hp, _⟩ := hx
  have hu := hr.rm.un
  have hD : s.heap.NoDigits := hd.keeps I.bk
  have hc : o.cls = .type "dict" := hex.1
  refine call_repr_slot (T := "dict") (by omega) ⟨o, ho, hc⟩ F.slot_dict_repr ?_
  refine call_dict_reprK ho hc hda hsys na (entriesN I.hok hD hkv hp pt) (A := X.A.in1) (g := []) hr.gd (fun b _ => Clear.nil b) (by show X.A.units + 1 + (d + 1) < cLine; omega) (fun _ _ z => z) (fun h' u' tk kp => ⟨_, _, rfl, ?_⟩) hz
  exact ⟨.str (dictText ps), H, I.un (Un.kept kp) (I.hok.kept kp), ⟨u', rfl⟩, q⟩
end
/-- repr is told of v, with the text t -/
def Rp (H : Hp) (v : V) (t : Str) : Prop := t.length ≤ 10000 ∧ ((∃ bs d, Shw H v t bs d ∧ d ≤ 50) ∨ ∃ (a : Addr) (kvs : List (Key × V)) (ps : List Str) (as : List Addr) (d : Nat), v = .ref a ∧ H a = some (.dK kvs) ∧ Paired (TxN H as d) kvs ps ∧ a ∉ as ∧ d ≤ 50 ∧ t = dictText ps)
def rReprP : List V → Hp → VK → Prop := fun xs H Q => ∃ (v : V) (t : Str), xs = [v] ∧ Rp H v t ∧ Q (.str t) H
theorem call_reprP {X : Cx} {k : Nat} (hr : Rm k X.A) (hd : X.base.NoDigits) : CallR X (.builtin "repr") rReprP := by
  intro pins s σ H xs us Q I r h
  obtain ⟨v, t, rfl, ⟨l, h⟩, q⟩ := h
  have sz : (10000 : Nat) ≤ sizeLine := by decide
  rcases h with ⟨bs, d, s1, d1⟩ | ⟨a, kvs, ps, as, d, rfl, ha, pt, na, h50, rfl⟩
  · exact call_reprS hr hd pins s σ H _ us Q I r ⟨v, t, bs, d, rfl, s1, by omega, by omega, q⟩
  · exact call_reprN hr hd pins s σ H _ us Q I r ⟨a, kvs, ps, as, d, rfl, ha, pt, na, h50, by omega, q⟩
theorem paired_mono {α β : Type} {R S : α → β → Prop} (h : ∀ a b, R a b → S a b) : ∀ {xs : List α} {ys : List β}, Paired R xs ys → Paired S xs ys
  | _, _, .nil => .nil
  | _, _, .cons r t => .cons (h _ _ r) (paired_mono h t)
theorem Rp.ex {H H' : Hp} {v : V} {t : Str} (h : Rp H v t) (e : Evl.Ex H H') : Rp H' v t := by
  obtain ⟨l, h⟩ := h
  refine ⟨l, ?_⟩
  rcases h with ⟨bs, d, s1, d1⟩ | ⟨a, kvs, ps, as, d, rfl, ha, pt, na, h50, rfl⟩
  · exact .inl ⟨bs, d, s1.ex e, d1⟩
  · exact .inr ⟨a, kvs, ps, as, d, rfl, e _ _ ha, paired_mono (fun p x ⟨a, b, h1, h2, h3⟩ => ⟨a, b, h1, h2.ex e, h3⟩) pt, na, h50, rfl⟩
end VB
/-! defs called within an except suite, which know the handled error p -/
namespace VB
open PySem PySem.Spec PyProof.Rows L2
abbrev PO := Addr × Obj
structure RmH (k : Nat) (A : Around) (p : PO) : Prop where
  rm : L2H.RoomH k A
  gd : A.guards = some []
  ht : L2H.Hot1 A p
theorem RmH.le {j k : Nat} {A : Around} {p : PO} (r : RmH k A p) (h : j ≤ k := by omega) : RmH j A p := ⟨r.rm.mono h, r.gd, r.ht⟩
theorem RmH.down {k : Nat} {A : Around} {p : PO} (r : RmH (k + 1) A p) (e : Env) : RmH k (A.deeper e) p := ⟨r.rm.deeper e, r.gd, r.ht⟩
theorem Rm.hot {k : Nat} {A : Around} {a : Addr} {oe : Obj} {vs : Array Value} (r : Rm k A) (hd : oe.data = .fields vs) (h2 : vs[2]? = some .none) : RmH k (A.mark (some (.ref a))) (a, oe) := ⟨⟨r.rm.dp, r.rm.un⟩, r.gd, rfl, vs, hd, h2⟩
section
variable {P : Program} {w : World} {K : PySem.W.Frag} {mg : Str → Option Value} {base : Heap} {CX : CXT} {k : Nat}
structure Fh (P : Program) (w : World) (K : PySem.W.Frag) (mg : Str → Option Value) (base : Heap) (CX : CXT) (p : PO) (k : Nat) (f : Addr) (fd : FuncData) (ps : List Str) (sp : Sp) : Prop where
  cnt : ∀ vs H Q E, sp vs H Q E → vs.length = ps.length
  go : ∀ (A : Around) (outer : List Env) (s : Shared) (H : Hp) (args : Args) (us : List Value) (vs : List V) (Q : VK) (E : XK), RmH k A p → L2H.PinOk outer H s p → Env0 P w K mg base A outer s H →
    BindsTo s fd args (ps.zip us) → Vals vs us → sp vs H Q E → codeAny (model P w) A (.call (.ref f) args) (CR CX outer P w H s Q E) s
/-- a def by its body -/
theorem fh_of {p : PO} {x qual : Str} {params : Arguments} {body : List Stmt} {scope : Scope} {dvs : List V} {kws : List (Str × V)} {f : Addr} {fd : FuncData} {N ps : List Str} {sp : Sp} (F : FunD K x qual params body scope dvs kws f fd) (S : FnScope N ps scope)
    (cnt : ∀ vs H Q E, sp vs H Q E → vs.length = ps.length)
    (hb : ∀ (cdv : Value) (A : Around) (outer : List Env) (s : Shared) (H : Hp) (vs : List V) (Q : VK) (E : XK), RmH k (A.deeper (envOfC qual scope s.heap.objs.size f cdv)) p → sp vs H Q E →
      ∃ t, PSs (L2H.cxH CX P w K mg base N qual scope f cdv A outer s H E p) body t ∧ t { nx := fun _ H' => Q .non H', rt := Q } (start N vs) H) : Fh P w K mg base CX p (k + 1) f fd ps sp := by
  obtain ⟨oc, od, dV, kV, doc, pm, an, cdv, ct, osl, rfl, lk, hcd, _, _⟩ := F.ex
  refine ⟨cnt, ?_⟩
  intro A outer s H args us vs Q E hr pk e0 hbind hv hsp
  have kin : K.In s.heap := e0.mod.kin.keeps (fun b o e => (e0.bs b o e).1)
  have nol : s.heap.NoLimit := e0.mod.nolimit.keeps (fun b o e => (e0.bs b o e).1)
  have hk : ∀ y ∈ ps.zip us, scope.names.lookup y.1 = some .local ∨ (scope.names.lookup y.1 = some .cell ∧ ((cellsFrom (s.heap.objs.size + 1) scope.names []).lookup y.1).isSome = true) := by
    rintro ⟨n, v⟩ hy
    cases S.par n (List.of_mem_zip hy).1 with
    | inl q => exact .inl q
    | inr q => exact .inr ⟨q, PySem.W.cellsFrom_some _ _ _ (.inl q)⟩
  refine codeAny_call_function hr.rm.depth (kin _ _ lk) rfl S.co S.gen rfl (PySem.W.codeRec_of kin hcd) (hbind _ _ _ _ (wpAny_newFunctionEnv_cells S.kind hk ?_))
  intro env he s1 x
  subst he
  refine ⟨nol.keeps x.toInCall.keep, codeAny_func ?_⟩
  obtain ⟨t, ht, hq⟩ := hb cdv A outer s H vs Q E (hr.down _) hsp
  have I := L2H.inv_startH (CX := CX) (E := E) S pk e0 (cnt _ _ _ _ hsp) hv x
  refine wpAny_mono (ht.run [] s1 (start N vs) H _ I hq) ?_ (fun e s' hs => hs)
  intro fl s' hs
  cases fl with
  | ret u =>
    obtain ⟨v, σ', H', J, rv, q⟩ := hs
    exact ⟨v, H', J.os, J.bare, J.base, J.hok, rv, q⟩
  | next =>
    obtain ⟨σ', H', J, q⟩ := hs
    exact ⟨.non, H', J.os, J.bare, J.base, J.hok, rfl, q⟩
  | brk => exact (hs.choose_spec.choose_spec.2 : False).elim
  | cont => exact (hs.choose_spec.choose_spec.2 : False).elim
/-- a def of the module, told by its name; sp by the pins -/
structure CalH (P : Program) (w : World) (K : PySem.W.Frag) (mg : Str → Option Value) (base : Heap) (CX : CXT) (k : Nat) (x : Str) (ps : List Str) (sp : List PO → Sp) : Prop where
  ex : ∃ (f : Addr) (fd : FuncData), (∀ p, Fh P w K mg base CX p k f fd ps (sp [p])) ∧ mg x = some (.ref f) ∧ PySem.W.keepIn K (.ref f) = true ∧ Binds K fd ps []
end
section
variable {X : Cx} {CX : CXT} {k : Nat} {ps : List Str} {sp : List PO → Sp} {E : XK} {x : Str} {p : PO} {np pos : Pos} {e : Expr} {es : List Expr} {t : TA}
theorem pe_calH (C : CalH X.prog X.w X.K X.mg X.base CX k x ps sp) (hr : RmH k X.A p) (hx : Passes CX X E) (ha : PA X (e :: es) t) (hp : p ∈ X.pn := by exact List.mem_cons_self) (hg : Gl X x := by rfl) (hdb : (x == ("__debug__" : Str)) = false := by decide)
    (he : starEach (e :: es) X.env = (false, eval e X.env) :: starEach es X.env := by rfl) (hpl : (backTo pos (starEach es X.env)).any (·.1) = false := by rfl) :
    PE X (.Call (.Name x np) (e :: es) [] pos) (tCall (sp [p]) [] E t) := by
  obtain ⟨f, fd, F, hm, hk, hb⟩ := C.ex
  constructor
  intro pins s σ H Q I h
  refine wpAny_Call_Name_kw (ld_glob I hg hm ?_ hdb)
  refine PySem.W.callWith_K (h₀ := X.base) I.ok.mod.kin hk (thn (ha.run pos pins s σ H _ I h) ?_) he hpl
  rintro us s1 ⟨vs, H1, I1, r, q⟩
  have q : sp [p] (vs ++ []) H1 Q E := q
  rw [List.append_nil] at q
  have l : (us ++ []).length = ps.length := by
    rw [List.append_nil, ← r.length]
    exact (F p).cnt _ _ _ _ q
  have b := hb s1 us I1.kIn l
  rw [List.append_nil] at b
  obtain ⟨g1, g2, g3, g4, g5⟩ := I1.pin p (List.mem_append_left _ hp)
  have pk : L2H.PinOk X.stack H1 s1 p := ⟨g1, g2, fun hm => (List.mem_cons.mp (I1.stkSub p.1 hm)).elim g3 g4, g5⟩
  refine ⟨I1.kIn, wpAny_call (codeAny_mono ((F p).go X.A X.stack s1 H1 ⟨us, []⟩ us vs Q E hr pk I1.env0 b r q) fun r s' hq => ?_)⟩
  have z := back hx I1 hq
  cases r with
  | error e => exact z
  | ok fl => cases fl <;> exact z
end
/-! ### == and repr there -/
section
variable {X : Cx} {K : PySem.W.Frag} {p : PO} {k : Nat}
theorem u_eqH (hr : RmH k X.A p) (hK : X.K = K := by rfl) : OpR X (compareOp .Eq) (rEqU K) := by
  subst hK
  have := hr.rm.un
  exact op_eq.or (op_eqD (by omega))
end
section
variable {X : Cx} {p : PO} {k : Nat}
theorem call_reprDg (hu : X.A.units + 200 < cLine) (gd : X.A.guards = some []) (hd : X.base.NoDigits) : CallR X (.builtin "repr") rReprD := by
  intro pins s σ H xs us Q I r h
  obtain ⟨a, kvs, ps, rfl, ha, pt, hz, q⟩ := h
  obtain ⟨u, rfl, ru⟩ := vals1 r
  cases (show u = Value.ref a from ru)
  have hx : ObjOk X.prog X.w H s.heap a (.dK kvs) := I.hok a _ ha
  obtain ⟨_, hsys, vs, hkv, o, es, ep, ho, hex, hda, _, hp, _⟩ := hx
  have hD : s.heap.NoDigits := hd.keeps I.bk
  have hc : o.cls = .type "dict" := hex.1
  refine call_repr_slot (T := "dict") (by omega) ⟨o, ho, hc⟩ F.slot_dict_repr ?_
  refine call_dict_reprK (as := []) (d := 0) ho hc hda hsys (fun z => nomatch z) (entriesK hD hkv hp pt) (A := X.A.in1) (g := []) gd (fun b _ => Clear.nil b) (by show X.A.units + 1 + (0 + 1) < cLine; omega) (fun _ _ z => z) (fun h' u' tk kp => ⟨_, _, rfl, ?_⟩) hz
  exact ⟨.str (dictText ps), H, I.un (Un.kept kp) (I.hok.kept kp), ⟨u', rfl⟩, q⟩
theorem call_reprSg (hu : X.A.units + 200 < cLine) (gd : X.A.guards = some []) (hd : X.base.NoDigits) : CallR X (.builtin "repr") rReprS := by
  intro pins s σ H xs us Q I r h
  obtain ⟨y, t, bs, d, rfl, hs, h60, hz, q⟩ := h
  have hD : s.heap.NoDigits := hd.keeps I.bk
  have fin : ∀ (h' : Heap) (u' tk : Tok), (∀ b o, s.heap.get? b = some o → h'.get? b = some o) → EP X pins σ Q (.str t u') { s with heap := h', toks := tk } := fun h' u' tk kp => ⟨.str t, H, I.un (Un.kept kp) (I.hok.kept kp), ⟨u', rfl⟩, q⟩
  cases hs with
  | flat tx =>
    cases tx with
    | non => exact call_repr_non pins s σ H _ us Q I r ⟨rfl, q⟩
    | bl b => exact call_repr_bl pins s σ H _ us Q I r ⟨b, rfl, q⟩
    | int i hi => exact call_repr_big hd pins s σ H _ us Q I r ⟨i, rfl, hi, q⟩
    | str x hx => exact call_repr_str pins s σ H _ us Q I r ⟨x, rfl, hx, q⟩
  | dct ha pt => exact call_reprDg hu gd hd pins s σ H _ us Q I r ⟨_, _, _, rfl, ha, pt, hz, q⟩
  | @lst0 a ha =>
    obtain ⟨u, rfl, ru⟩ := vals1 r
    cases (show u = Value.ref a from ru)
    have hx : ObjOk X.prog X.w H s.heap a (.lst _) := I.hok a _ ha
    obtain ⟨_, its, n, rv, ho⟩ := hx
    cases rv
    exact call_repr_slot (T := "list") (by omega) ⟨_, ho, rfl⟩ F.slot_list_repr.toG (call_list_repr_empty ⟨_, ho, rfl⟩ ho rfl ⟨_, _, rfl, fin s.heap _ _ fun _ _ z => z⟩)
  | @lst a ys ts bs d ha ne hs na =>
    obtain ⟨u, rfl, ru⟩ := vals1 r
    cases (show u = Value.ref a from ru)
    have hx : ObjOk X.prog X.w H s.heap a (.lst _) := I.hok a _ ha
    obtain ⟨_, its, n, rv, ho⟩ := hx
    have kk := shw_all (P := X.prog) (w := X.w) I.hok hD hs rv
    cases its with
    | nil => cases rv; exact absurd rfl ne
    | cons x l =>
      refine call_repr_slot (T := "list") (by omega) ⟨_, ho, rfl⟩ F.slot_list_repr.toG ?_
      exact call_list_reprK ho rfl rfl na (by simpa using kk.length_eq) (fun i y hy => all_at kk (by simpa using hy)) (A := X.A.in1) (g := []) gd (fun b _ => Clear.nil b) (by show X.A.units + 1 + (d + 1) < cLine; omega) (fun _ _ z => z) (fun h' u' tk kp => ⟨_, _, rfl, fin h' u' tk kp⟩) hz
  | @tup a ys ts bs d ha hs na =>
    obtain ⟨u, rfl, ru⟩ := vals1 r
    cases (show u = Value.ref a from ru)
    have hx : ObjOk X.prog X.w H s.heap a (.tup _) := I.hok a _ ha
    obtain ⟨_, its, rv, o, e2, hc, n2, hdt⟩ := hx
    have kk := shw_all (P := X.prog) (w := X.w) I.hok hD hs rv
    refine call_repr_slot (T := "tuple") (by omega) ⟨o, e2, hc⟩ F.slot_tuple_repr ?_
    exact call_tuple_reprK e2 hc hdt na (by simpa using kk) (A := X.A.in1) (g := []) gd (fun b _ => Clear.nil b) (by show X.A.units + 1 + (d + 1) < cLine; omega) (fun _ _ z => z) (fun h' u' tk kp => ⟨_, _, rfl, fin h' u' tk kp⟩) hz
theorem call_reprNg (hu : X.A.units + 200 < cLine) (gd : X.A.guards = some []) (hd : X.base.NoDigits) : CallR X (.builtin "repr") rReprN := by
  intro pins s σ H xs us Q I r h
  obtain ⟨a, kvs, ps, as, d, rfl, ha, pt, na, h50, hz, q⟩ := h
  obtain ⟨u, rfl, ru⟩ := vals1 r
  cases (show u = Value.ref a from ru)
  have hx : ObjOk X.prog X.w H s.heap a (.dK kvs) := I.hok a _ ha
  obtain ⟨_, hsys, vs, hkv, o, es, ep, ho, hex, hda, _, hp, _⟩ := hx
  have hD : s.heap.NoDigits := hd.keeps I.bk
  have hc : o.cls = .type "dict" := hex.1
  refine call_repr_slot (T := "dict") (by omega) ⟨o, ho, hc⟩ F.slot_dict_repr ?_
  refine call_dict_reprK ho hc hda hsys na (entriesN I.hok hD hkv hp pt) (A := X.A.in1) (g := []) gd (fun b _ => Clear.nil b) (by show X.A.units + 1 + (d + 1) < cLine; omega) (fun _ _ z => z) (fun h' u' tk kp => ⟨_, _, rfl, ?_⟩) hz
  exact ⟨.str (dictText ps), H, I.un (Un.kept kp) (I.hok.kept kp), ⟨u', rfl⟩, q⟩
theorem call_reprPg (hu : X.A.units + 200 < cLine) (gd : X.A.guards = some []) (hd : X.base.NoDigits) : CallR X (.builtin "repr") rReprP := by
  intro pins s σ H xs us Q I r h
  obtain ⟨v, t, rfl, ⟨l, h⟩, q⟩ := h
  have sz : (10000 : Nat) ≤ sizeLine := by decide
  rcases h with ⟨bs, d, s1, d1⟩ | ⟨a, kvs, ps, as, d, rfl, ha, pt, na, h50, rfl⟩
  · exact call_reprSg hu gd hd pins s σ H _ us Q I r ⟨v, t, bs, d, rfl, s1, by omega, by omega, q⟩
  · exact call_reprNg hu gd hd pins s σ H _ us Q I r ⟨a, kvs, ps, as, d, rfl, ha, pt, na, h50, by omega, q⟩
theorem call_reprPH (hr : RmH k X.A p) (hd : X.base.NoDigits) : CallR X (.builtin "repr") rReprP := call_reprPg (by have := hr.rm.un; omega) hr.gd hd
end
/-! ### a comprehension there -/
/-- the block's context -/
abbrev blkH (X : Cx) (p : PO) (s : Shared) (H : Hp) (scope : Scope) (cenv : Env) (fp : List Addr) : Cx := { X.blk s H scope cenv fp with pn := [p] }
section
variable {X : Cx} {p : PO} {k : Nat}
theorem blk_hot {s3 s : Shared} {H3 H : Hp} {scope : Scope} {cenv : Env} {fp : List Addr} {σ : L2.St} (I : Inv (X.blk s3 H3 scope cenv fp) [] σ H s) (h : s.heap.get? p.1 = some p.2 ∧ H p.1 = none ∧ p.1 ≠ cenv.locals ∧ p.1 ∉ frs X.stack ∧ ∀ v, p.2.data ≠ .cell v) : Inv (blkH X p s3 H3 scope cenv fp) [] σ H s :=
  (I.pins_of (pins' := [p]) fun q hq => by
    obtain rfl : q = p := by simpa using hq
    exact h).toTry _
theorem pe_lcH {elt tg iter : Expr} {ifs : List Expr} {scope : Scope} {own : List (Str × Nat)} {pos : Pos} {wi : TI} {g : TG} {tt : TT} {te : TE} (hr : RmH k X.A p) (hN : X.N.Nodup) (hi : L2H.PIH X tg iter wi) (ok : BlkOk X.N X.env.scope scope own)
    (hg : ∀ (s : Shared) (H : Hp) (C : Addr) (cl : List (Str × Addr)) (fp : List Addr), PG (blkH X p s H scope (compEnvC scope cl C X.env) fp) tg g)
    (ht : ∀ (s : Shared) (H : Hp) (C : Addr) (cl : List (Str × Addr)) (fp : List Addr), PTs (blkH X p s H scope (compEnvC scope cl C X.env) fp) ifs tt)
    (he : ∀ (s : Shared) (H : Hp) (C : Addr) (cl : List (Str × Addr)) (fp : List Addr), PE (blkH X p s H scope (compEnvC scope cl C X.env) fp) elt te)
    (hp : p ∈ X.pn := by exact List.mem_cons_self) (hs : ∀ x, foldedSetIterable iter X.env x = pure x := by intro _; rfl) :
    PE X (.ListComp elt [⟨tg, iter, ifs, 0⟩] scope pos) (tLc wi g tt te (own.map (·.2))) := by
  refine ⟨fun pins s σ H Q I h => ?_⟩
  rw [eval_ListComp]
  have cap : ∀ y ∈ scope.names, y.2 = .free → ∃ c, X.env.cells.lookup y.1 = some c := fun y hy e => I.ok.has _ (ok.free y hy e)
  refine wpAny_comprehension_free (use := none) rfl hs (closure_ok cap) ok.kind (fun y hy e => by rw [ok.uniq y hy, e]) (thn (hi.run pins s σ H _ I h) fun v1 s1 h1 => thn h1 fun v2 s2 h2 => ?_)
  obtain ⟨it, fp, tn, J, G, rfl, I2, T, t2, f2, q⟩ := h2
  refine wpAny_newObj_type (newEnv_comp ?_) (Nat.zero_le _)
  -- the list that grows
  obtain ⟨h2, g2, d2, k2, o2⟩ := s2
  have nD : G h2.objs.size = none := I2.hok.fresh (Nat.le_refl _)
  obtain ⟨W, ⟨m0, w0⟩, turn⟩ := q _ nD
  have up : ∀ b o, h2.get? b = some o → (h2.push { cls := .type "list", data := .seq ([] : List Value).toArray }).get? b = some o := fun b o e => Heap.get?_push_of_some _ e
  have I3 : Inv X pins σ (upd G h2.objs.size (.lst [])) ⟨h2.push { cls := .type "list", data := .seq ([] : List Value).toArray }, g2, d2, k2, o2⟩ :=
    I2.laid (t' := k2) up (Nat.le_refl _) ⟨Nat.zero_le _, [], 0, .nil, Heap.get?_push_size _ rfl⟩
  have lt : ∀ b ∈ fp, b < h2.objs.size := fun b hb => Heap.lt_size (T.obj _ _ t2 b hb).choose_spec.1
  have f3 : ∀ b ∈ fp, FpOk X pins (upd G h2.objs.size (.lst [])) b ∧ b < (h2.push { cls := .type "list", data := .seq ([] : List Value).toArray }).objs.size := fun b hb =>
    ⟨⟨by rw [upd_ne (Nat.ne_of_lt (lt b hb))]; exact (f2 b hb).1, (f2 b hb).2⟩, by rw [Heap.size_push]; exact Nat.lt_succ_of_lt (lt b hb)⟩
  have t3 := T.keep _ _ _ t2 fun b _ o e => up b o e
  generalize h2.objs.size = D at nD w0 turn I3 f3 ⊢
  generalize upd G D (.lst []) = G3 at w0 I3 f3
  generalize h2.push { cls := .type "list", data := .seq ([] : List Value).toArray } = h3 at up I3 f3 t3 ⊢
  -- the block
  have I4 := block_start I3 ok hN f3
  have P3 := I3.pin p (List.mem_append_left _ hp)
  have I4 := blk_hot (p := p) I4 ⟨pushCells_keeps _ _ _ _ (Heap.get?_push_of_some _ P3.1), P3.2.1, Nat.ne_of_lt (Heap.lt_size P3.1), fun hm => (List.mem_cons.mp (I3.stkSub p.1 hm)).elim P3.2.2.1 P3.2.2.2.1, P3.2.2.2.2⟩
  have t4 := T.keep _ _ _ t3 fun b _ o e => pushCells_keeps scope.names _ _ _ (Heap.get?_push_of_some { cls := .type "dict", data := .dict #[] } e)
  have pg := hg ⟨h3, g2, d2, k2, o2⟩ G3 h3.objs.size (cellsFrom (h3.objs.size + 1) scope.names (cloFrom X.env.cells scope.names [])) fp
  have pt := ht ⟨h3, g2, d2, k2, o2⟩ G3 h3.objs.size (cellsFrom (h3.objs.size + 1) scope.names (cloFrom X.env.cells scope.names [])) fp
  have pe := he ⟨h3, g2, d2, k2, o2⟩ G3 h3.objs.size (cellsFrom (h3.objs.size + 1) scope.names (cloFrom X.env.cells scope.names [])) fp
  show codeAny _ _ (.compStart (.ListComp elt [⟨tg, iter, ifs, 0⟩] scope pos) 0 (.ref it) (.ref D) (compEnvC scope (cellsFrom (h3.objs.size + 1) scope.names (cloFrom X.env.cells scope.names [])) h3.objs.size X.env)) (compPost (model X.prog X.w) X.A X.xe none _ (.ref D) h3.objs.size) _
  generalize hce : compEnvC scope (cellsFrom (h3.objs.size + 1) scope.names (cloFrom X.env.cells scope.names [])) h3.objs.size X.env = ce at I4 pg pt pe ⊢
  have cl : ce.locals = h3.objs.size := by rw [← hce]; rfl
  have hot : L2H.HotC (blkH X p ⟨h3, g2, d2, k2, o2⟩ G3 scope ce fp) := ⟨p, hr.ht, List.mem_cons_self⟩
  have own_ : ∀ {σ' : L2.St} {H' : Hp} {s' : Shared}, Inv (blkH X p ⟨h3, g2, d2, k2, o2⟩ G3 scope ce fp) [] σ' H' s' → (∀ b ∈ fp, H' b = none) → ∀ b ∈ fp, FpOk (blkH X p ⟨h3, g2, d2, k2, o2⟩ G3 scope ce fp) [] H' b := fun {σ' H' s'} J hn b hb =>
    ⟨hn b hb, (J.ok.exf b hb).1, J.ok.exfs b hb, .inl hb, (J.ok.exf b hb).2, fun q hq => by
      obtain rfl : q = p := by simpa using hq
      exact (f3 b hb).1.2.2.2.2.2 q (List.mem_append_left _ hp)⟩
  suffices L : codeAny (model X.prog X.w) X.A (.compLoop (.ListComp elt [⟨tg, iter, ifs, 0⟩] scope pos) 0 (.ref it) (.ref D) ce) (compPost (model X.prog X.w) X.A X.xe none (EP X pins σ Q) (.ref D) h3.objs.size) ⟨pushCells (h3.push { cls := .type "dict", data := .dict #[] }) scope.names, g2, d2, k2, o2⟩ from codeAny_compStart_list L (T.self X.A 0 _ _ _ t4 L)
  refine compLoop_any (fun n s' => ∃ i H', Inv (blkH X p ⟨h3, g2, d2, k2, o2⟩ G3 scope ce fp) [] (wipe σ (own.map (·.2))) H' s' ∧ tn i s'.heap ∧ (∀ b ∈ fp, H' b = none) ∧ W i n H') ?_ m0 ⟨0, G3, I4, t4, fun b hb => (f3 b hb).1.1, w0⟩
  rintro n s5 ⟨i, H5, I5, t5, n5, w5⟩
  rcases turn i n H5 w5 with ⟨stop, qe⟩ | ⟨go, Nx, hN', step⟩
  · refine thnF (T.done (blkH X p ⟨h3, g2, d2, k2, o2⟩ G3 scope ce fp) rfl rfl rfl hot i [] s5 _ H5 _ I5 (own_ I5 n5) t5 stop) fun r s6 ⟨er, I6⟩ => ?_
    subst er
    have back : Inv X pins σ H5 s6 := I3.call' (ch := fp) I6.os I6.base I6.hok I6.bare fun b hb => ⟨(f3 b hb).1.2.2.2.1, (f3 b hb).1.2.1, (f3 b hb).1.2.2.2.2.1, (f3 b hb).1.2.2.2.2.2⟩
    have fr : H5 ce.locals = none := I6.free
    obtain ⟨m, hm, _⟩ := I6.loc
    have hm : s6.heap.Ns ce.locals m := hm
    rw [cl] at fr hm
    obtain ⟨e0, e1, e2, e3, e4, e5⟩ := I3.fpOk (Nat.le_refl _) fr
    exact ⟨m, hm, fun h7 sb => ⟨.ref D, H5, back.turned (t' := s6.toks) (fun b o hb e => (sb.2 b hb).trans e) e0 e1 e3 e4 e5, rfl, qe⟩⟩
  · refine thnF (T.item (blkH X p ⟨h3, g2, d2, k2, o2⟩ G3 scope ce fp) rfl rfl rfl hot i [] s5 _ H5 _ I5 (own_ I5 n5) t5 go) fun r s6 ⟨u, er, h6⟩ => ?_
    subst er
    refine thnF h6 fun _ s7 ⟨x, H7, I7, r7, y7, t7, n7⟩ => ?_
    have I7 := I7.pinned (own_ I7 n7) (T.obj _ _ t7)
    refine thnF (pg.run _ s7 _ H7 x u _ I7 r7 (step x H7 y7)) fun _ s8 ⟨σ8, H8, I8, ew, q8⟩ => ?_
    have again : ∀ {s' : Shared} {H' : Hp}, Inv (blkH X p ⟨h3, g2, d2, k2, o2⟩ G3 scope ce fp) ([] ++ pinsAt fp s7.heap) σ8 H' s' → Nx H' →
        ∃ m, m < n ∧ ∃ i H', Inv (blkH X p ⟨h3, g2, d2, k2, o2⟩ G3 scope ce fp) [] (wipe σ (own.map (·.2))) H' s' ∧ tn i s'.heap ∧ (∀ b ∈ fp, H' b = none) ∧ W i m H' := fun {s' H'} J nx => by
      obtain ⟨m, lm, wm⟩ := hN' H' nx
      have kp : ∀ b ∈ fp, ∀ o, s7.heap.get? b = some o → s'.heap.get? b = some o ∧ H' b = none := fun b hb o e => by
        have z := J.pin (b, o) (List.mem_append_right _ (List.mem_append_right _ (mem_pinsAt hb e)))
        exact ⟨z.1, z.2.1⟩
      refine ⟨m, lm, i + 1, H', (J.unpinned (pins := [])).weak (by rw [← ew, wipe_length]) (fun j v e => ?_), T.keep _ _ _ t7 fun b hb o e => (kp b hb o e).1, fun b hb => ?_, wm⟩
      · rw [← ew] at e
        exact (wipe_some e).1
      · obtain ⟨o, e, _⟩ := T.obj _ _ t7 b hb
        exact (kp b hb o e).2
    refine thnF (pt.run _ s8 σ8 H8 _ I8 q8) fun b s9 ⟨H9, I9, q9⟩ => ?_
    cases b with
    | false =>
      rw [if_neg Bool.false_ne_true] at q9 ⊢
      exact again I9 q9
    | true =>
      rw [if_pos rfl] at q9 ⊢
      refine thnF (pe.run _ s9 σ8 H9 _ I9 q9) fun z s10 ⟨y, H10, I10, r10, acc, hD, hz, nx⟩ => ?_
      exact app_ok (X := blkH X p ⟨h3, g2, d2, k2, o2⟩ G3 scope ce fp) I10 hD hz r10 fun s11 I11 => again I11 nx
end
end VB
/-! except (A, B, ..): tuples of any length -/
namespace PySem.W
open PySem PySem.Spec PySem.Calls PyProof.Rows
section
variable {M : Model} {K : Frag} {h : Heap}
/-- a loop that reads only, and stops at the first c with g c -/
theorem looks_forIn {α β : Type} {f : α → β → Sem (ForInStep β)} {g : α → Bool} {b0 r1 : β} : ∀ {l : List α}, (∀ c ∈ l, Looks M h (f c b0) (if g c = true then .done r1 else .yield b0)) → Looks M h (forIn l b0 f) (if l.any g = true then r1 else b0)
  | [], _ => fun A Q E s k q => by
    rw [List.forIn_nil]
    exact wpAny_pure q
  | c :: l, hf => fun A Q E s k q => by
    rw [List.forIn_cons]
    refine wpAny_bind (hf c List.mem_cons_self A _ E s k ?_)
    rw [List.any_cons] at q
    cases hg : g c with
    | true =>
      rw [hg, Bool.true_or, if_pos rfl] at q
      rw [if_pos rfl]
      exact wpAny_pure q
    | false =>
      rw [hg, Bool.false_or] at q
      rw [if_neg Bool.false_ne_true]
      exact looks_forIn (fun c' hc => hf c' (List.mem_cons_of_mem _ hc)) A Q E s k q
theorem exmAny_any {cls : Value} : ∀ {cs : List Value} {b : Bool}, exmAny K cls cs = some b → (∀ c ∈ cs, ∃ v, exmOne K cls c = some v) ∧ cs.any (fun c => exmOne K cls c == some true) = b
  | [], b, e => ⟨fun c hc => (by cases hc), (by cases e; rfl)⟩
  | c :: cs, b, e => by
    obtain ⟨b1, d1, x1, x2, rfl⟩ := exmAny_cons e
    obtain ⟨h1, h2⟩ := exmAny_any x2
    refine ⟨fun c' hc => ?_, ?_⟩
    · rcases List.mem_cons.mp hc with rfl | hc
      · exact ⟨b1, x1⟩
      · exact h1 c' hc
    · rw [List.any_cons, h2, x1]
      cases b1 <;> rfl
theorem exm_tupN {cs : List Value} {cls : Value} {tp e : Addr} {b : Bool} (X : K.In h) (LT : Looks M h (typeOf (.ref e)) cls) (hp : h.get? tp = some { cls := .type "tuple", data := .seq cs.toArray }) (hx : exmAny K cls cs = some b) : Looks M h (excMatches (.ref e) (.ref tp)) b := by
  intro A Q E s k₀ q
  obtain ⟨hh, g, d, tk, os⟩ := s
  have k : ∀ b o, h.get? b = some o → hh.get? b = some o := k₀
  obtain ⟨hall, hany⟩ := exmAny_any hx
  have LT0 : Looks M h (isInstance (.ref tp) (.type "tuple")) true := ((Looks.ld hp).andThen .now).andThen (Looks.of_pure isSubtype_tuple_tuple)
  unfold excMatches
  refine wpAny_bind ((LT0.keeps k).at ?_)
  dsimp only
  rw [if_pos rfl]
  first
    | refine wpAny_bind (wpAny_seqItems (k _ _ hp) rfl ?_)
    | refine wpAny_bind (wpAny_bind (wpAny_seqItems (k _ _ hp) rfl (wpAny_pure ?_)))
  dsimp only [Option.getD_some, Option.getD]
  refine wpAny_bind (wpAny_pure ?_)
  refine wpAny_bind (((looks_forIn (M := M) (h := h) (g := fun _ => false) (r1 := PUnit.unit) fun c hc => ?_).keeps k).at ?_)
  · intro A Q E s k q
    obtain ⟨v, hv⟩ := hall c hc
    obtain ⟨e1, S1⟩ := exm_cls (M := M) X hv
    refine wpAny_bind ((e1.keeps k).here ?_)
    exact wpAny_pure q
  · refine wpAny_bind ((LT.keeps k).at ?_)
    refine wpAny_bind (((looks_forIn (M := M) (h := h) (g := fun c => exmOne K cls c == some true) (r1 := (some true, ())) fun c hc => ?_).keeps k).at ?_)
    · intro A Q E s k q
      obtain ⟨v, hv⟩ := hall c hc
      obtain ⟨e1, S1⟩ := exm_cls (M := M) X hv
      refine wpAny_bind ((S1.keeps k).here ?_)
      rw [hv] at q
      cases v <;> exact wpAny_pure q
    · rw [hany]
      cases b <;> exact wpAny_pure q
end
end PySem.W
namespace VB
open PySem PySem.Spec PyProof.Rows L2
abbrev TSu := Addr → Value → Option Addr → TS
/-- what clauses with tuples of classes wish of an exception of the body; none flies on -/
def wTup (K : PySem.W.Frag) (D : Ends) : List (List Addr × TSu) → WX
  | [] => fun _ _ _ _ => False
  | (as, ts) :: r => fun cls d σ H => ∃ b, PySem.W.exmAny K cls (as.map .ref) = some b ∧ (b = true → ∀ a, H a = none → ts a cls d D σ H) ∧ (b = false → wTup K D r cls d σ H)
/-- written names of the classes at as -/
inductive NmsT (X : Cx) : List Expr → List Addr → Prop
  | nil : NmsT X [] []
  | cons {x : Str} {C : Addr} {p : Pos} {es : List Expr} {as : List Addr} (hg : Gl X x) (hm : X.mg x = some (.ref C)) (hd : (x == ("__debug__" : Str)) = false) (hst : starEach (.Name x p :: es) X.env = (false, eval (.Name x p) X.env) :: starEach es X.env) (r : NmsT X es as) :
      NmsT X (.Name x p :: es) (C :: as)
theorem nms_run {X : Cx} {pos : Pos} {a : Addr} {pn pins : List PO} {σ : L2.St} {H : Hp} {s : Shared} {E : Value → Shared → Prop} (S : Inv (X.suite a pn) pins σ H s) {es : List Expr} {as : List Addr} (N : NmsT X es as) : ∀ {Q : List Value → Shared → Prop}, Q (as.map .ref) s →
    wpAny (model X.prog X.w) (X.A.mark (some (.ref a))) (spliced (backTo pos (starEach es X.env))) Q E s := by
  induction N with
  | nil => exact fun q => Calls.spliced_nil q
  | @cons x C p es as hg hm hd hst r ih =>
    intro Q q
    rw [hst]
    show wpAny _ _ (spliced ((false, eval (.Name x p) X.env) :: backTo pos (starEach es X.env))) _ _ s
    refine Calls.spliced_cons (ld_glob (X := X.suite a pn) S hg hm ?_ hd)
    exact ih q
inductive HdsT (X : Cx) : List ExceptHandler → List (List Addr × TSu) → Prop
  | nil : HdsT X [] []
  | cons {es : List Expr} {as : List Addr} {ts : TSu} {b₀ : Stmt} {suite : List Stmt} {x1} {np pos' : Pos} {hds : List ExceptHandler} {l : List (List Addr × TSu)} (hl : as.length ≤ sizeLine) (ht : NmsT X es as)
      (hsu : ∀ (a : Addr) (oe : Obj) (cls : Value) (d : Option Addr) (pn : List PO), L2N.Zn cls d oe → (∃ vs, oe.data = .fields vs) → PSs (X.suite a ((a, oe) :: pn)) (b₀ :: suite) (ts a cls d)) (r : HdsT X hds l) :
      HdsT X (.ExceptHandler (some (.Tuple es x1 np)) none (b₀ :: suite) pos' :: hds) ((as, ts) :: l)
section
variable {X : Cx} {body : List Stmt} {h₀ : ExceptHandler} {hds : List ExceptHandler} {l : List (List Addr × TSu)} {pos : Pos} {tb : WX → TS}
/-- the clauses, one after the other, for the landed error a -/
theorem tup_clauses {pins : List PO} {σ : L2.St} {H : Hp} {sI s : Shared} {D : Ends} {a : Addr} {B : Heap} {cls : Value} {d : Option Addr} (ok : X.Ok) (J : Inv X pins σ H sI) (nb : ∀ b o, sI.heap.get? b = some o → b ∉ frs X.stack → B.get? b = some o) (hs : X.stack = X.env :: X.outer)
    (na : H a = none) (os : s.os = sI.os) (ag : AllBare s.gens) (nL : a ≠ X.env.locals) (nF : a ∉ X.fs) :
    ∀ {hds : List ExceptHandler} {l : List (List Addr × TSu)}, HdsT X hds l → ∀ (h3 : Heap) (tk : Nat), HandSPX.FlyingZ B (X.env :: X.outer) a (L2N.Zn cls d) h3 → sI.heap.UpToSlots h3 → wTup X.K D l cls d σ H →
      wpAny (model X.prog X.w) X.A (handleBy (.ref a) X.env hds) (SP X pins D) X.xe { s with heap := h3, toks := tk } := by
  intro hds l hk
  induction hk with
  | nil => exact fun _ _ _ _ w => w.elim
  | @cons es as ts b₀ suite x1 np pos' hds2 l2 hl ht hsu r ih =>
    intro h3 tk fl up w
    obtain ⟨b, hb, hyes, hno⟩ := w
    have J3 : Inv X pins σ H { s with heap := h3 } := J.landed nb fl.1 up os ag
    obtain ⟨oe, vs, he, hz, hd⟩ := fl.there
    have S3 : Inv (X.suite a ((a, oe) :: (X.pn ++ pins))) [] σ H { s with heap := h3, toks := tk } := (J3.suite he hd na nL nF).tok _
    refine wpAny_handleBy_cons (codeAny_handlers_test ?_) (by intro q; cases q)
    refine wpAny_Tuple_spliced (nms_run S3 ht ⟨by rw [List.length_map]; exact hl, ?_⟩)
    show wpAny _ _ (excMatches (.ref a) (.ref h3.objs.size)) _ _ { s with heap := h3.push { cls := .type "tuple", data := .seq (as.map Value.ref).toArray }, toks := tk }
    have kp : ∀ b o, h3.get? b = some o → (h3.push { cls := .type "tuple", data := .seq (as.map Value.ref).toArray }).get? b = some o := fun b o e => Heap.get?_push_of_some _ e
    have tp : (h3.push { cls := .type "tuple", data := .seq (as.map Value.ref).toArray }).get? h3.objs.size = some { cls := .type "tuple", data := .seq (as.map Value.ref).toArray } := Heap.get?_push_size _ rfl
    have fl4 : HandSPX.FlyingZ B (X.env :: X.outer) a (L2N.Zn cls d) (h3.push { cls := .type "tuple", data := .seq (as.map Value.ref).toArray }) := by
      obtain ⟨k1, k2, k3, oe', vs', T, oT, ts', he', hz', hd', h1', hb', hne, hT, hdT, h3'⟩ := fl
      exact ⟨fun b o e => kp _ _ (k1 b o e), k2, k3.of_keeps (fun b o e _ => ⟨o, kp b o e, rfl⟩), oe', vs', T, oT, ts', kp _ _ he', hz', hd', h1', hb', hne, kp _ _ hT, hdT, h3'⟩
    have up4 := up.trans (Heap.UpToSlots.of_keeps kp)
    have he4 := kp _ _ he
    generalize h3.push { cls := .type "tuple", data := .seq (as.map Value.ref).toArray } = h4 at kp tp fl4 up4 he4 ⊢
    have LT : PySem.W.Looks (model X.prog X.w) h4 (typeOf (.ref a)) cls := fun A Q E s k q => wpAny_typeOf_ref (k _ _ he4) (by rw [hz.1]; exact q)
    have LM := PySem.W.exm_tupN (M := model X.prog X.w) (J3.kIn.keeps kp) LT tp hb
    refine LM.here ?_
    cases b with
    | false => exact ih h4 tk fl4 up4 (hno rfl)
    | true =>
      refine codeAny_handlers_suite (HandSPX.lands_againZ fl4 fun h5 fl5 up5 => ?_)
      have J5 : Inv X pins σ H { s with heap := h5 } := J.landed nb fl5.1 (up4.trans up5) os ag
      obtain ⟨oe5, vs5, he5, hz5, hd5⟩ := fl5.there
      have S5 : Inv (X.suite a ((a, oe5) :: (X.pn ++ pins))) [] σ H { s with heap := h5, toks := tk } := (J5.suite he5 hd5 na nL nF).tok _
      refine wpAny_mono ((hsu a oe5 cls d (X.pn ++ pins) hz5 ⟨_, hd5⟩).run [] _ _ H _ S5 (hyes rfl a na)) (fun f s6 z => ?_) fun _ _ z => False.elim z
      cases f with
      | ret u =>
        obtain ⟨v, σ6, H6, S6, r6, q6⟩ := z
        exact ⟨v, σ6, H6, S6.unsuite ok, r6, q6⟩
      | next =>
        obtain ⟨σ6, H6, S6, q6⟩ := z
        exact ⟨σ6, H6, S6.unsuite ok, q6⟩
      | brk =>
        obtain ⟨σ6, H6, S6, q6⟩ := z
        exact ⟨σ6, H6, S6.unsuite ok, q6⟩
      | cont =>
        obtain ⟨σ6, H6, S6, q6⟩ := z
        exact ⟨σ6, H6, S6.unsuite ok, q6⟩
theorem ps_try_tup (hs : X.stack = X.env :: X.outer) (hf : X.env.frame = some X.env.locals) (hb : ∀ (W : WX) (pn : List PO) (xe : Value → Shared → Prop), L2N.Takes (X.tr pn xe) W → PassesOwn (model X.prog X.w) X.A X.env xe → PSs (X.tr pn xe) body (tb W)) (hh : HdsT X (h₀ :: hds) l) :
    PS X (.Try body (h₀ :: hds) [] [] pos) (fun D σ H => tb (wTup X.K D l) D σ H) := by
  refine ⟨fun pins s σ H D I h => ?_⟩
  have ok := I.ok
  have hfr : X.A.frames = some (X.env :: X.outer) := by rw [ok.frames, hs]
  refine wpAny_Try_except (wpAny_mono ((hb (wTup X.K D l) (X.pn ++ pins) (fun e s₁ => wpAny (model X.prog X.w) X.A (noteFrame e X.env) (fun _ s₂ => wpAny (model X.prog X.w) X.A (setFlight e none) (fun _ s₃ => wpAny (model X.prog X.w) X.A (handleBy e X.env (h₀ :: hds)) (SP X pins D) X.xe s₃) X.xe s₂) X.xe s₁)
    (fun u s' xx => ?_) PassesOwn.looking).run [] s σ H D (I.toTry _) h) (fun f s1 z => ?_) fun _ _ z => z)
  · obtain ⟨a, B, sI, pn', σ', H', cls, d, rfl, J', nb, up, sky, na, os, ag, w⟩ := xx
    have J : Inv X pins σ' H' sI := J'.ofTry ok
    have sky' : Sky B (X.env :: X.outer) a (L2N.Zn cls d) X.env.locals s'.heap := by rw [← hs]; exact sky
    refine L2N.Sky.land L2N.Zn.steady hfr hf sky' fun h3 fl3 up3 => ?_
    obtain ⟨oe, vs, he, _, hd⟩ := fl3.there
    have out : a ∉ frs (X.env :: X.outer) := fun hm => by
      obtain ⟨_, o', e', nf⟩ := fl3.2.2.1.mem hm
      rw [he] at e'
      cases e'
      exact nf _ hd
    obtain ⟨g3, gg, gd, gt, go⟩ := s'
    exact tup_clauses ok J nb hs na os ag (fun z => out (List.mem_filterMap.mpr ⟨X.env, List.mem_cons_self, by rw [hf, z]⟩)) (fun hm => by
      obtain ⟨e, he, q⟩ := List.mem_filterMap.mp hm
      exact out (List.mem_filterMap.mpr ⟨e, List.mem_cons_of_mem _ he, q⟩)) hh h3 gt fl3 (up.trans up3) w
  · cases f with
    | ret u =>
      obtain ⟨v, σ', H', J', r, q⟩ := z
      exact ⟨v, σ', H', J'.ofTry ok, r, q⟩
    | next =>
      obtain ⟨σ', H', J', q⟩ := z
      exact wpAny_execs_nil ⟨σ', H', J'.ofTry ok, q⟩
    | brk =>
      obtain ⟨σ', H', J', q⟩ := z
      exact ⟨σ', H', J'.ofTry ok, q⟩
    | cont =>
      obtain ⟨σ', H', J', q⟩ := z
      exact ⟨σ', H', J'.ofTry ok, q⟩
end
end VB
/-! except (A, B, ..) for errors with a field (L2's own) -/
namespace VB
open PySem PySem.Spec PyProof.Rows L2
inductive HdsT2 (X : Cx) : List ExceptHandler → List (List Addr × TSu) → Prop
  | nil : HdsT2 X [] []
  | cons {es : List Expr} {as : List Addr} {ts : TSu} {b₀ : Stmt} {suite : List Stmt} {x1} {np pos' : Pos} {hds : List ExceptHandler} {l : List (List Addr × TSu)} (hl : as.length ≤ sizeLine) (ht : NmsT X es as)
      (hsu : ∀ (a : Addr) (oe : Obj) (cls : Value) (d : Option Addr) (pn : List PO), Zc cls d oe → (∃ vs, oe.data = .fields vs) → PSs (X.suite a ((a, oe) :: pn)) (b₀ :: suite) (ts a cls d)) (r : HdsT2 X hds l) :
      HdsT2 X (.ExceptHandler (some (.Tuple es x1 np)) none (b₀ :: suite) pos' :: hds) ((as, ts) :: l)
section
variable {X : Cx} {body : List Stmt} {h₀ : ExceptHandler} {hds : List ExceptHandler} {l : List (List Addr × TSu)} {pos : Pos} {tb : WX → TS}
/-- the clauses, one after the other, for the landed error a -/
theorem tup_clauses2 {pins : List PO} {σ : L2.St} {H : Hp} {sI s : Shared} {D : Ends} {a : Addr} {B : Heap} {cls : Value} {d : Option Addr} (ok : X.Ok) (J : Inv X pins σ H sI) (nb : ∀ b o, sI.heap.get? b = some o → b ∉ frs X.stack → B.get? b = some o) (hs : X.stack = X.env :: X.outer)
    (na : H a = none) (os : s.os = sI.os) (ag : AllBare s.gens) (nL : a ≠ X.env.locals) (nF : a ∉ X.fs) :
    ∀ {hds : List ExceptHandler} {l : List (List Addr × TSu)}, HdsT2 X hds l → ∀ (h3 : Heap) (tk : Nat), HandSPX.FlyingZ B (X.env :: X.outer) a (Zc cls d) h3 → sI.heap.UpToSlots h3 → wTup X.K D l cls d σ H →
      wpAny (model X.prog X.w) X.A (handleBy (.ref a) X.env hds) (SP X pins D) X.xe { s with heap := h3, toks := tk } := by
  intro hds l hk
  induction hk with
  | nil => exact fun _ _ _ _ w => w.elim
  | @cons es as ts b₀ suite x1 np pos' hds2 l2 hl ht hsu r ih =>
    intro h3 tk fl up w
    obtain ⟨b, hb, hyes, hno⟩ := w
    have J3 : Inv X pins σ H { s with heap := h3 } := J.landed nb fl.1 up os ag
    obtain ⟨oe, vs, he, hz, hd⟩ := fl.there
    have S3 : Inv (X.suite a ((a, oe) :: (X.pn ++ pins))) [] σ H { s with heap := h3, toks := tk } := (J3.suite he hd na nL nF).tok _
    refine wpAny_handleBy_cons (codeAny_handlers_test ?_) (by intro q; cases q)
    refine wpAny_Tuple_spliced (nms_run S3 ht ⟨by rw [List.length_map]; exact hl, ?_⟩)
    show wpAny _ _ (excMatches (.ref a) (.ref h3.objs.size)) _ _ { s with heap := h3.push { cls := .type "tuple", data := .seq (as.map Value.ref).toArray }, toks := tk }
    have kp : ∀ b o, h3.get? b = some o → (h3.push { cls := .type "tuple", data := .seq (as.map Value.ref).toArray }).get? b = some o := fun b o e => Heap.get?_push_of_some _ e
    have tp : (h3.push { cls := .type "tuple", data := .seq (as.map Value.ref).toArray }).get? h3.objs.size = some { cls := .type "tuple", data := .seq (as.map Value.ref).toArray } := Heap.get?_push_size _ rfl
    have fl4 : HandSPX.FlyingZ B (X.env :: X.outer) a (Zc cls d) (h3.push { cls := .type "tuple", data := .seq (as.map Value.ref).toArray }) := by
      obtain ⟨k1, k2, k3, oe', vs', T, oT, ts', he', hz', hd', h1', hb', hne, hT, hdT, h3'⟩ := fl
      exact ⟨fun b o e => kp _ _ (k1 b o e), k2, k3.of_keeps (fun b o e _ => ⟨o, kp b o e, rfl⟩), oe', vs', T, oT, ts', kp _ _ he', hz', hd', h1', hb', hne, kp _ _ hT, hdT, h3'⟩
    have up4 := up.trans (Heap.UpToSlots.of_keeps kp)
    have he4 := kp _ _ he
    generalize h3.push { cls := .type "tuple", data := .seq (as.map Value.ref).toArray } = h4 at kp tp fl4 up4 he4 ⊢
    have LT : PySem.W.Looks (model X.prog X.w) h4 (typeOf (.ref a)) cls := fun A Q E s k q => wpAny_typeOf_ref (k _ _ he4) (by rw [hz.1]; exact q)
    have LM := PySem.W.exm_tupN (M := model X.prog X.w) (J3.kIn.keeps kp) LT tp hb
    refine LM.here ?_
    cases b with
    | false => exact ih h4 tk fl4 up4 (hno rfl)
    | true =>
      refine codeAny_handlers_suite (HandSPX.lands_againZ fl4 fun h5 fl5 up5 => ?_)
      have J5 : Inv X pins σ H { s with heap := h5 } := J.landed nb fl5.1 (up4.trans up5) os ag
      obtain ⟨oe5, vs5, he5, hz5, hd5⟩ := fl5.there
      have S5 : Inv (X.suite a ((a, oe5) :: (X.pn ++ pins))) [] σ H { s with heap := h5, toks := tk } := (J5.suite he5 hd5 na nL nF).tok _
      refine wpAny_mono ((hsu a oe5 cls d (X.pn ++ pins) hz5 ⟨_, hd5⟩).run [] _ _ H _ S5 (hyes rfl a na)) (fun f s6 z => ?_) fun _ _ z => False.elim z
      cases f with
      | ret u =>
        obtain ⟨v, σ6, H6, S6, r6, q6⟩ := z
        exact ⟨v, σ6, H6, S6.unsuite ok, r6, q6⟩
      | next =>
        obtain ⟨σ6, H6, S6, q6⟩ := z
        exact ⟨σ6, H6, S6.unsuite ok, q6⟩
      | brk =>
        obtain ⟨σ6, H6, S6, q6⟩ := z
        exact ⟨σ6, H6, S6.unsuite ok, q6⟩
      | cont =>
        obtain ⟨σ6, H6, S6, q6⟩ := z
        exact ⟨σ6, H6, S6.unsuite ok, q6⟩
theorem ps_try_tup2 (hs : X.stack = X.env :: X.outer) (hf : X.env.frame = some X.env.locals) (hb : ∀ (W : WX) (pn : List PO) (xe : Value → Shared → Prop), Takes (X.tr pn xe) W → PassesOwn (model X.prog X.w) X.A X.env xe → PSs (X.tr pn xe) body (tb W)) (hh : HdsT2 X (h₀ :: hds) l) :
    PS X (.Try body (h₀ :: hds) [] [] pos) (fun D σ H => tb (wTup X.K D l) D σ H) := by
  refine ⟨fun pins s σ H D I h => ?_⟩
  have ok := I.ok
  have hfr : X.A.frames = some (X.env :: X.outer) := by rw [ok.frames, hs]
  refine wpAny_Try_except (wpAny_mono ((hb (wTup X.K D l) (X.pn ++ pins) (fun e s₁ => wpAny (model X.prog X.w) X.A (noteFrame e X.env) (fun _ s₂ => wpAny (model X.prog X.w) X.A (setFlight e none) (fun _ s₃ => wpAny (model X.prog X.w) X.A (handleBy e X.env (h₀ :: hds)) (SP X pins D) X.xe s₃) X.xe s₂) X.xe s₁)
    (fun u s' xx => ?_) PassesOwn.looking).run [] s σ H D (I.toTry _) h) (fun f s1 z => ?_) fun _ _ z => z)
  · obtain ⟨a, B, sI, pn', σ', H', cls, d, rfl, J', nb, up, sky, na, os, ag, w⟩ := xx
    have J : Inv X pins σ' H' sI := J'.ofTry ok
    have sky' : Sky B (X.env :: X.outer) a (Zc cls d) X.env.locals s'.heap := by rw [← hs]; exact sky
    refine Sky.land Zc.steady hfr hf sky' fun h3 fl3 up3 => ?_
    obtain ⟨oe, vs, he, _, hd⟩ := fl3.there
    have out : a ∉ frs (X.env :: X.outer) := fun hm => by
      obtain ⟨_, o', e', nf⟩ := fl3.2.2.1.mem hm
      rw [he] at e'
      cases e'
      exact nf _ hd
    obtain ⟨g3, gg, gd, gt, go⟩ := s'
    exact tup_clauses2 ok J nb hs na os ag (fun z => out (List.mem_filterMap.mpr ⟨X.env, List.mem_cons_self, by rw [hf, z]⟩)) (fun hm => by
      obtain ⟨e, he, q⟩ := List.mem_filterMap.mp hm
      exact out (List.mem_filterMap.mpr ⟨e, List.mem_cons_of_mem _ he, q⟩)) hh h3 gt fl3 (up.trans up3) w
  · cases f with
    | ret u =>
      obtain ⟨v, σ', H', J', r, q⟩ := z
      exact ⟨v, σ', H', J'.ofTry ok, r, q⟩
    | next =>
      obtain ⟨σ', H', J', q⟩ := z
      exact wpAny_execs_nil ⟨σ', H', J'.ofTry ok, q⟩
    | brk =>
      obtain ⟨σ', H', J', q⟩ := z
      exact ⟨σ', H', J'.ofTry ok, q⟩
    | cont =>
      obtain ⟨σ', H', J', q⟩ := z
      exact ⟨σ', H', J'.ofTry ok, q⟩
end
end VB
/-! except (A, B, ..) as n: one clause with a tuple of classes and a name -/
namespace VB
open PySem PySem.Spec PyProof.Rows L2
def wTupAs (K : PySem.W.Frag) (i : Nat) (D : Ends) (as : List Addr) (ts : TSu) : WX := fun cls d σ H => PySem.W.exmAny K cls (as.map .ref) = some true ∧
  ∀ a, H a = none → ts a cls d { nx := fun σ' H' => D.nx (σ'.set i none) H', rt := D.rt, bk := fun σ' H' => D.bk (σ'.set i none) H', ct := fun σ' H' => D.ct (σ'.set i none) H' } (σ.set i (some (.ref a))) H
theorem takes_noN {X : Cx} : L2N.Takes X (fun _ _ _ _ => False) := fun _ _ ⟨_, _, _, _, _, _, _, _, _, _, _, _, _, _, _, _, w⟩ => w.elim
section
variable {X : Cx} {body : List Stmt} {es : List Expr} {as : List Addr} {ts : TSu} {b₀ : Stmt} {suite : List Stmt} {x1 : Nat} {np pos pos' : Pos} {tb : WX → TS} {i : Nat} {n : Str}
theorem tupAs_clause {pins : List PO} {σ : L2.St} {H : Hp} {sI s : Shared} {D : Ends} {a : Addr} {B : Heap} {cls : Value} {d : Option Addr} (ok : X.Ok) (hN : X.N.Nodup) (hi : X.N[i]? = some n) (hln : X.env.kindOf n = some .local) (J : Inv X pins σ H sI) (nb : ∀ b o, sI.heap.get? b = some o → b ∉ frs X.stack → B.get? b = some o) (hs : X.stack = X.env :: X.outer)
    (na : H a = none) (os : s.os = sI.os) (ag : AllBare s.gens) (nL : a ≠ X.env.locals) (nF : a ∉ X.fs) (hl : as.length ≤ sizeLine) (ht : NmsT X es as)
    (hsu : ∀ (a : Addr) (oe : Obj) (cls : Value) (d : Option Addr) (pn : List PO), L2N.Zn cls d oe → (∃ vs, oe.data = .fields vs) → PSs (X.suite a ((a, oe) :: pn)) (b₀ :: suite) (ts a cls d))
    (h3 : Heap) (tk : Nat) (fl : HandSPX.FlyingZ B (X.env :: X.outer) a (L2N.Zn cls d) h3) (up : sI.heap.UpToSlots h3) (w : wTupAs X.K i D as ts cls d σ H) :
      wpAny (model X.prog X.w) X.A (handleBy (.ref a) X.env [.ExceptHandler (some (.Tuple es x1 np)) (some n) (b₀ :: suite) pos']) (SP X pins D) X.xe { s with heap := h3, toks := tk } := by
  obtain ⟨hb, hyes⟩ := w
  have hloc : Loc X.env.scope n := .inl hln
  have J3 : Inv X pins σ H { s with heap := h3 } := J.landed nb fl.1 up os ag
  obtain ⟨oe, vs, he, hz, hd⟩ := fl.there
  have S3 : Inv (X.suite a ((a, oe) :: (X.pn ++ pins))) [] σ H { s with heap := h3, toks := tk } := (J3.suite he hd na nL nF).tok _
  refine wpAny_handleBy_cons (codeAny_handlers_test ?_) (by intro q; cases q)
  refine wpAny_Tuple_spliced (nms_run S3 ht ⟨by rw [List.length_map]; exact hl, ?_⟩)
  show wpAny _ _ (excMatches (.ref a) (.ref h3.objs.size)) _ _ { s with heap := h3.push { cls := .type "tuple", data := .seq (as.map Value.ref).toArray }, toks := tk }
  have kp : ∀ b o, h3.get? b = some o → (h3.push { cls := .type "tuple", data := .seq (as.map Value.ref).toArray }).get? b = some o := fun b o e => Heap.get?_push_of_some _ e
  have tp : (h3.push { cls := .type "tuple", data := .seq (as.map Value.ref).toArray }).get? h3.objs.size = some { cls := .type "tuple", data := .seq (as.map Value.ref).toArray } := Heap.get?_push_size _ rfl
  have fl4 : HandSPX.FlyingZ B (X.env :: X.outer) a (L2N.Zn cls d) (h3.push { cls := .type "tuple", data := .seq (as.map Value.ref).toArray }) := by
    obtain ⟨k1, k2, k3, oe', vs', T, oT, ts', he', hz', hd', h1', hb', hne, hT, hdT, h3'⟩ := fl
    exact ⟨fun b o e => kp _ _ (k1 b o e), k2, k3.of_keeps (fun b o e _ => ⟨o, kp b o e, rfl⟩), oe', vs', T, oT, ts', kp _ _ he', hz', hd', h1', hb', hne, kp _ _ hT, hdT, h3'⟩
  have up4 := up.trans (Heap.UpToSlots.of_keeps kp)
  have he4 := kp _ _ he
  generalize h3.push { cls := .type "tuple", data := .seq (as.map Value.ref).toArray } = h4 at kp tp fl4 up4 he4 ⊢
  have LT : PySem.W.Looks (model X.prog X.w) h4 (typeOf (.ref a)) cls := fun A Q E s k q => wpAny_typeOf_ref (k _ _ he4) (by rw [hz.1]; exact q)
  have LM := PySem.W.exm_tupN (M := model X.prog X.w) (J3.kIn.keeps kp) LT tp hb
  refine LM.here ?_
  refine codeAny_handlers_suite_as (HandSPX.lands_againZ fl4 fun h5 fl5 up5 => ?_)
  have J5 : Inv X pins σ H { s with heap := h5 } := J.landed nb fl5.1 (up4.trans up5) os ag
  obtain ⟨oe5, vs5, he5, hz5, hd5⟩ := fl5.there
  have S5 : Inv (X.suite a ((a, oe5) :: (X.pn ++ pins))) [] σ H { s with heap := h5, toks := tk } := (J5.suite he5 hd5 na nL nF).tok _
  refine store_ok (X := X.suite a ((a, oe5) :: (X.pn ++ pins))) (v := .ref a) S5 hN hi hloc rfl (fun s6 S6 => ?_) (.inr hln)
  refine wpAny_mono ((hsu a oe5 cls d (X.pn ++ pins) hz5 ⟨_, hd5⟩).run [] s6 _ H _ S6 (hyes a na)) (fun f s7 hsp => ?_) fun _ _ z => False.elim z
  have end_ : ∀ {σ6 : L2.St} {H6 : Hp} {Q : Shared → Prop}, Inv (X.suite a ((a, oe5) :: (X.pn ++ pins))) [] σ6 H6 s7 → (∀ s8, Inv X pins (σ6.set i none) H6 s8 → Q s8) →
      wpAny (model X.prog X.w) X.A (do bindName X.env n .none; unbindBehindTheSuite X.env n pos') (fun _ s8 => Q s8) X.xe s7 := fun {σ6 H6 Q} S7 hq => gone_ok (S7.unsuite ok) hN hi hln hq
  cases f with
  | next =>
    obtain ⟨σ6, H6, S6, q6⟩ := hsp
    exact end_ S6 fun s8 J8 => ⟨_, _, J8, q6⟩
  | brk =>
    obtain ⟨σ6, H6, S6, q6⟩ := hsp
    exact end_ S6 fun s8 J8 => ⟨_, _, J8, q6⟩
  | cont =>
    obtain ⟨σ6, H6, S6, q6⟩ := hsp
    exact end_ S6 fun s8 J8 => ⟨_, _, J8, q6⟩
  | ret u =>
    obtain ⟨v6, σ6, H6, S6, r6, q6⟩ := hsp
    exact end_ S6 fun s8 J8 => ⟨_, _, _, J8, r6, q6⟩
theorem ps_try_tupAs (hs : X.stack = X.env :: X.outer) (hf : X.env.frame = some X.env.locals) (hN : X.N.Nodup) (hi : X.N[i]? = some n) (hln : X.env.kindOf n = some .local) (hb : ∀ (W : WX) (pn : List PO) (xe : Value → Shared → Prop), L2N.Takes (X.tr pn xe) W → PassesOwn (model X.prog X.w) X.A X.env xe → PSs (X.tr pn xe) body (tb W))
    (hl : as.length ≤ sizeLine) (ht : NmsT X es as) (hsu : ∀ (a : Addr) (oe : Obj) (cls : Value) (d : Option Addr) (pn : List PO), L2N.Zn cls d oe → (∃ vs, oe.data = .fields vs) → PSs (X.suite a ((a, oe) :: pn)) (b₀ :: suite) (ts a cls d)) :
    PS X (.Try body [.ExceptHandler (some (.Tuple es x1 np)) (some n) (b₀ :: suite) pos'] [] [] pos) (fun D σ H => tb (wTupAs X.K i D as ts) D σ H) := by
  refine ⟨fun pins s σ H D I h => ?_⟩
  have ok := I.ok
  have hfr : X.A.frames = some (X.env :: X.outer) := by rw [ok.frames, hs]
  refine wpAny_Try_except (wpAny_mono ((hb (wTupAs X.K i D as ts) (X.pn ++ pins) (fun e s₁ => wpAny (model X.prog X.w) X.A (noteFrame e X.env) (fun _ s₂ => wpAny (model X.prog X.w) X.A (setFlight e none) (fun _ s₃ => wpAny (model X.prog X.w) X.A (handleBy e X.env [.ExceptHandler (some (.Tuple es x1 np)) (some n) (b₀ :: suite) pos']) (SP X pins D) X.xe s₃) X.xe s₂) X.xe s₁)
    (fun u s' xx => ?_) PassesOwn.looking).run [] s σ H D (I.toTry _) h) (fun f s1 z => ?_) fun _ _ z => z)
  · obtain ⟨a, B, sI, pn', σ', H', cls, d, rfl, J', nb, up, sky, na, os, ag, w⟩ := xx
    have J : Inv X pins σ' H' sI := J'.ofTry ok
    have sky' : Sky B (X.env :: X.outer) a (L2N.Zn cls d) X.env.locals s'.heap := by rw [← hs]; exact sky
    refine L2N.Sky.land L2N.Zn.steady hfr hf sky' fun h3 fl3 up3 => ?_
    obtain ⟨oe, vs, he, _, hd⟩ := fl3.there
    have out : a ∉ frs (X.env :: X.outer) := fun hm => by
      obtain ⟨_, o', e', nf⟩ := fl3.2.2.1.mem hm
      rw [he] at e'
      cases e'
      exact nf _ hd
    obtain ⟨g3, gg, gd, gt, go⟩ := s'
    exact tupAs_clause ok hN hi hln J nb hs na os ag (fun z => out (List.mem_filterMap.mpr ⟨X.env, List.mem_cons_self, by rw [hf, z]⟩)) (fun hm => by
      obtain ⟨e, he, q⟩ := List.mem_filterMap.mp hm
      exact out (List.mem_filterMap.mpr ⟨e, List.mem_cons_of_mem _ he, q⟩)) hl ht hsu h3 gt fl3 (up.trans up3) w
  · cases f with
    | ret u =>
      obtain ⟨v, σ', H', J', r, q⟩ := z
      exact ⟨v, σ', H', J'.ofTry ok, r, q⟩
    | next =>
      obtain ⟨σ', H', J', q⟩ := z
      exact wpAny_execs_nil ⟨σ', H', J'.ofTry ok, q⟩
    | brk =>
      obtain ⟨σ', H', J', q⟩ := z
      exact ⟨σ', H', J'.ofTry ok, q⟩
    | cont =>
      obtain ⟨σ', H', J', q⟩ := z
      exact ⟨σ', H', J'.ofTry ok, q⟩
end
end VB
namespace K19
open PySem PySem.Spec PyProof.Rows L2 VB
theorem sc_is_int_from : FnScope ["value", "least", "greatest"] ["value", "least", "greatest"] (defScope s_is_int_from) := ⟨rfl, rfl, rfl, by decide +kernel, rfl, by decide +kernel, by decide +kernel⟩
theorem sc_is_list : FnScope ["value"] ["value"] (defScope s_is_list) := ⟨rfl, rfl, rfl, by decide +kernel, rfl, by decide +kernel, by decide +kernel⟩
theorem sc_is_octets : FnScope ["value", "octet"] ["value"] (defScope s_is_octets) := ⟨rfl, rfl, rfl, by decide +kernel, rfl, by decide +kernel, by decide +kernel⟩
theorem sc_is_name : FnScope ["value", "sign"] ["value"] (defScope s_is_name) := ⟨rfl, rfl, rfl, by decide +kernel, rfl, by decide +kernel, by decide +kernel⟩
theorem sc_is_path : FnScope ["value", "name"] ["value"] (defScope s_is_path) := ⟨rfl, rfl, rfl, by decide +kernel, rfl, by decide +kernel, by decide +kernel⟩
theorem sc_is_deed : FnScope ["value"] ["value"] (defScope s_is_deed) := ⟨rfl, rfl, rfl, by decide +kernel, rfl, by decide +kernel, by decide +kernel⟩
theorem sc__is_worded : FnScope ["value"] ["value"] (defScope s__is_worded) := ⟨rfl, rfl, rfl, by decide +kernel, rfl, by decide +kernel, by decide +kernel⟩
theorem sc__is_single_deed : FnScope ["value", "parts", "part", "item"] ["value"] (defScope s__is_single_deed) := ⟨rfl, rfl, rfl, by decide +kernel, rfl, by decide +kernel, by decide +kernel⟩
theorem sc__is_part : FnScope ["part", "item"] ["part", "item"] (defScope s__is_part) := ⟨rfl, rfl, rfl, by decide +kernel, rfl, by decide +kernel, by decide +kernel⟩
theorem sc__are_deeds_together : FnScope ["value", "deed"] ["value"] (defScope s__are_deeds_together) := ⟨rfl, rfl, rfl, by decide +kernel, rfl, by decide +kernel, by decide +kernel⟩
theorem sc_line_of : FnScope ["step"] ["step"] (defScope s_line_of) := ⟨rfl, rfl, rfl, by decide +kernel, rfl, by decide +kernel, by decide +kernel⟩
theorem sc_read_deed : FnScope ["line", "step"] ["line"] (defScope s_read_deed) := ⟨rfl, rfl, rfl, by decide +kernel, rfl, by decide +kernel, by decide +kernel⟩
theorem sc_number_in_word : FnScope ["word", "most_digits", "sign"] ["word", "most_digits"] (defScope s_number_in_word) := ⟨rfl, rfl, rfl, by decide +kernel, rfl, by decide +kernel, by decide +kernel⟩
theorem sc__is_step : FnScope ["value"] ["value"] (defScope s__is_step) := ⟨rfl, rfl, rfl, by decide +kernel, rfl, by decide +kernel, by decide +kernel⟩
theorem sc__line : FnScope ["step", "parts", "deed", "part", "item"] ["step"] (defScope s__line) := ⟨rfl, rfl, rfl, by decide +kernel, rfl, by decide +kernel, by decide +kernel⟩
theorem sc__word : FnScope ["part", "item", "octet", "count"] ["part", "item"] (defScope s__word) := ⟨rfl, rfl, rfl, by decide +kernel, rfl, by decide +kernel, by decide +kernel⟩
theorem sc__runs : FnScope ["octets", "runs", "octet"] ["octets"] (defScope s__runs) := ⟨rfl, rfl, rfl, by decide +kernel, rfl, by decide +kernel, by decide +kernel⟩
theorem sc__run_word : FnScope ["octet", "count"] ["octet", "count"] (defScope s__run_word) := ⟨rfl, rfl, rfl, by decide +kernel, rfl, by decide +kernel, by decide +kernel⟩
theorem sc__step_told_by : FnScope ["line", "part"] ["line"] (defScope s__step_told_by) := ⟨rfl, rfl, rfl, by decide +kernel, rfl, by decide +kernel, by decide +kernel⟩
theorem sc__deed_told_by : FnScope ["line", "words", "parts", "part", "word"] ["line"] (defScope s__deed_told_by) := ⟨rfl, rfl, rfl, by decide +kernel, rfl, by decide +kernel, by decide +kernel⟩
theorem sc__item_told_by : FnScope ["part", "word"] ["part", "word"] (defScope s__item_told_by) := ⟨rfl, rfl, rfl, by decide +kernel, rfl, by decide +kernel, by decide +kernel⟩
theorem sc__path_told_by : FnScope ["word"] ["word"] (defScope s__path_told_by) := ⟨rfl, rfl, rfl, by decide +kernel, rfl, by decide +kernel, by decide +kernel⟩
theorem sc__number_told_by : FnScope ["word"] ["word"] (defScope s__number_told_by) := ⟨rfl, rfl, rfl, by decide +kernel, rfl, by decide +kernel, by decide +kernel⟩
theorem sc__octets_told_by : FnScope ["word", "octets", "run", "octet", "star", "count", "times"] ["word"] (defScope s__octets_told_by) := ⟨rfl, rfl, rfl, by decide +kernel, rfl, by decide +kernel, by decide +kernel⟩
theorem sc__law_cell : FnScope ["_law_script", "_law_k"] ["_law_script", "_law_k"] (defScope s__law_cell) := ⟨rfl, rfl, rfl, by decide +kernel, rfl, by decide +kernel, by decide +kernel⟩
theorem sc__law_box : FnScope ["_law_great"] ["_law_great"] (defScope s__law_box) := ⟨rfl, rfl, rfl, by decide +kernel, rfl, by decide +kernel, by decide +kernel⟩
theorem sc__law_take : FnScope ["_law_box_here", "_law_many", "_law_digit", "_law_mixed"] ["_law_box_here", "_law_many"] (defScope s__law_take) := ⟨rfl, rfl, rfl, by decide +kernel, rfl, by decide +kernel, by decide +kernel⟩
theorem sc__law_name : FnScope ["_law_box_here", "_law_way", "_law_many", "_law_k"] ["_law_box_here"] (defScope s__law_name) := ⟨rfl, rfl, rfl, by decide +kernel, rfl, by decide +kernel, by decide +kernel⟩
theorem sc__law_path : FnScope ["_law_box_here", "_law_k"] ["_law_box_here"] (defScope s__law_path) := ⟨rfl, rfl, rfl, by decide +kernel, rfl, by decide +kernel, by decide +kernel⟩
theorem sc__law_octet : FnScope ["_law_box_here"] ["_law_box_here"] (defScope s__law_octet) := ⟨rfl, rfl, rfl, by decide +kernel, rfl, by decide +kernel, by decide +kernel⟩
theorem sc__law_run_octets : FnScope ["_law_box_here", "_law_way", "_law_found", "_law_start", "_law_k"] ["_law_box_here"] (defScope s__law_run_octets) := ⟨rfl, rfl, rfl, by decide +kernel, rfl, by decide +kernel, by decide +kernel⟩
theorem sc__law_plain_step : FnScope ["_law_box_here", "_law_kind", "_law_at"] ["_law_box_here"] (defScope s__law_plain_step) := ⟨rfl, rfl, rfl, by decide +kernel, rfl, by decide +kernel, by decide +kernel⟩
theorem sc__law_step : FnScope ["_law_box_here", "_law_way", "_law_k"] ["_law_box_here"] (defScope s__law_step) := ⟨rfl, rfl, rfl, by decide +kernel, rfl, by decide +kernel, by decide +kernel⟩
theorem sc__law_runs : FnScope ["_law_octets", "_law_found", "_law_octet_here"] ["_law_octets"] (defScope s__law_runs) := ⟨rfl, rfl, rfl, by decide +kernel, rfl, by decide +kernel, by decide +kernel⟩
theorem sc__law_run_word : FnScope ["_law_run"] ["_law_run"] (defScope s__law_run_word) := ⟨rfl, rfl, rfl, by decide +kernel, rfl, by decide +kernel, by decide +kernel⟩
theorem sc__law_path_word : FnScope ["_law_path_here", "_law_name_here"] ["_law_path_here"] (defScope s__law_path_word) := ⟨rfl, rfl, rfl, by decide +kernel, rfl, by decide +kernel, by decide +kernel⟩
theorem sc__law_words : FnScope ["_law_step_here", "_law_kind", "_law_runs_here", "_law_run", "_law_path_here"] ["_law_step_here"] (defScope s__law_words) := ⟨rfl, rfl, rfl, by decide +kernel, rfl, by decide +kernel, by decide +kernel⟩
theorem sc__law_line : FnScope ["_law_step_here", "_law_deed"] ["_law_step_here"] (defScope s__law_line) := ⟨rfl, rfl, rfl, by decide +kernel, rfl, by decide +kernel, by decide +kernel⟩
theorem sc__law_near : FnScope ["_law_box_here", "_law_step_here", "_law_way", "_law_at", "_law_near_here"] ["_law_box_here", "_law_step_here"] (defScope s__law_near) := ⟨rfl, rfl, rfl, by decide +kernel, rfl, by decide +kernel, by decide +kernel⟩
theorem sc__law_handed : FnScope ["_law_step_here", "_law_way", "_law_deed"] ["_law_step_here", "_law_way"] (defScope s__law_handed) := ⟨rfl, rfl, rfl, by decide +kernel, rfl, by decide +kernel, by decide +kernel⟩
theorem sc__law_told : FnScope ["_law_step_here", "_law_turn"] ["_law_step_here", "_law_turn"] (defScope s__law_told) := ⟨rfl, rfl, rfl, by decide +kernel, rfl, by decide +kernel, by decide +kernel⟩
theorem sc__law_back : FnScope ["_law_line_here", "_law_turn"] ["_law_line_here", "_law_turn"] (defScope s__law_back) := ⟨rfl, rfl, rfl, by decide +kernel, rfl, by decide +kernel, by decide +kernel⟩
theorem sc__law_asked_right : FnScope ["_law_box_here", "_law_steps", "_law_handed_here", "_law_kept", "_law_turn", "_law_k", "_law_line_here", "_law_step_here"] ["_law_box_here", "_law_steps"] (defScope s__law_asked_right) := ⟨rfl, rfl, rfl, by decide +kernel, rfl, by decide +kernel, by decide +kernel⟩
theorem sc__law_changed_right : FnScope ["_law_box_here", "_law_step_here", "_law_octets", "_law_handed_here", "_law_turn"] ["_law_box_here", "_law_step_here"] (defScope s__law_changed_right) := ⟨rfl, rfl, rfl, by decide +kernel, rfl, by decide +kernel, by decide +kernel⟩
theorem sc__law_right : FnScope ["_law_box_here", "_law_plain", "_law_steps", "_law_lines", "_law_k", "_law_j", "_law_step_here"] ["_law_box_here"] (defScope s__law_right) := ⟨rfl, rfl, rfl, by decide +kernel, rfl, by decide +kernel, by decide +kernel⟩
theorem sc_law : FnScope ["_law_script", "_law_k"] ["_law_script"] (defScope s_law) := ⟨rfl, rfl, rfl, by decide +kernel, rfl, by decide +kernel, by decide +kernel⟩
abbrev FnP (K : PySem.W.Frag) (x : Str) (st : Stmt) (f : Addr) (fd : FuncData) : Prop := FunD K x x (defArgs st) (defBody st) (defScope st) [] [] f fd
abbrev FnM (K : PySem.W.Frag) (m q : Str) (st : Stmt) (f : Addr) (fd : FuncData) : Prop := FunD K m q (defArgs st) (defBody st) (defScope st) [] [] f fd
structure Txt (K : PySem.W.Frag) (mg : Str → Option Value) : Prop where
  f_abs : mg "abs" = none
  f_all : mg "all" = none
  f_bool : mg "bool" = none
  f_int : mg "int" = none
  f_isinstance : mg "isinstance" = none
  f_len : mg "len" = none
  f_list : mg "list" = none
  f_max : mg "max" = none
  f_min : mg "min" = none
  f_range : mg "range" = none
  f_repr : mg "repr" = none
  f_reversed : mg "reversed" = none
  f_str : mg "str" = none
  f_sum : mg "sum" = none
  f_tuple : mg "tuple" = none
  f_zip : mg "zip" = none
  g_DEED_PARTS : mg "DEED_PARTS" = some (.ref (He.ga K "DEED_PARTS"))
  g_DIGITS : ∃ t, mg "DIGITS" = some (.str "0123456789" t)
  g_LEAST_TOGETHER : ∃ t, mg "LEAST_TOGETHER" = some (.int 2 t)
  g_LETTERS : ∃ t, mg "LETTERS" = some (.str "abcdefghijklmnopqrstuvwxyz" t)
  g_MOST_DIGITS : ∃ t, mg "MOST_DIGITS" = some (.int 3 t)
  g_MOST_LETTERS : ∃ t, mg "MOST_LETTERS" = some (.int 8 t)
  g_MOST_SIZE : ∃ t, mg "MOST_SIZE" = some (.int 96 t)
  g_MOST_TOGETHER : ∃ t, mg "MOST_TOGETHER" = some (.int 4 t)
  g_MOST_WRITTEN : ∃ t, mg "MOST_WRITTEN" = some (.int 48 t)
  g_SYNC : ∃ t, mg "SYNC" = some (.str "sync" t)
  g_TOGETHER : ∃ t, mg "TOGETHER" = some (.str "all: " t)
end K19
namespace K19
open PySem PySem.Spec PyProof.Rows L2 VB BM
section
variable {P : Program} {w : World} {K : PySem.W.Frag} {mg : Str → Option Value} {base : Heap} {f : Addr} {fd : FuncData}
def spTake : Sp := fun vs H Q _ => ∃ (a : Addr) (many n : Int), vs = [.ref a, .int many] ∧ Box H a n ∧ 0 < many ∧ many < 1099511627776 ∧ n < 100000000 ∧
  ∀ (r : Int) (H' : Hp), 0 ≤ r → r < many → Exb a H H' → Box H' a (n + 1) → Q (.int r) H'
theorem ok_take (T : Txt K mg) (F : FnP K "_law_take" s__law_take f fd) : Fg P w K mg base CX0 1 f fd ["_law_box_here", "_law_many"] spTake := by
  refine fg_of F sc__law_take (fun vs H Q E h => ?_) (fun cdv A outer s H vs Q E hr h => ⟨_, (PSs.nox (pss_cons (ps_if (PW.pt (pw_and (pt_tru (K := K) (pe_ix (u_ix (K := K)) (pv 0) pe_int (fun _ _ => rfl)) (by intro _; rfl)) (pw_and1 (pt_cmpR op_gt (pe_ix (u_ix (K := K)) (pv 0) pe_int (fun _ _ => rfl)) pe_int (nomark _)))))
  (pss_cons (ps_set (i := 2) sc__law_take.nd rfl (by first | exact Or.inl rfl | exact Or.inr rfl) (pe_op u_mod (pe_callTy call_int1 (by rfl) T.f_int (by decide +kernel) (pa_cons (pe_ix (u_ix (K := K)) (pv 0) pe_int (fun _ _ => rfl)) pa_nil)) (pv 1)))
  (pss_cons (ps_asg (pe_op op_fdivW (pe_ix (u_ix (K := K)) (pv 0) pe_int (fun _ _ => rfl)) (pv 1)) (pg_sub (pv 0) pe_int set_list))
  (pss_one (ps_ret (pv 2))))) pss_nil)
  (pss_cons (ps_asg (pe_op (u_add (K := K)) (pe_ix (u_ix (K := K)) (pv 0) pe_int (fun _ _ => rfl)) pe_int) (pg_sub (pv 0) pe_int set_list))
  (pss_cons (ps_set (i := 3) sc__law_take.nd rfl (by first | exact Or.inl rfl | exact Or.inr rfl) (pe_op u_mod (pe_callTy call_int1 (by rfl) T.f_int (by decide +kernel) (pa_cons (pe_op op_pow (pe_op (u_add (K := K)) (pe_op (u_add (K := K)) (pe_ix (u_ix (K := K)) (pv 0) pe_int (fun _ _ => rfl)) (pe_op (u_mul (K := K)) pe_int (pe_ix (u_ix (K := K)) (pv 0) pe_int (fun _ _ => rfl)))) pe_int) pe_int) pa_nil)) pe_int))
  (pss_one (ps_ret (pe_op u_mod (pe_op op_fdivW (pe_op u_mod (pe_callTy call_int1 (by rfl) T.f_int (by decide +kernel) (pa_cons (pe_op op_pow (pe_op (u_add (K := K)) (pe_op (u_mul (K := K)) (pv 3) pe_int) (pe_op (u_mul (K := K)) pe_int (pe_ix (u_ix (K := K)) (pv 0) pe_int (fun _ _ => rfl)))) pe_int) pa_nil)) pe_int) pe_int) (pv 1)))))))), ?_⟩)
  · obtain ⟨a, many, n, rfl, _⟩ := h
    rfl
  · obtain ⟨a, many, n, rfl, ⟨d, m, c, b, hb, hd, hm, hm2, hc, hc2⟩, h1, h2, hn, q⟩ := h
    have S : SqL K H a [.int d, .bl b, .int m, .int c] := SqL.of hb
    -- the digits' way
    have A1 : b = true → 0 < d → Q (.int (d % many)) (upd H a (.lst [.int (d / many), .bl b, .int m, .int c])) := by
      intro _ _
      refine q _ _ (Int.emod_nonneg _ (by omega)) (Int.emod_lt_of_pos _ h1) Exb.upd ⟨d / many, m, c, b, upd_same, Int.ediv_nonneg hd (by omega), hm, hm2, hc, by omega⟩
    -- the mixed way
    have A2 : ∀ z : Int, Q (.int (z % many)) (upd H a (.lst [.int d, .bl b, .int m, .int (c + 1)])) := by
      intro z
      exact q _ _ (Int.emod_nonneg _ (by omega)) (Int.emod_lt_of_pos _ h1) Exb.upd ⟨d, m, c + 1, b, upd_same, hd, hm, hm2, by omega, by omega⟩
    have S1 : SqL K (upd H a (.lst [.int d, .bl b, .int m, .int (c + 1)])) a [.int d, .bl b, .int m, .int (c + 1)] := SqL.of upd_same
    have k1 : CMulX 15485867 (c + 1) := mulx_ok (a := 30) (b := 30) (by decide) (by show _ < 1073741824; omega) (by decide)
    have k2 : ∀ x : Int, 0 ≤ x → x < 2147483647 → CMulX x 48271 := fun x _ _ => mulx_ok (a := 32) (b := 20) (by show _ < 4294967296; omega) (by decide) (by decide)
    have k3 : CMulX 7919 (c + 1) := mulx_ok (a := 30) (b := 30) (by decide) (by show _ < 1073741824; omega) (by decide)
    have p1 : CPow (m + 15485867 * (c + 1) + 179425033) 5 := ⟨by decide, by decide, by show _ < 18446744073709551616; omega⟩
    have p2 : ∀ x : Int, 0 ≤ x → x < 2147483647 → CPow (x * 48271 + 7919 * (c + 1)) 3 := fun x _ _ => ⟨by decide, by decide, by show _ < 18446744073709551616; omega⟩
    have nz1 : (0 : Int) < 2147483647 := by decide
    have nz2 : (0 : Int) < 2147483587 := by decide
    have cd64 : ∀ x : Int, CDivW x 64 := fun x => ⟨by decide, by decide⟩
    have cdm : ∀ x : Int, CDivW x many := fun x => ⟨h1, by
      have z : many.natAbs < 2 ^ 40 := by show _ < 1099511627776; omega
      have := (Nat.log2_lt (by omega)).2 z
      omega⟩
    have hx0 : ∀ z : Int, 0 ≤ z % 2147483647 ∧ z % 2147483647 < 2147483647 := by
      intro z
      exact ⟨Int.emod_nonneg _ (by decide), Int.emod_lt_of_pos _ (by decide)⟩
    refine ⟨_, rfl, .inl ⟨a, _, 1, _, rfl, rfl, S, rfl, b, rfl, ?_⟩⟩
    by_cases hbd : b = true ∧ 0 < d
    · obtain ⟨rfl, hd0⟩ := hbd
      refine iteT ⟨_, rfl, .inl ⟨a, _, 0, _, rfl, rfl, S, rfl, _, _, rfl, rfl, _, rfl, ?_⟩⟩
      rw [decide_eq_true hd0]
      refine iteT ⟨_, rfl, .inl ⟨a, _, 0, _, rfl, rfl, S, rfl, .inl ⟨_, rfl, _, rfl, _, _, rfl, rfl, h1, ?_⟩⟩⟩
      refine ⟨_, rfl, .inl ⟨a, _, 0, _, rfl, rfl, S, rfl, _, rfl, _, _, rfl, rfl, cdm _, _, rfl, a, _, _, _, rfl, rfl, hb, rfl, ?_⟩⟩
      exact ⟨_, rfl, A1 rfl hd0⟩
    · apply once
      · intro rest
        cases b with
        | false => exact iteF (iteF rest)
        | true =>
          refine iteT ⟨_, rfl, .inl ⟨a, _, 0, _, rfl, rfl, S, rfl, _, _, rfl, rfl, _, rfl, ?_⟩⟩
          rw [decide_eq_false (fun z => hbd ⟨rfl, z⟩)]
          exact iteF rest
      refine ⟨_, rfl, .inl ⟨a, _, 3, _, rfl, rfl, S, rfl, .inl ⟨_, _, rfl, rfl, _, rfl, a, _, _, _, rfl, rfl, hb, rfl, ?_⟩⟩⟩
      refine ⟨_, rfl, .inl ⟨a, _, 2, _, rfl, rfl, S1, rfl, ?_⟩⟩
      refine ⟨_, rfl, .inl ⟨a, _, 3, _, rfl, rfl, S1, rfl, .inl ⟨_, _, rfl, rfl, k1, .inl ⟨_, _, rfl, rfl, .inl ⟨_, _, rfl, rfl, _, _, rfl, rfl, p1, .inl ⟨_, rfl, _, _, rfl, rfl, nz1, ?_⟩⟩⟩⟩⟩⟩
      refine ⟨_, rfl, .inl ⟨_, _, rfl, rfl, k2 _ (hx0 _).1 (hx0 _).2, ?_⟩⟩
      refine ⟨_, rfl, .inl ⟨a, _, 3, _, rfl, rfl, S1, rfl, .inl ⟨_, _, rfl, rfl, k3, .inl ⟨_, _, rfl, rfl, _, _, rfl, rfl, p2 _ (hx0 _).1 (hx0 _).2, .inl ⟨_, rfl, _, _, rfl, rfl, nz2, ?_⟩⟩⟩⟩⟩
      refine ⟨_, _, rfl, rfl, cd64 _, _, rfl, _, _, rfl, rfl, h1, ?_⟩
      exact A2 _
/-! ### cells and boxes -/
def spBox : Sp := fun vs H Q _ => ∃ g : Int, vs = [.int g] ∧ ∀ (p : Addr) (H' : Hp), H p = none → Evl.Ex H H' → Box H' p 0 → Q (.ref p) H'
theorem ok_box (T : Txt K mg) (F : FnP K "_law_box" s__law_box f fd) : Fg P w K mg base CX0 1 f fd ["_law_great"] spBox := by
  refine fg_of F sc__law_box (fun vs H Q E h => ?_) (fun cdv A outer s H vs Q E hr h => ⟨_, (PSs.nox (pss_one (ps_ret (pe_lst (pa_cons (pe_callB call_abs (by rfl) T.f_abs (by decide +kernel) (pa_cons (pv 0) pa_nil)) (pa_cons (pe_cmpR op_ge (pe_callB call_abs (by rfl) T.f_abs (by decide +kernel) (pa_cons (pv 0) pa_nil)) (pe_op op_pow pe_int pe_int) (nomark _)) (pa_cons (pe_op u_mod (pe_callTy call_int1 (by rfl) T.f_int (by decide +kernel) (pa_cons (pe_callB call_abs (by rfl) T.f_abs (by decide +kernel) (pa_cons (pv 0) pa_nil)) pa_nil)) pe_int) (pa_cons pe_int pa_nil)))))))), ?_⟩)
  · obtain ⟨g, rfl, _⟩ := h
    rfl
  · obtain ⟨g, rfl, q⟩ := h
    have nz : (0 : Int) < 2147483629 := by decide
    have hp : CPow 10 18 := ⟨by decide, by decide, by decide⟩
    refine ⟨_, rfl, _, rfl, _, rfl, _, rfl, _, _, rfl, rfl, hp, _, _, rfl, rfl, _, rfl, _, rfl, .inl ⟨_, rfl, _, _, rfl, rfl, nz, ?_⟩⟩
    refine ⟨by show 4 ≤ sizeLine; decide, fun p hp => q p _ hp (Evl.Ex.new hp) ⟨_, _, _, _, upd_same, ?_, ?_, ?_, by omega, by omega⟩⟩
    · split <;> omega
    · exact Int.emod_nonneg _ (by decide)
    · exact Int.emod_lt_of_pos _ (by decide)
def spCell (K : PySem.W.Frag) : Sp := fun vs H Q _ => ∃ (a : Addr) (ns : List Int) (k : Int), vs = [.ref a, .int k] ∧ SqL K H a (ns.map V.int) ∧ 0 ≤ k ∧ k ≤ 100 ∧ ns.length ≤ 1000 ∧
  ∀ (g : Int) (H' : Hp), Evl.Ex H H' → Q (.int g) H'
theorem ok_cell (T : Txt K mg) (F : FnP K "_law_cell" s__law_cell f fd) : Fg P w K mg base CX0 1 f fd ["_law_script", "_law_k"] (spCell K) := by
  refine fg_of F sc__law_cell (fun vs H Q E h => ?_) (fun cdv A outer s H vs Q E hr h => ⟨_, (PSs.nox (pss_one (ps_ret (pe_ifExp (pt_cmpR op_lt (pv 1) (pe_callB (u_len (K := K)) (by rfl) T.f_len (by decide +kernel) (pa_cons (pv 0) pa_nil)) (nomark _)) (pe_ix (u_ix (K := K)) (pv 0) (pv 1) (fun _ _ => rfl)) (pe_op (u_add (K := K)) (pe_op (u_mul (K := K)) pe_int (pv 1)) (pe_op u_mod (pe_callB (u_sum (K := K) rfl) (by rfl) T.f_sum (by decide +kernel) (pa_cons (pe_slice (u_sl (K := K)) (pv 0) po_none (po_some pe_int)) pa_nil)) pe_int)))))), ?_⟩)
  · obtain ⟨a, ns, k, rfl, _⟩ := h
    rfl
  · obtain ⟨a, ns, k, rfl, S, k0, k1, hl, q⟩ := h
    have nz : (0 : Int) < 1000003 := by decide
    refine ⟨_, rfl, _, rfl, _, _, rfl, .inl ⟨_, S, rfl⟩, _, _, rfl, rfl, _, rfl, ?_⟩
    rw [List.length_map]
    refine ite2 (fun h => ?_) (fun h => ?_)
    · have h' : k < (ns.length : Int) := by simpa using h
      obtain ⟨j, rfl⟩ : ∃ j : Nat, k = j := ⟨k.toNat, by omega⟩
      have hj : j < ns.length := by omega
      refine ⟨_, rfl, _, rfl, .inl ⟨a, _, _, .int ns[j], rfl, rfl, S, ?_, q _ _ (Evl.Ex.refl _)⟩⟩
      rw [atI_nat]
      simp [hj]
    · have km : CMulX 7919 k := mulx_ok (a := 30) (b := 30) (by decide) (by show _ < 1073741824; omega) (by decide)
      have cut : ∃ ms : List Int, cutV (ns.map V.int) none (some 1) = ms.map V.int := ⟨(ns.drop _).take _, by unfold cutV; rw [← List.map_drop, ← List.map_take]⟩
      obtain ⟨ms, hms⟩ := cut
      refine ⟨_, rfl, .inl ⟨_, _, rfl, rfl, km, _, rfl, _, rfl, .inl ⟨a, _, rfl, S, fun p hp => ⟨p, ms, rfl, ?_, _, _, rfl, rfl, nz, .inl ⟨_, _, rfl, rfl, q _ _ (Evl.Ex.new hp)⟩⟩⟩⟩⟩
      rw [hms]
      exact SqL.of upd_same
end
end K19
/-! min of one list or tuple of ints -/
namespace VB
open PySem PySem.Spec PyProof.Rows L2 PySem.W
theorem ints_reads (h : Heap) : ∀ {os : List Int} {its : List Value}, Vals (os.map V.int) its → ∃ as, ReadsAll h its (os.map PyData.int) as
  | [], _, r => by
    cases r
    exact ⟨[], .nil⟩
  | o :: os, _, r => by
    cases r with
    | cons r1 r2 =>
      obtain ⟨t, rfl⟩ := r1
      obtain ⟨as, ha⟩ := ints_reads h r2
      exact ⟨_, .cons (.int o t) ha⟩
theorem ints_alike (os : List Int) : AlikeAll (os.map PyData.int) := by
  refine ⟨fun x hx y hy => ?_, fun x hx => ?_⟩
  · obtain ⟨a, _, rfl⟩ := List.mem_map.mp hx
    obtain ⟨b, _, rfl⟩ := List.mem_map.mp hy
    rfl
  · obtain ⟨a, _, rfl⟩ := List.mem_map.mp hx
    exact fun z => nomatch z
theorem ints_depth : ∀ os : List Int, PyData.depthAll (os.map PyData.int) = 0
  | [] => rfl
  | o :: os => by
    show Nat.max 0 (PyData.depthAll (os.map PyData.int)) = 0
    rw [ints_depth os]
    rfl
theorem foldl_min_mem : ∀ (os : List Int) (n : Int), os.foldl min n ∈ n :: os
  | [], n => List.mem_cons_self ..
  | o :: os, n => by
    have h := foldl_min_mem os (min n o)
    rw [List.foldl_cons]
    rcases List.mem_cons.mp h with z | z
    · rw [z]
      by_cases c : n ≤ o
      · rw [Int.min_eq_left c]
        exact List.mem_cons_self ..
      · rw [Int.min_eq_right (by omega)]
        exact List.mem_cons_of_mem _ (List.mem_cons_self ..)
    · exact List.mem_cons_of_mem _ (List.mem_cons_of_mem _ z)
theorem foldl_min_le : ∀ (os : List Int) (n : Int), (os.foldl min n ≤ n) ∧ ∀ y ∈ os, os.foldl min n ≤ y
  | [], n => ⟨Int.le_refl _, fun y hy => nomatch hy⟩
  | o :: os, n => by
    obtain ⟨h1, h2⟩ := foldl_min_le os (min n o)
    rw [List.foldl_cons]
    refine ⟨by omega, fun y hy => ?_⟩
    rcases List.mem_cons.mp hy with z | z
    · omega
    · exact h2 y z
def rMin1 (K : PySem.W.Frag) : List V → Hp → VK → Prop := fun vs H Q => ∃ (a : Addr) (os : List Int) (t : Bool), vs = [.ref a] ∧ Sv t K H a (IV os) ∧ 0 < os.length ∧ ∀ m, m ∈ os → (∀ y, y ∈ os → m ≤ y) → Q (.int m) H
section
variable {X : Cx} {K : PySem.W.Frag}
theorem u_min1 {k : Nat} (hr : Rm k X.A) (hc : X.calm = true) (hK : X.K = K := by rfl) : CallR X (.builtin "min") (rMin1 K) := by
  subst hK
  intro pins s σ H vs us Q I r h
  obtain ⟨a, os, t, rfl, hs, hne, q⟩ := h
  cases t with
  | false => exact cr_min hc pins s σ H [.ref a] us Q I r ⟨a, os, rfl, hs, hne, q⟩
  | true =>
    obtain ⟨its, rv, ⟨⟨cls, dd, data, sl⟩, ho, hcl, n, hd⟩, hsz⟩ := I.tuple hs
    simp only at hcl hd
    subst hcl hd
    rw [Vals.ref1 r]
    obtain ⟨as, ra⟩ := ints_reads s.heap (show Vals (os.map V.int) its from rv)
    cases os with
    | nil => exact absurd hne (Nat.lt_irrefl 0)
    | cons o os =>
      have u2 := hr.rm.units
      have un : X.A.units + 1 + PyData.depthAll (PyData.int o :: os.map PyData.int) < cLine := by
        have e : PyData.depthAll (PyData.int o :: os.map PyData.int) = 0 := ints_depth (o :: os)
        rw [e]
        omega
      have ra' : ReadsAll s.heap its.toArray.toList (PyData.int o :: os.map PyData.int) as := by simpa using ra
      refine min_tuple_data (I.ok.hd hc) (vs := its.toArray) ⟨_, ho, rfl, n, rfl⟩ ra' (ints_alike (o :: os)) un fun i v h' tk bs hv rd hk => ?_
      rw [minD_ints] at rd
      cases rd with
      | int _ t =>
        obtain ⟨h1, h2⟩ := foldl_min_le os o
        exact ⟨.int _, H, I.kept hk, ⟨_, rfl⟩, q _ (foldl_min_mem os o) fun y hy => by
          rcases List.mem_cons.mp hy with z | z
          · rw [z]
            exact h1
          · exact h2 y z⟩
end
end VB
namespace K19
open PySem PySem.Spec PyProof.Rows L2 VB BM
section
variable {P : Program} {w : World} {K : PySem.W.Frag} {mg : Str → Option Value} {base : Heap} {f : Addr} {fd : FuncData}
def spIsList (K : PySem.W.Frag) : Sp := fun vs H Q _ => ∃ (a : Addr) (xs : List V) (t : Bool), vs = [.ref a] ∧ Sv t K H a xs ∧ RV (.bl true) H Q
theorem ok_is_list (T : Txt K mg) (F : FnP K "is_list" s_is_list f fd) : Fg P w K mg base CX0 1 f fd ["value"] (spIsList K) := by
  refine fg_of F sc_is_list (fun vs H Q E h => ?_) (fun cdv A outer s H vs Q E hr h => ⟨_, (PSs.nox (pss_one (ps_ret (pe_callB (u_isiT (K := K)) (by rfl) T.f_isinstance (by decide +kernel) (pa_cons (pv 0) (pa_cons (pe_tup (pa_cons (pe_bltn (v := .ty "list") rfl T.f_list (by decide +kernel) rfl) (pa_cons (pe_bltn (v := .ty "tuple") rfl T.f_tuple (by decide +kernel) rfl) pa_nil))) pa_nil)))))), ?_⟩)
  · obtain ⟨a, xs, t, rfl, _⟩ := h
    rfl
  · obtain ⟨a, xs, t, rfl, S, q⟩ := h
    refine ⟨_, rfl, by show 2 ≤ sizeLine; decide, fun tp ht => ?_⟩
    have e0 := Evl.Ex.new (o := .tup [.ty "list", .ty "tuple"]) ht
    exact ⟨_, tp, _, _, [.type "list", .type "tuple"], true, rfl, upd_same, .cons (.ty _) (.cons (.ty _) .nil), (S.ex e0).ty, kit_seq K t, q _ e0⟩
def spIsOct (K : PySem.W.Frag) : Sp := fun vs H Q _ => ∃ (a : Addr) (os : List Int) (t : Bool), vs = [.ref a] ∧ Sv t K H a (IV os) ∧ Oct os ∧ os.length ≤ 20000 ∧ RV (.bl true) H Q
theorem ok_is_octets (T : Txt K mg) (F : FnP K "is_octets" s_is_octets f fd) (C_is_list : Cal P w K mg base CX0 1 "is_list" ["value"] (spIsList K)) : Fg P w K mg base CX0 2 f fd ["value"] (spIsOct K) := by
  refine fg_of F sc_is_octets (fun vs H Q E h => ?_) (fun cdv A outer s H vs Q E hr h => ⟨_, (PSs.nox (pss_one (ps_ret (pe_and (pe_cal C_is_list hr.le pass0 (pa_cons (pv 0) pa_nil)) (pe_one (pe_callB (u_all (K := K) rfl) (by rfl) T.f_all (by decide +kernel) (pa_cons (pe_lc (own := [("octet", 1)]) rfl sc_is_octets.nd (pi_seq (K := K) (pv 0)) (blkOk_by (own := [("octet", 1)]) (N := ["value", "octet"]) (sc := defScope s_is_octets) (by decide +kernel)) (fun _ _ _ _ _ => (pg_name (i := 1) sc_is_octets.nd rfl (by first | exact Or.inl rfl | exact Or.inr rfl))) (fun _ _ _ _ _ => pts_nil) (fun _ _ _ _ _ => (pe_and (pe_callB (u_isi (K := K)) (by rfl) T.f_isinstance (by decide +kernel) (pa_cons (pv 1) (pa_cons (pe_bltn (v := .ty "int") rfl T.f_int (by decide +kernel) rfl) pa_nil))) (pe_and (pe_not (pe_callB (u_isi (K := K)) (by rfl) T.f_isinstance (by decide +kernel) (pa_cons (pv 1) (pa_cons (pe_bltn (v := .ty "bool") rfl T.f_bool (by decide +kernel) rfl) pa_nil)))) (pe_one (pe_chain op_le op_le pe_int (pv 1) pe_int)))))) pa_nil))))))), ?_⟩)
  · obtain ⟨a, os, t, rfl, _⟩ := h
    rfl
  · obtain ⟨a, os, t, rfl, S, ho, hl, q⟩ := h
    refine ⟨_, rfl, a, _, t, rfl, S, fun H0 e0 => ⟨true, rfl, iteT ?_⟩⟩
    refine seq_var (t := t) rfl (S.ex e0) fun J wk D hD => ?_
    rw [iv_len] at wk
    refine lc_pureVS (us := List.replicate os.length (V.bl true)) wk (fun H' ex => (S.ex e0).ex ex) (by simp) (by omega) hD (fun _ => rfl) ?_ ?_
    · intro i x u H' Q' hx hu ex k
      obtain ⟨o, hoi, rfl⟩ := iv_get hx
      have hm := ho o (List.mem_of_getElem? hoi)
      rw [List.eq_of_mem_replicate (List.mem_of_getElem? hu)] at k
      refine ⟨_, rfl, _, _, _, _, true, rfl, .ty _, .base (.int o), kit_ty (by decide +kernel), true, rfl, iteT ?_⟩
      refine ⟨_, rfl, _, _, _, _, false, rfl, .ty _, .base (.int o), kit_ty (by decide +kernel), false, rfl, true, rfl, iteT ?_⟩
      refine ⟨_, rfl, _, _, rfl, rfl, _, rfl, ?_⟩
      rw [decide_eq_true hm.1]
      refine iteT ⟨_, _, rfl, rfl, ?_⟩
      dsimp only
      rw [decide_eq_true hm.2]
      exact k H' (Evl.Ex.refl _)
    · intro H' ex h3
      refine ⟨D, List.replicate os.length true, rfl, SqL.of (by rw [h3, List.map_replicate]), ?_⟩
      have e : (List.replicate os.length true).all id = true := by
        rw [List.all_eq_true]
        intro b hb
        exact List.eq_of_mem_replicate hb
      rw [e]
      exact q _ (e0.trans ex)
end
end K19
/-! d.get(x) of a dict of the module, keys that are texts -/
namespace VB
open PySem PySem.Spec PyProof.Rows L2
/-- such a dict -/
def KDc (K : PySem.W.Frag) (w : World) (a : Addr) : Prop := ∃ es n, K.lookup a = some ⟨.type "dict", none, .dict es n, #[]⟩ ∧ PySem.W.KeysLit w.params es.toList ∧ (a == sysModules) = false
/-- what it gives for x -/
def KGt (K : PySem.W.Frag) (a : Addr) (x : Str) (v : V) : Prop := (∃ u, PySem.W.nsIn K a x = some (some u) ∧ RelV v u) ∨ (PySem.W.nsIn K a x = some none ∧ v = .non)
def tKGet (K : PySem.W.Frag) (w : World) (td ty : TE) : TE := fun σ H Q => td σ H fun x H1 => ∃ p, x = .ref p ∧ KDc K w p ∧ ty σ H1 fun y H2 => ∃ z v, y = .str z ∧ KGt K p z v ∧ Q v H2
section
variable {X : Cx} {o e : Expr} {apos cpos : Pos} {td ty : TE}
theorem pe_kget (ho : PE X o td) (he : PE X e ty) (m : M1 X o "get" apos e cpos) : PE X (.Call (.Attribute o "get" apos) [e] [] cpos) (tKGet X.K X.w td ty) := by
  refine ⟨fun pins s σ H Q I h => ?_⟩
  refine wpAny_Call_method m.base m.few m.line PySem.F.plainAttrs_dict PySem.F.slot_dict_get PySem.F.type_dict_get (thn (ho.run pins s σ H _ I h) fun u s1 ⟨x, H1, I1, rx, a, ex, ⟨es, n, hl, hk, ns⟩, q1⟩ => ?_)
  subst ex
  obtain rfl : u = Value.ref a := rx
  have hm := PySem.W.mapOf_K (prog := X.prog) (w := X.w) I1.kIn hl hk
  refine ⟨hm.typeIs, fun b q => ?_, ?_⟩
  · cases q
    exact ⟨_, I1.kIn _ _ hl, rfl⟩
  rw [m.trees]
  refine Calls.callWith_builtin rfl (Calls.evalArgs_plain (Calls.spliced_cons (thn (he.run pins s1 σ H1 _ I1 q1) fun iv s2 ⟨y, H2, I2, ry, z, v, ey, g, q2⟩ => Calls.spliced_nil ?_)))
  subst ey
  obtain ⟨t, rfl⟩ := ry
  have hm2 := PySem.W.mapOf_K (prog := X.prog) (w := X.w) I2.kIn hl hk
  show wpAny (model X.prog X.w) X.A (call (.builtin "dict.get") [.ref a, .str z t]) (EP X pins σ Q) X.xe s2
  refine call_meetsIn PySem.F.slot_dict_get hm2.typeIs PySem.F.entry_dict_get (PySem.F.args_dict_get_2 _ _) (meets_dict_get (PySem.strKind X.prog X.w) a (strKind_is X.prog X.w z t) ns) ⟨_, hm2, v, H2, I2.tok _, ?_, q2⟩
  rcases g with ⟨u, e1, ru⟩ | ⟨e1, rfl⟩
  · rw [PySem.W.find_K hl e1]
    exact ru
  · rw [PySem.W.find_K hl e1]
    rfl
end
end VB
/-! steps -/
namespace K19
open PySem PySem.Spec PyProof.Rows L2 VB BM
def Nm (x : Str) : Prop := 1 ≤ x.cps.size ∧ x.cps.size ≤ 8 ∧ ∀ c ∈ x.cps.toList, 97 ≤ c ∧ c ≤ 122
/-- a part of a deed -/
inductive Pt
  | path (p : List Str)
  | size (n : Int)
  | octs (os : List Int)
  | name (x : Str)
def Pt.kd : Pt → Str
  | .path _ => "path"
  | .size _ => "size"
  | .octs _ => "octets"
  | .name _ => "name"
def Pt.Good : Pt → Prop
  | .path p => (∀ x ∈ p, Nm x) ∧ p.length ≤ 40
  | .size n => 0 ≤ n ∧ n ≤ 96
  | .octs os => Oct os ∧ 1 ≤ os.length ∧ os.length ≤ 48
  | .name x => Nm x
/-- v is the part; its octets in a list or a tuple -/
def PtAt (H : Hp) (v : V) : Pt → Prop
  | .path p => ∃ a : Addr, v = .ref a ∧ H a = some (.tup (p.map V.str))
  | .size n => v = .int n
  | .octs os => ∃ a : Addr, v = .ref a ∧ (H a = some (.tup (IV os)) ∨ H a = some (.lst (IV os)))
  | .name x => v = .str x
theorem PtAt.ex {H H' : Hp} {v : V} {p : Pt} (h : PtAt H v p) (e : Evl.Ex H H') : PtAt H' v p := by
  cases p with
  | path p => obtain ⟨a, h1, h2⟩ := h; exact ⟨a, h1, e _ _ h2⟩
  | size n => exact h
  | octs os => obtain ⟨a, h1, h2⟩ := h; exact ⟨a, h1, h2.imp (e _ _) (e _ _)⟩
  | name x => exact h
/-- the words of deeds and the kinds of their parts -/
abbrev tabW : List Str := ["file", "dir", "write", "cut", "link", "move", "drop", "keep", "let"]
abbrev tabK : List (List Str) := [["path"], ["path"], ["path", "size", "octets"], ["path", "size"], ["path", "path"], ["path", "path"], ["path"], ["name"], ["name"]]
/-- a single deed: which one, and its parts -/
structure Dd where
  i : Nat
  ps : List Pt
def Dd.w (d : Dd) : Str := tabW.getD d.i ""
structure Dd.Good (d : Dd) : Prop where
  i9 : d.i < 9
  kd : d.ps.map Pt.kd = tabK.getD d.i []
  gd : ∀ p ∈ d.ps, p.Good
def DdAt (H : Hp) (v : V) (d : Dd) : Prop := ∃ (a : Addr) (vs : List V), v = .ref a ∧ H a = some (.tup (.str d.w :: vs)) ∧ Paired (PtAt H) vs d.ps
theorem pr_mono {α β : Type} {R S : α → β → Prop} (h : ∀ a b, R a b → S a b) : ∀ {xs : List α} {ys : List β}, Paired R xs ys → Paired S xs ys
  | _, _, .nil => .nil
  | _, _, .cons r t => .cons (h _ _ r) (pr_mono h t)
theorem DdAt.ex {H H' : Hp} {v : V} {d : Dd} (h : DdAt H v d) (e : Evl.Ex H H') : DdAt H' v d := by
  obtain ⟨a, vs, h1, h2, h3⟩ := h
  exact ⟨a, vs, h1, e _ _ h2, pr_mono (fun _ _ z => z.ex e) h3⟩
inductive Stp
  | one (d : Dd)
  | all (ds : List Dd)
  | sync
def Stp.Good : Stp → Prop
  | .one d => d.Good
  | .all ds => 2 ≤ ds.length ∧ ds.length ≤ 4 ∧ ∀ d ∈ ds, d.Good ∧ d.i < 7
  | .sync => True
def StpAt (H : Hp) (v : V) : Stp → Prop
  | .one d => DdAt H v d
  | .all ds => ∃ (a b : Addr) (vs : List V), v = .ref a ∧ H a = some (.tup [.str "all", .ref b]) ∧ H b = some (.tup vs) ∧ Paired (DdAt H) vs ds
  | .sync => ∃ a : Addr, v = .ref a ∧ H a = some (.tup [.str "sync"])
theorem StpAt.ex {H H' : Hp} {v : V} {s : Stp} (h : StpAt H v s) (e : Evl.Ex H H') : StpAt H' v s := by
  cases s with
  | one d => exact DdAt.ex h e
  | all ds =>
    obtain ⟨a, b, vs, h1, h2, h3, h4⟩ := h
    exact ⟨a, b, vs, h1, e _ _ h2, e _ _ h3, pr_mono (fun _ _ z => z.ex e) h4⟩
  | sync =>
    obtain ⟨a, h1, h2⟩ := h
    exact ⟨a, h1, e _ _ h2⟩
end K19
/-! "".join(a list of texts of one sign each) -/
namespace VB
open PySem PySem.Spec PyProof.Rows L2
abbrev chV (c : Nat) : V := .str ⟨#[c]⟩
def rJoin1 : V → List V → Hp → VK → Prop := fun x xs H Q => ∃ (D : Addr) (cs : List Nat), x = .str "" ∧ xs = [.ref D] ∧ H D = some (.lst (cs.map chV)) ∧ cs.length ≤ 1000 ∧ Q (.str ⟨cs.toArray⟩) H
theorem joinL_ones : ∀ cs : List Nat, TL.joinL [] (cs.map fun c => [c]) = cs
  | [] => rfl
  | [c] => rfl
  | c :: d :: r => by
    show [c] ++ ([] ++ TL.joinL [] ((d :: r).map fun c => [c])) = c :: d :: r
    rw [joinL_ones (d :: r)]
    rfl
theorem join_cs (cs : List Nat) : PySem.Txt.join (PySem.Str.ofString "") (cs.map fun c => (⟨#[c]⟩ : Str)) = ⟨cs.toArray⟩ := by
  show Builtin.Str.glued (PySem.Str.ofString "") _ = _
  rw [StrLaws.glued_eq_join]
  have h := TL.tl_join (PySem.Str.ofString "") (cs.map fun c => (⟨#[c]⟩ : Str))
  have e0 : TL.tl (PySem.Str.ofString "") = [] := by decide
  have e1 : (cs.map fun c => (⟨#[c]⟩ : Str)).map TL.tl = cs.map fun c => [c] := by
    rw [List.map_map]
    rfl
  rw [e0, e1, joinL_ones] at h
  generalize Str.join (PySem.Str.ofString "") (cs.map fun c => (⟨#[c]⟩ : Str)) = z at h ⊢
  obtain ⟨a⟩ := z
  have h : a.toList = cs := h
  rw [← h]
theorem car_cs : ∀ {cs : List Nat} {its : List Value}, Vals (cs.map chV) its → CarriedAll its (cs.map fun c => PyData.str (⟨#[c]⟩ : Str))
  | [], its, h => by
    cases h
    exact .nil
  | c :: cs, its, h => by
    cases h with
    | cons r t =>
      obtain ⟨t', rfl⟩ := (show ∃ t, _ = Value.str ⟨#[c]⟩ t from r)
      exact .cons (.str _ _) (car_cs t)
theorem mt_join1 {X : Cx} : MtR X "str.join" rJoin1 := by
  intro pins s σ H x xs v us Q I rx rxs h
  obtain ⟨D, cs, rfl, rfl, hD, hl, q⟩ := h
  obtain ⟨t, rfl⟩ := (show ∃ t, v = Value.str "" t from rx)
  obtain ⟨u, rfl, ru⟩ := rxs.one
  cases (show u = Value.ref D from ru)
  have hx : ObjOk X.prog X.w H s.heap D (.lst _) := I.hok D _ hD
  obtain ⟨_, its, n, rv, ho⟩ := hx
  refine PySem.W.KT.join_1 (l := cs) (g := fun c => (⟨#[c]⟩ : Str)) (D := D) (ys := its) ⟨_, ho, rfl, n, rfl⟩ (car_cs rv) (fun a _ => rfl) (by omega) fun t' k e => ?_
  rw [join_cs]
  exact ⟨.str ⟨cs.toArray⟩, H, I.tok _, ⟨t', rfl⟩, q⟩
/-- a tuple times nought -/
theorem tuple_mul0 (l : Addr) (items : Array Value) (n : Nat) (dd : Option Addr) (sl : Array (Option Value)) (u : Tok) (hi : items.isEmpty = false) :
    Meets (Builtin.«tuple.__mul__» ⟨[.ref l, .int 0 u], []⟩) (fun _ R s => s.heap.get? l = some { cls := .type "tuple", dict := dd, data := .seq items n, slots := sl } ∧
      R (.ok (.ret (Value.ref s.heap.objs.size))) { s with heap := s.heap.push { cls := Value.type "tuple", data := Data.seq #[] }, toks := s.toks }) :=
  .of_wp fun prog w A R s h => by
    obtain ⟨hp, g, d, tk, os⟩ := s
    obtain ⟨hl, h⟩ := h
    have f1 := AutoSeq1.idx_int
    have c1 : (items.isEmpty || (0 : Int) == 1) = false := by rw [hi]; rfl
    wp_walk using AutoSeq1.wpAny_loadPart' hl
    repeat (first
      | (refine wpAny_ite_false (decide_eq_false (by rw [c1]; exact Bool.false_ne_true)) ?_; wp_walk using AutoSeq1.wpAny_loadPart' hl)
      | (refine wpAny_ite_false (by decide) ?_; wp_walk using AutoSeq1.wpAny_loadPart' hl))
    exact ⟨_, rfl, h⟩
def rRepT0 (K : PySem.W.Frag) : R2 := fun x y H Q => ∃ l xs, x = .ref l ∧ y = .int 0 ∧ SqT K H l xs ∧ xs ≠ [] ∧ ∀ p, H p = none → Q (.ref p) (upd H p (.tup []))
theorem op_repT0 {X : Cx} : OpR X (binaryOp .Mult) (rRepT0 X.K) := by
  intro pins s σ H x y v u Q I rx ry h
  obtain ⟨l, xs, rfl, rfl, hT, hne, q⟩ := h
  cases rx
  obtain ⟨t, rfl⟩ := ry
  obtain ⟨its, r, ⟨⟨cls, dd, data, sl⟩, ho, hc, n, hd⟩, hs⟩ := I.tuple hT
  simp only at hc hd
  subst hc hd
  have hi : its.toArray.isEmpty = false := by
    cases r with
    | nil => exact absurd rfl hne
    | cons => rfl
  refine wpAny_binaryOp_repeat_ref (T := "tuple") (U := "int") (by decide) ⟨_, ho, rfl⟩ (fun s' => typeIs_int s' 0 t) noFill_tuple_mul F.fills_int_mul F.slot_int_rmul repeat_tuple F.slot_int_index.lookup
    (call_meets F.slot_int_rmul (typeIs_int s 0 t) F.entry_int_rmul (F.args_int_rmul_2 _ _) (int_rmul_tuple 0 t l its.toArray n dd sl)
      ⟨ho, rfl, ⟨_, ho, rfl⟩, call_meets F.slot_tuple_mul ⟨_, ho, rfl⟩ F.entry_tuple_mul (F.args_tuple_mul_2 _ _) (tuple_mul0 l its.toArray n dd sl t hi) ⟨ho, ?_⟩⟩)
  refine ⟨.ref s.heap.objs.size, _, I.laid (t' := s.toks) (o := .tup []) (fun b ob q => Heap.get?_push_of_some _ q) (Nat.le_refl _) ?_, rfl, q _ (I.hok.fresh (Nat.le_refl _))⟩
  exact ⟨Nat.zero_le _, [], .nil, IsTup.new _ _⟩
def rMul0 (K : PySem.W.Frag) : R2 := fun x y H Q => rMulU K x y H Q ∨ rRepT0 K x y H Q
theorem u_mul0 {X : Cx} {K : PySem.W.Frag} (hK : X.K = K := by rfl) : OpR X (binaryOp .Mult) (rMul0 K) := by
  subst hK
  exact (u_mul rfl).or op_repT0
end VB
/-! the law's draws -/
namespace K19
open PySem PySem.Spec PyProof.Rows L2 VB BM
section
variable {P : Program} {w : World} {K : PySem.W.Frag} {mg : Str → Option Value} {base : Heap} {f : Addr} {fd : FuncData}
theorem exb_mut {b D : Addr} {H H' : Hp} {o : HO} (e : Exb b H H') (n : H D = none) : Exb b H (upd H' D o) := fun a u ne h => by
  rw [upd_ne (fun z => by rw [z, n] at h; cases h)]
  exact e a u ne h
theorem box_mut {b D : Addr} {H : Hp} {o : HO} {c : Int} (B : Box H b c) (n : D ≠ b) : Box (upd H D o) b c := by
  obtain ⟨d, m, k, t, h, r⟩ := B
  exact ⟨d, m, k, t, by rw [upd_ne (Ne.symm n)]; exact h, r⟩
theorem ix_l {H : Hp} {l : Addr} {xs : List V} {r : Int} {Q : VK} (h : H l = some (.lst xs)) (r0 : 0 ≤ r) (r1 : r < (xs.length : Int)) (q : ∀ v ∈ xs, Q v H) : rIx K (.ref l) (.int r) H Q := by
  obtain ⟨j, rfl⟩ : ∃ j : Nat, r = j := ⟨r.toNat, by omega⟩
  have hj : j < xs.length := by omega
  exact Sv.ix (x := .non) (Sv.lst h) (i := (j : Int)) (atI_nat (List.getElem?_eq_getElem hj)) (q _ (List.getElem_mem hj))
theorem dki' (a b : Int) : decide (V.int a = V.int b) = decide (a = b) := by
  by_cases h : a = b
  · rw [h, decide_eq_true rfl, decide_eq_true rfl]
  · rw [decide_eq_false h, decide_eq_false fun z => h (V.int.inj z)]
theorem iv_mem {v : V} {xs : List Int} {p : Int → Prop} (h : v ∈ IV xs) (g : ∀ x ∈ xs, p x) : ∃ n, v = V.int n ∧ p n := by
  obtain ⟨z, hz, rfl⟩ := List.mem_map.mp h
  exact ⟨z, rfl, g z hz⟩
def spNameL : Sp := fun vs H Q _ => ∃ (bx : Addr) (c : Int), vs = [.ref bx] ∧ Box H bx c ∧ c < 60000000 ∧ ∀ (x : Str) (H' : Hp), Nm x → Exb bx H H' → Box H' bx (c + 10) → Q (.str x) H'
theorem ok_lname (T : Txt K mg) (F : FnP K "_law_name" s__law_name f fd) (C__law_take : Cal P w K mg base CX0 1 "_law_take" ["_law_box_here", "_law_many"] spTake) : Fg P w K mg base CX0 2 f fd ["_law_box_here"] spNameL := by
  refine fg_of F sc__law_name (fun vs H Q E h => ?_) (fun cdv A outer s H vs Q E hr h => ⟨_, (PSs.nox (pss_cons (ps_set (i := 1) sc__law_name.nd rfl (by first | exact Or.inl rfl | exact Or.inr rfl) (pe_cal C__law_take hr.le pass0 (pa_cons (pv 0) (pa_cons pe_int pa_nil))))
  (pss_cons (ps_if (pt_cmpR (u_eq (K := K) hr) (pv 1) pe_int (nomark _))
  (pss_one (ps_ret (pe_ix (u_ix (K := K)) (pe_lst (pa_cons pe_str (pa_cons pe_str (pa_cons pe_str (pa_cons pe_str (pa_cons pe_str (pa_cons pe_str (pa_cons pe_str (pa_cons pe_str pa_nil))))))))) (pe_cal C__law_take hr.le pass0 (pa_cons (pv 0) (pa_cons pe_int pa_nil))) (fun _ _ => rfl)))) pss_nil)
  (pss_cons (ps_set (i := 2) sc__law_name.nd rfl (by first | exact Or.inl rfl | exact Or.inr rfl) (pe_ix (u_ix (K := K)) (pe_lst (pa_cons pe_int (pa_cons pe_int (pa_cons pe_int (pa_cons pe_int (pa_cons pe_int (pa_cons (pe_op (u_add (K := K)) pe_int (pe_cal C__law_take hr.le pass0 (pa_cons (pv 0) (pa_cons pe_int pa_nil)))) pa_nil))))))) (pe_op op_sub (pv 1) pe_int) (fun _ _ => rfl)))
  (pss_one (ps_ret (pe_bm PySem.F.plainAttrs_str PySem.F.slot_str_join PySem.F.type_str_join mt_join1 pe_str (pa_cons (pe_lc (own := [("_law_k", 3)]) rfl sc__law_name.nd (pi_range1 rfl T.f_range (pa_cons (pv 2) pa_nil)) (blkOk_by (own := [("_law_k", 3)]) (N := ["_law_box_here", "_law_way", "_law_many", "_law_k"]) (sc := defScope s__law_name) (by decide +kernel)) (fun _ _ _ _ _ => (pg_name (i := 3) sc__law_name.nd rfl (by first | exact Or.inl rfl | exact Or.inr rfl))) (fun _ _ _ _ _ => pts_nil) (fun _ _ _ _ _ => (pe_ix (u_ix (K := K)) pe_str (pe_cal C__law_take hr.le pass0 (pa_cons (pv 0) (pa_cons pe_int pa_nil))) (fun _ _ => rfl)))) pa_nil)))))))), ?_⟩)
  · obtain ⟨bx, c, rfl, _⟩ := h
    rfl
  · obtain ⟨bx, c, rfl, B, hc, q⟩ := h
    refine ⟨_, rfl, bx, 7, c, rfl, B, by decide, by decide, by omega, fun r H1 r0 r7 e1 B1 => ?_⟩
    refine ⟨_, rfl, .inl ⟨rfl, _, rfl, ?_⟩⟩
    rw [dki']
    by_cases hw : r = 0
    · rw [decide_eq_true hw]
      refine iteT ⟨by show 8 ≤ sizeLine; decide, fun l nl => ?_⟩
      have y := Evl.Ex.new (o := .lst [V.str "file", .str "dir", .str "write", .str "all", .str "link", .str "keep", .str "let", .str "sync"]) nl
      refine ⟨_, rfl, bx, 8, c + 1, rfl, B1.ex y, by decide, by decide, by omega, fun r' H2 r0' r2' e2 B2 => ?_⟩
      have hl := e2 _ _ (B1.at nl) (upd_same (H := H1) (a := l) (o := .lst [V.str "file", .str "dir", .str "write", .str "all", .str "link", .str "keep", .str "let", .str "sync"]))
      refine ix_l hl r0' r2' fun v hv => ?_
      have hx : ∀ x ∈ (["file", "dir", "write", "all", "link", "keep", "let", "sync"] : List Str), Nm x := by unfold Nm; decide +kernel
      obtain ⟨x, mx, rfl⟩ : ∃ x, x ∈ (["file", "dir", "write", "all", "link", "keep", "let", "sync"] : List Str) ∧ v = V.str x := by
        have : v ∈ (["file", "dir", "write", "all", "link", "keep", "let", "sync"] : List Str).map V.str := hv
        obtain ⟨x, h1, h2⟩ := List.mem_map.mp this
        exact ⟨x, h1, h2.symm⟩
      exact q x _ (hx x mx) ((e1.trans (Exb.of y)).trans e2) (B2.le (by omega))
    rw [decide_eq_false hw]
    refine iteF ?_
    refine ⟨_, rfl, bx, 8, c + 1, rfl, B1, by decide, by decide, by omega, fun r2 H2 a0 a8 e2 B2 => .inl ⟨_, _, rfl, rfl, by show 6 ≤ sizeLine; decide, fun l nl => ?_⟩⟩
    have y := Evl.Ex.new (o := .lst (IV [1, 1, 2, 8, 7, 1 + r2])) nl
    refine ⟨_, rfl, _, _, rfl, rfl, ix_l (xs := IV [1, 1, 2, 8, 7, 1 + r2]) upd_same (by omega) (by show _ < (6 : Int); omega) fun v hv => ?_⟩
    obtain ⟨m, rfl, m1, m8⟩ := iv_mem (p := fun n => 1 ≤ n ∧ n ≤ 8) hv (by simp; omega)
    have B2 := B2.ex y
    have e2 := (e1.trans e2).trans (Exb.of y)
    refine ⟨rfl, _, rfl, m, rfl, by omega, by omega, fun D hD => ?_⟩
    obtain ⟨n, hn, n1, n8⟩ : ∃ n : Nat, m.toNat = n ∧ 1 ≤ n ∧ n ≤ 8 := ⟨_, rfl, by omega, by omega⟩
    rw [hn]
    refine lc_range (lo := 0) (n := n) (fun i H' => i ≤ n ∧ Exb bx (upd H2 l (.lst (IV [1, 1, 2, 8, 7, 1 + r2]))) H' ∧ Box H' bx (c + 2 + (i : Int)) ∧ ∃ cs : List Nat, cs.length = i ∧ (∀ z ∈ cs, 97 ≤ z ∧ z ≤ 122) ∧ H' D = some (.lst (cs.map chV))) ⟨by omega, Exb.new hD, by rw [show c + 2 + ((0 : Nat) : Int) = c + 1 + 1 by omega]; exact B2.ex (Evl.Ex.new hD), [], rfl, (fun z hz => by cases hz), upd_same⟩ ?_ ?_
    · rintro i H4 hi ⟨_, e4, B4, cs, lc, hcs, h4⟩
      refine ⟨rfl, ?_⟩
      refine ⟨_, rfl, bx, 26, c + 2 + (i : Int), rfl, B4, by decide, by decide, by omega, fun z H5 z0 z26 e5 B5 => ?_⟩
      obtain ⟨j, rfl⟩ : ∃ j : Nat, z = j := ⟨z.toNat, by omega⟩
      have hj : j < 26 := by omega
      have Db : D ≠ bx := (B2.at hD)
      have ha : atI ("abcdefghijklmnopqrstuvwxyz" : Str).cps.toList (j : Int) = some (97 + j) := by
        have e : ("abcdefghijklmnopqrstuvwxyz" : Str).cps.toList = (List.range 26).map (97 + ·) := by decide +kernel
        exact atI_nat (by rw [e]; simp [hj])
      refine .inr (.inr ⟨_, _, 97 + j, rfl, rfl, by show 26 ≤ sizeLine; decide, ha, cs.map chV, e5 _ _ Db h4, by rw [List.length_map]; exact Evl.sz_lt (by omega), by omega, exb_mut (e4.trans e5) hD, ?_, cs ++ [97 + j], by rw [List.length_append, lc]; rfl, fun z hz => ?_, ?_⟩)
      · rw [show c + 2 + ((i + 1 : Nat) : Int) = c + 2 + (i : Int) + 1 by omega]
        exact box_mut B5 Db
      · rcases List.mem_append.mp hz with hz | hz
        · exact hcs z hz
        · have : z = 97 + j := by simpa using hz
          omega
      · rw [upd_same, List.map_append]
        rfl
    · rintro H4 ⟨_, e4, B4, cs, lc, hcs, h4⟩
      refine ⟨D, cs, rfl, rfl, h4, by omega, q _ _ ⟨?_, ?_, ?_⟩ (e2.trans e4) ?_⟩
      · show 1 ≤ cs.toArray.size
        rw [List.size_toArray]
        omega
      · show cs.toArray.size ≤ 8
        rw [List.size_toArray]
        omega
      · intro z hz
        exact hcs z (by simpa using hz)
      · exact B4.le (by omega)
def spPathL : Sp := fun vs H Q _ => ∃ (bx : Addr) (c : Int), vs = [.ref bx] ∧ Box H bx c ∧ c < 50000000 ∧ ∀ (a : Addr) (p : List Str) (H' : Hp), (∀ x ∈ p, Nm x) → p.length ≤ 9 → H' a = some (.tup (p.map V.str)) → Exb bx H H' → Box H' bx (c + 100) → Q (.ref a) H'
theorem ok_lpath (T : Txt K mg) (F : FnP K "_law_path" s__law_path f fd) (C__law_take : Cal P w K mg base CX0 1 "_law_take" ["_law_box_here", "_law_many"] spTake) (C__law_name : Cal P w K mg base CX0 2 "_law_name" ["_law_box_here"] spNameL) : Fg P w K mg base CX0 3 f fd ["_law_box_here"] spPathL := by
  refine fg_of F sc__law_path (fun vs H Q E h => ?_) (fun cdv A outer s H vs Q E hr h => ⟨_, (PSs.nox (pss_one (ps_ret (pe_callTy (u_tup (K := K)) (by rfl) T.f_tuple (by decide +kernel) (pa_cons (pe_lc (own := [("_law_k", 1)]) rfl sc__law_path.nd (pi_range1 rfl T.f_range (pa_cons (pe_ix (u_ix (K := K)) (pe_lst (pa_cons pe_int (pa_cons pe_int (pa_cons pe_int (pa_cons pe_int (pa_cons pe_int (pa_cons pe_int (pa_cons pe_int (pa_cons pe_int pa_nil))))))))) (pe_cal C__law_take hr.le pass0 (pa_cons (pv 0) (pa_cons pe_int pa_nil))) (fun _ _ => rfl)) pa_nil)) (blkOk_by (own := [("_law_k", 1)]) (N := ["_law_box_here", "_law_k"]) (sc := defScope s__law_path) (by decide +kernel)) (fun _ _ _ _ _ => (pg_name (i := 1) sc__law_path.nd rfl (by first | exact Or.inl rfl | exact Or.inr rfl))) (fun _ _ _ _ _ => pts_nil) (fun _ _ _ _ _ => (pe_cal C__law_name hr.le pass0 (pa_cons (pv 0) pa_nil)))) pa_nil))))), ?_⟩)
  · obtain ⟨bx, c, rfl, _⟩ := h
    rfl
  · obtain ⟨bx, c, rfl, B, hc, q⟩ := h
    refine ⟨by show 8 ≤ sizeLine; decide, fun l nl => ?_⟩
    have y := Evl.Ex.new (o := .lst (IV [1, 2, 0, 1, 3, 2, 5, 9])) nl
    refine ⟨_, rfl, bx, 8, c, rfl, B.ex y, by decide, by decide, by omega, fun r H1 r0 r8 e1 B1 => ?_⟩
    have hl := e1 _ _ (B.at nl) (upd_same (H := H) (a := l) (o := .lst (IV [1, 2, 0, 1, 3, 2, 5, 9])))
    refine ix_l hl r0 r8 fun v hv => ?_
    obtain ⟨m, rfl, m1, m8⟩ := iv_mem (p := fun n => 0 ≤ n ∧ n ≤ 9) hv (by simp)
    refine ⟨m, rfl, by omega, by omega, fun D hD => ?_⟩
    obtain ⟨n, hn, n8⟩ : ∃ n : Nat, m.toNat = n ∧ n ≤ 9 := ⟨_, rfl, by omega⟩
    rw [hn]
    have e1 := (Exb.of y).trans e1
    refine lc_range (lo := 0) (n := n) (fun i H' => i ≤ n ∧ Exb bx H1 H' ∧ Box H' bx (c + 1 + 10 * (i : Int)) ∧ ∃ p : List Str, p.length = i ∧ (∀ z ∈ p, Nm z) ∧ H' D = some (.lst (p.map V.str))) ⟨by omega, Exb.new hD, by rw [show c + 1 + 10 * ((0 : Nat) : Int) = c + 1 by omega]; exact B1.ex (Evl.Ex.new hD), [], rfl, (fun z hz => by cases hz), upd_same⟩ ?_ ?_
    · rintro i H2 hi ⟨_, e2, B2, p, lc, hp, h2⟩
      have Db : D ≠ bx := (B1.at hD)
      refine ⟨rfl, _, rfl, bx, c + 1 + 10 * (i : Int), rfl, B2, by omega, fun x H3 nx e3 B3 => ⟨p.map V.str, e3 _ _ Db h2, by rw [List.length_map]; exact Evl.sz_lt (by omega), by omega, exb_mut (e2.trans e3) hD, ?_, p ++ [x], by rw [List.length_append, lc]; rfl, fun z hz => ?_, ?_⟩⟩
      · rw [show c + 1 + 10 * ((i + 1 : Nat) : Int) = c + 1 + 10 * (i : Int) + 10 by omega]
        exact box_mut B3 Db
      · rcases List.mem_append.mp hz with hz | hz
        · exact hp z hz
        · rw [List.mem_singleton.mp hz]
          exact nx
      · rw [upd_same, List.map_append]
        rfl
    · rintro H2 ⟨_, e2, B2, p, lc, hp, h2⟩
      refine ⟨D, _, rfl, .inl ⟨SqL.of h2, fun l nl => ?_⟩⟩
      have y2 := Evl.Ex.new (o := .tup (p.map V.str)) nl
      exact q l p _ hp (by omega) upd_same ((e1.trans e2).trans (Exb.of y2)) ((B2.ex y2).le (by omega))
def spOctL : Sp := fun vs H Q _ => ∃ (bx : Addr) (c : Int), vs = [.ref bx] ∧ Box H bx c ∧ c < 60000000 ∧ ∀ (n : Int) (H' : Hp), 0 ≤ n → n ≤ 255 → Exb bx H H' → Box H' bx (c + 2) → Q (.int n) H'
theorem ok_loctet (T : Txt K mg) (F : FnP K "_law_octet" s__law_octet f fd) (C__law_take : Cal P w K mg base CX0 1 "_law_take" ["_law_box_here", "_law_many"] spTake) : Fg P w K mg base CX0 2 f fd ["_law_box_here"] spOctL := by
  refine fg_of F sc__law_octet (fun vs H Q E h => ?_) (fun cdv A outer s H vs Q E hr h => ⟨_, (PSs.nox (pss_one (ps_ret (pe_ix (u_ix (K := K)) (pe_lst (pa_cons pe_int (pa_cons pe_int (pa_cons pe_int (pa_cons pe_int (pa_cons pe_int (pa_cons pe_int (pa_cons pe_int (pa_cons (pe_cal C__law_take hr.le pass0 (pa_cons (pv 0) (pa_cons pe_int pa_nil))) pa_nil))))))))) (pe_cal C__law_take hr.le pass0 (pa_cons (pv 0) (pa_cons pe_int pa_nil))) (fun _ _ => rfl))))), ?_⟩)
  · obtain ⟨bx, c, rfl, _⟩ := h
    rfl
  · obtain ⟨bx, c, rfl, B, hc, q⟩ := h
    refine ⟨_, rfl, bx, 256, c, rfl, B, by decide, by decide, by omega, fun r H1 r0 r6 e1 B1 => ⟨by show 8 ≤ sizeLine; decide, fun l nl => ?_⟩⟩
    have y := Evl.Ex.new (o := .lst (IV [0, 255, 9, 10, 100, 99, 7, r])) nl
    refine ⟨_, rfl, bx, 8, c + 1, rfl, B1.ex y, by decide, by decide, by omega, fun r2 H2 a0 a8 e2 B2 => ?_⟩
    have hl := e2 _ _ (B1.at nl) (upd_same (H := H1) (a := l) (o := .lst (IV [0, 255, 9, 10, 100, 99, 7, r])))
    refine ix_l hl a0 a8 fun v hv => ?_
    obtain ⟨m, rfl, m1, m8⟩ := iv_mem (p := fun n => 0 ≤ n ∧ n ≤ 255) hv (by simp; omega)
    exact q m _ m1 m8 ((e1.trans (Exb.of y)).trans e2) (B2.le (by omega))
end
end K19
/-! makings where defaults fill up; the same expression by one of several readings -/
namespace VB
open PySem PySem.Spec PyProof.Rows L2
/-- the class x, made with its last parameters left out (dvs: their defaults) -/
structure MakD (P : Program) (w : World) (K : PySem.W.Frag) (mg : Str → Option Value) (base : Heap) (CX : CXT) (k : Nat) (x : Str) (C : Addr) (ps : List Str) (dvs : List V) (sp : Sp) : Prop where
  ex : ∃ (f : Addr) (fd : FuncData) (ds : List Value), Fg P w K mg base CX k f fd ps sp ∧ Mk K C f ∧ mg x = some (.ref C) ∧ Vals dvs ds ∧ Binds K fd ps ds
section
variable {X : Cx} {CX : CXT} {k : Nat} {ps : List Str} {sp : Sp} {E : XK} {x : Str} {p pos : Pos} {C : Addr} {dvs : List V} {e : Expr} {es : List Expr} {t : TA}
theorem pe_makD (M : MakD X.prog X.w X.K X.mg X.base CX k x C ps dvs sp) (hr : Rm (k + 1) X.A) (hx : Passes CX X E) (ha : PA X (e :: es) t) (hg : Gl X x := by rfl) (hdb : (x == ("__debug__" : Str)) = false := by decide)
    (he : starEach (e :: es) X.env = (false, eval e X.env) :: starEach es X.env := by rfl) (hpl : (backTo pos (starEach es X.env)).any (·.1) = false := by rfl) :
    PE X (.Call (.Name x p) (e :: es) [] pos) (tMake C sp dvs E t) := by
  obtain ⟨f, fd, ds, F, mk, hm, hd, hb⟩ := M.ex
  constructor
  intro pins s σ H Q I h
  refine wpAny_Call_Name_kw (ld_glob I hg hm ?_ hdb)
  refine PySem.W.callWith_K (h₀ := X.base) I.ok.mod.kin mk.kp (thn (ha.run pos pins s σ H _ I h) ?_) he hpl
  rintro us s1 ⟨vs, H1, I1, r, q⟩
  refine ⟨I1.kIn, ?_⟩
  have hq := q (s1.heap.objs.size + 1) s1.heap.objs.size (I1.hok.fresh (Nat.le_succ _)) (I1.hok.fresh (Nat.le_refl _)) (Nat.ne_of_lt (Nat.lt_succ_self _))
  have I3 := Inv.made (C := C) I1
  have r2 : Vals (V.ref (s1.heap.objs.size + 1) :: (vs ++ dvs)) (Value.ref (s1.heap.objs.size + 1) :: (us ++ ds)) := .cons rfl (r.append hd)
  have l := F.cnt _ _ _ _ hq
  have b := hb _ (Value.ref (s1.heap.objs.size + 1) :: us) I3.kIn (by rw [List.cons_append, ← r2.length]; exact l)
  refine wpAny_call (make_map (f := f) I1.kIn mk.makes mk.init (beq_iff_eq.mp mk.fn) (codeAny_mono (F.go _ X.stack _ _ ⟨Value.ref (s1.heap.objs.size + 1) :: us, []⟩ (Value.ref (s1.heap.objs.size + 1) :: (us ++ ds)) _ _ E (hr.make C us []) (I3.env0.make C us []) b r2 hq) fun r s' z => ?_))
  cases r with
  | error e => exact hx pins σ _ _ e s' I3 z
  | ok fl =>
    cases fl with
    | ret u =>
      obtain ⟨v, H', I4, rv, ev, q3⟩ := I3.after z
      subst ev
      exact ⟨rv, ⟨V.ref (s1.heap.objs.size + 1), H', I4, rfl, q3⟩⟩
    | next => exact z.elim
    | brk => exact z.elim
    | cont => exact z.elim
theorem PE.any {ι : Type} {P : ι → Prop} {a : Expr} {t : ι → TE} (h : ∀ i, P i → PE X a (t i)) : PE X a (fun σ H Q => ∃ i, P i ∧ t i σ H Q) := ⟨fun pins s σ H Q I ⟨i, hi, q⟩ => (h i hi).run pins s σ H Q I q⟩
theorem pe_globS {z : Str} {pos : Pos} (hg : Gl X x) (h : ∃ t, X.mg x = some (.str z t)) (hd : (x == ("__debug__" : Str)) = false := by decide) : PE X (.Name x pos) (tC (.str z)) := by
  obtain ⟨t, h⟩ := h
  exact pe_glob hg h ⟨_, rfl⟩ hd
end
end VB
/-! names, paths, parts -/
namespace K19
open PySem PySem.Spec PyProof.Rows L2 VB BM
section
variable {P : Program} {w : World} {K : PySem.W.Frag} {mg : Str → Option Value} {base : Heap} {f : Addr} {fd : FuncData}
/-- a text's signs -/
def chs (x : Str) : List V := x.cps.toList.map fun c => V.str ⟨#[c]⟩
theorem chs_len (x : Str) : (chs x).length = x.cps.size := by simp [chs]
theorem walk_chs {z : Str} : Walk (Its z) z.cps.size (fun _ => True) (YAt (chs z)) := walk_str.mono (fun _ _ => trivial) fun i H x H' hi _ y => by
  obtain ⟨h1, c, h2, rfl⟩ := y
  refine ⟨h1, ?_⟩
  unfold chs
  rw [List.getElem?_map, Array.getElem?_toList, h2]
  rfl
def spName (K : PySem.W.Frag) : Sp := fun vs H Q _ => ∃ x : Str, vs = [.str x] ∧ Nm x ∧ RV (.bl true) H Q
theorem ok_name (T : Txt K mg) (F : FnP K "is_name" s_is_name f fd) : Fg P w K mg base CX0 1 f fd ["value"] (spName K) := by
  refine fg_of F sc_is_name (fun vs H Q E h => ?_) (fun cdv A outer s H vs Q E hr h => ⟨_, (PSs.nox (pss_one (ps_ret (pe_and (pe_callB (u_isi (K := K)) (by rfl) T.f_isinstance (by decide +kernel) (pa_cons (pv 0) (pa_cons (pe_bltn (v := .ty "str") rfl T.f_str (by decide +kernel) rfl) pa_nil))) (pe_and (pe_chain op_le op_le pe_int (pe_callB (u_len (K := K)) (by rfl) T.f_len (by decide +kernel) (pa_cons (pv 0) pa_nil)) (pe_globI rfl T.g_MOST_LETTERS)) (pe_one (pe_callB (u_all (K := K) rfl) (by rfl) T.f_all (by decide +kernel) (pa_cons (pe_lc (own := [("sign", 1)]) rfl sc_is_name.nd (pi_str (pv 0)) (blkOk_by (own := [("sign", 1)]) (N := ["value", "sign"]) (sc := defScope s_is_name) (by decide +kernel)) (fun _ _ _ _ _ => (pg_name (i := 1) sc_is_name.nd rfl (by first | exact Or.inl rfl | exact Or.inr rfl))) (fun _ _ _ _ _ => pts_nil) (fun _ _ _ _ _ => (pe_cmpR L2.op_inS (pv 1) (pe_globS rfl T.g_LETTERS) (by rfl)))) pa_nil)))))))), ?_⟩)
  · obtain ⟨x, rfl, _⟩ := h
    rfl
  · obtain ⟨x, rfl, h, q⟩ := h
    refine ⟨_, rfl, _, _, _, _, true, rfl, .ty _, .base (.str x), kit_ty (by decide +kernel), true, rfl, iteT ?_⟩
    obtain ⟨h1, h8, hc⟩ := h
    have hz : x.length ≤ sizeLine := Nat.le_trans (show x.length ≤ 8 from h8) (by decide)
    have g1 : decide ((1 : Int) ≤ (x.length : Int)) = true := decide_eq_true (by show (1 : Int) ≤ (x.cps.size : Int); omega)
    have g8 : decide ((x.length : Int) ≤ (8 : Int)) = true := decide_eq_true (by show (x.cps.size : Int) ≤ 8; omega)
    refine ⟨_, rfl, .str x, x.length, rfl, ⟨hz, rfl⟩, _, _, rfl, rfl, _, rfl, ?_⟩
    rw [g1]
    refine iteT ⟨_, _, rfl, rfl, true, congrArg V.bl g8, iteT ?_⟩
    refine ⟨_, rfl, x, rfl, fun D hD => ?_⟩
    refine lc_pureVS (us := List.replicate x.cps.size (V.bl true)) walk_chs (fun _ _ => trivial) (by simp) (by omega) hD (fun _ => rfl) ?_ ?_
    · intro i y u H' Q' hy hu ex k
      obtain ⟨c, hc', rfl⟩ : ∃ c, c ∈ x.cps.toList ∧ y = V.str ⟨#[c]⟩ := by
        unfold chs at hy
        rw [List.getElem?_map] at hy
        obtain ⟨c, h2, rfl⟩ := Option.map_eq_some_iff.mp hy
        exact ⟨c, List.mem_of_getElem? h2, rfl⟩
      obtain rfl : u = V.bl true := List.eq_of_mem_replicate (List.mem_of_getElem? hu)
      refine ⟨_, rfl, c, _, rfl, rfl, ?_⟩
      have hm : decide (c ∈ ("abcdefghijklmnopqrstuvwxyz" : Str).cps.toList) = true := by
        have := hc c hc'
        have e : ("abcdefghijklmnopqrstuvwxyz" : Str).cps.toList = (List.range 26).map (97 + ·) := by decide +kernel
        rw [e]
        exact decide_eq_true (List.mem_map.mpr ⟨c - 97, List.mem_range.mpr (by omega), by omega⟩)
      rw [hm]
      exact k _ (Evl.Ex.refl _)
    · intro H' ex h3
      refine ⟨D, List.replicate x.cps.size true, rfl, SqL.of (by rw [h3, List.map_replicate]), ?_⟩
      have e : (List.replicate x.cps.size true).all id = true := by simp
      rw [e]
      exact q _ ex
def spIntI : Sp := fun vs H Q _ => ∃ v l g : Int, vs = [.int v, .int l, .int g] ∧ l ≤ v ∧ v ≤ g ∧ Q (.bl true) H
theorem ok_int_from (T : Txt K mg) (F : FnP K "is_int_from" s_is_int_from f fd) : Fg P w K mg base CX0 2 f fd ["value", "least", "greatest"] spIntI := by
  refine fg_of F sc_is_int_from (fun vs H Q E h => ?_) (fun cdv A outer s H vs Q E hr h => ⟨_, (PSs.nox (pss_one (ps_ret (pe_and (pe_callB (u_isi (K := K)) (by rfl) T.f_isinstance (by decide +kernel) (pa_cons (pv 0) (pa_cons (pe_bltn (v := .ty "int") rfl T.f_int (by decide +kernel) rfl) pa_nil))) (pe_and (pe_not (pe_callB (u_isi (K := K)) (by rfl) T.f_isinstance (by decide +kernel) (pa_cons (pv 0) (pa_cons (pe_bltn (v := .ty "bool") rfl T.f_bool (by decide +kernel) rfl) pa_nil)))) (pe_one (pe_chain op_le op_le (pv 1) (pv 0) (pv 2)))))))), ?_⟩)
  · obtain ⟨v, l, g, rfl, _⟩ := h
    rfl
  · obtain ⟨v, l, g, rfl, h1, h2, q⟩ := h
    refine ⟨_, rfl, _, _, _, _, true, rfl, .ty _, .base (.int v), kit_ty (by decide +kernel), true, rfl, iteT ?_⟩
    refine ⟨_, rfl, _, _, _, _, false, rfl, .ty _, .base (.int v), kit_ty (by decide +kernel), false, rfl, true, rfl, iteT ?_⟩
    refine ⟨_, rfl, _, rfl, _, _, rfl, rfl, _, rfl, ?_⟩
    rw [decide_eq_true h1]
    refine iteT ⟨_, rfl, _, _, rfl, rfl, ?_⟩
    dsimp only
    rw [decide_eq_true h2]
    exact q
def spPath (K : PySem.W.Frag) : Sp := fun vs H Q _ => ∃ (a : Addr) (p : List Str), vs = [.ref a] ∧ H a = some (.tup (p.map V.str)) ∧ (∀ x ∈ p, Nm x) ∧ p.length ≤ 40 ∧ RV (.bl true) H Q
theorem ok_path (T : Txt K mg) (F : FnP K "is_path" s_is_path f fd) (C_is_name : Cal P w K mg base CX0 1 "is_name" ["value"] (spName K)) : Fg P w K mg base CX0 2 f fd ["value"] (spPath K) := by
  refine fg_of F sc_is_path (fun vs H Q E h => ?_) (fun cdv A outer s H vs Q E hr h => ⟨_, (PSs.nox (pss_one (ps_ret (pe_and (pe_callB (u_isi (K := K)) (by rfl) T.f_isinstance (by decide +kernel) (pa_cons (pv 0) (pa_cons (pe_bltn (v := .ty "tuple") rfl T.f_tuple (by decide +kernel) rfl) pa_nil))) (pe_one (pe_callB (u_all (K := K) rfl) (by rfl) T.f_all (by decide +kernel) (pa_cons (pe_lc (own := [("name", 1)]) rfl sc_is_path.nd (pi_seq (K := K) (pv 0)) (blkOk_by (own := [("name", 1)]) (N := ["value", "name"]) (sc := defScope s_is_path) (by decide +kernel)) (fun _ _ _ _ _ => (pg_name (i := 1) sc_is_path.nd rfl (by first | exact Or.inl rfl | exact Or.inr rfl))) (fun _ _ _ _ _ => pts_nil) (fun _ _ _ _ _ => (pe_cal C_is_name hr.le pass0 (pa_cons (pv 1) pa_nil)))) pa_nil))))))), ?_⟩)
  · obtain ⟨a, p, rfl, _⟩ := h
    rfl
  · obtain ⟨a, p, rfl, ha, hp, hl, q⟩ := h
    refine ⟨_, rfl, _, _, _, _, true, rfl, .ty _, .base (.tup ha), kit_ty (by decide +kernel), true, rfl, iteT ?_⟩
    refine seq_var (t := true) rfl (Sv.tup ha) fun J wk D hD => ?_
    refine lc_pureVS (us := List.replicate (p.map V.str).length (V.bl true)) wk (fun H' ex => Sv.tup (ex _ _ ha)) (by simp) (by rw [List.length_map]; omega) hD (fun _ => rfl) ?_ ?_
    · intro i x u H' Q' hx hu ex k
      obtain ⟨z, hz, rfl⟩ := List.mem_map.mp (List.mem_of_getElem? hx)
      rw [List.eq_of_mem_replicate (List.mem_of_getElem? hu)] at k
      exact ⟨_, rfl, z, rfl, hp z hz, fun H1 e1 => k H1 e1⟩
    · intro H' ex h3
      refine ⟨D, List.replicate (p.map V.str).length true, rfl, SqL.of (by rw [h3, List.map_replicate]), ?_⟩
      have e : (List.replicate (p.map V.str).length true).all id = true := by simp
      rw [e]
      exact q _ ex
def spPart (K : PySem.W.Frag) : Sp := fun vs H Q _ => ∃ (v : V) (p : Pt), vs = [.str p.kd, v] ∧ PtAt H v p ∧ p.Good ∧ RV (.bl true) H Q
theorem ok_part (T : Txt K mg) (F : FnP K "_is_part" s__is_part f fd) (C_is_name : Cal P w K mg base CX0 1 "is_name" ["value"] (spName K)) (C_is_path : Cal P w K mg base CX0 2 "is_path" ["value"] (spPath K)) (C_is_int_from : Cal P w K mg base CX0 2 "is_int_from" ["value", "least", "greatest"] spIntI) (C_is_octets : Cal P w K mg base CX0 2 "is_octets" ["value"] (spIsOct K)) :
    Fg P w K mg base CX0 3 f fd ["part", "item"] (spPart K) := by
  refine fg_of F sc__is_part (fun vs H Q E h => ?_) (fun cdv A outer s H vs Q E hr h => ⟨_, (PSs.nox (pss_cons (ps_if (pt_cmpR (u_eq (K := K) hr) (pv 0) pe_str (nomark _))
  (pss_one (ps_ret (pe_cal C_is_path hr.le pass0 (pa_cons (pv 1) pa_nil)))) pss_nil)
  (pss_cons (ps_if (pt_cmpR (u_eq (K := K) hr) (pv 0) pe_str (nomark _))
  (pss_one (ps_ret (pe_cal C_is_name hr.le pass0 (pa_cons (pv 1) pa_nil)))) pss_nil)
  (pss_cons (ps_if (pt_cmpR (u_eq (K := K) hr) (pv 0) pe_str (nomark _))
  (pss_one (ps_ret (pe_cal C_is_int_from hr.le pass0 (pa_cons (pv 1) (pa_cons pe_int (pa_cons (pe_globI rfl T.g_MOST_SIZE) pa_nil)))))) pss_nil)
  (pss_one (ps_ret (pe_and (pe_cal C_is_octets hr.le pass0 (pa_cons (pv 1) pa_nil)) (pe_one (pe_chain op_le op_le pe_int (pe_callB (u_len (K := K)) (by rfl) T.f_len (by decide +kernel) (pa_cons (pv 1) pa_nil)) (pe_globI rfl T.g_MOST_WRITTEN)))))))))), ?_⟩)
  · obtain ⟨v, p, rfl, _⟩ := h
    rfl
  · obtain ⟨v, p, rfl, at_, g, q⟩ := h
    have eT : ∀ {c : Str} {H' : Hp} {Q' : Bool → Hp → Prop}, p.kd = c → Q' true H' → tTest (tOp (rEqU K) (tVar 0) (tC (V.str c))) [some (.str p.kd), some v] H' Q' := fun e q => ⟨_, rfl, .inl ⟨rfl, _, rfl, by rw [decide_eq_true (congrArg V.str e)]; exact q⟩⟩
    have eF : ∀ {c : Str} {H' : Hp} {Q' : Bool → Hp → Prop}, p.kd ≠ c → Q' false H' → tTest (tOp (rEqU K) (tVar 0) (tC (V.str c))) [some (.str p.kd), some v] H' Q' := fun e q => ⟨_, rfl, .inl ⟨rfl, _, rfl, by rw [decide_eq_false (fun z => e (V.str.inj z))]; exact q⟩⟩
    cases p with
    | path p =>
      obtain ⟨a, rfl, ha⟩ := at_
      exact eT rfl (iteT ⟨_, rfl, a, p, rfl, ha, g.1, g.2, q⟩)
    | name x =>
      obtain rfl : v = .str x := at_
      exact eF (show ("name" : Str) ≠ "path" by decide) (iteF (eT rfl (iteT ⟨_, rfl, x, rfl, g, q⟩)))
    | size n =>
      obtain rfl : v = .int n := at_
      exact eF (show ("size" : Str) ≠ "path" by decide) (iteF (eF (show ("size" : Str) ≠ "name" by decide) (iteF (eT rfl (iteT ⟨_, rfl, n, 0, 96, rfl, g.1, g.2, q _ (Evl.Ex.refl _)⟩)))))
    | octs os =>
      obtain ⟨a, rfl, ha⟩ := at_
      obtain ⟨t, S⟩ : ∃ t, Sv t K H a (IV os) := by
        rcases ha with ha | ha
        · exact ⟨true, Sv.tup ha⟩
        · exact ⟨false, Sv.lst ha⟩
      refine eF (show ("octets" : Str) ≠ "path" by decide) (iteF (eF (show ("octets" : Str) ≠ "name" by decide) (iteF (eF (show ("octets" : Str) ≠ "size" by decide) (iteF ⟨_, rfl, a, os, t, rfl, S, g.1, by have := g.2.2; omega, fun H1 e1 => ⟨true, rfl, iteT ?_⟩⟩)))))
      have g1 : decide ((1 : Int) ≤ ((IV os).length : Int)) = true := decide_eq_true (by rw [iv_len]; have := g.2.1; omega)
      have g2 : decide (((IV os).length : Int) ≤ (48 : Int)) = true := decide_eq_true (by rw [iv_len]; have := g.2.2; omega)
      refine ⟨_, rfl, _, _, rfl, (S.ex e1).len, _, _, rfl, rfl, _, rfl, ?_⟩
      rw [g1]
      refine iteT ⟨_, _, rfl, rfl, ?_⟩
      dsimp only
      rw [g2]
      exact q _ e1
end
end K19
/-! deeds and steps are such -/
namespace K19
open PySem PySem.Spec PyProof.Rows L2 VB BM
/-- the table of the kinds of parts -/
abbrev dp (K : PySem.W.Frag) : Addr := He.ga K "DEED_PARTS"
structure Tb (K : PySem.W.Frag) (w : World) : Prop where
  dc : KDc K w (dp K)
  at_ : ∀ i, i < 9 → ∃ q : Addr, KGt K (dp K) (tabW.getD i "") (.ref q) ∧ KDct K w (dp K) (tabW.getD i "") (.ref q) ∧ ∀ H, SqT K H q ((tabK.getD i []).map V.str)
  no : KGt K (dp K) "sync" .non
theorem pr_len {α β : Type} {R : α → β → Prop} : ∀ {xs : List α} {ys : List β}, Paired R xs ys → xs.length = ys.length
  | _, _, .nil => rfl
  | _, _, .cons _ t => by rw [List.length_cons, List.length_cons, pr_len t]
theorem pr_at {α β : Type} {R : α → β → Prop} : ∀ {xs : List α} {ys : List β}, Paired R xs ys → ∀ {i : Nat} {x : α}, xs[i]? = some x → ∃ y, ys[i]? = some y ∧ R x y
  | _, _, .nil, _, _, h => by cases h
  | _, _, .cons r t, 0, _, h => by cases h; exact ⟨_, rfl, r⟩
  | _, _, .cons r t, i + 1, _, h => pr_at t (i := i) h
theorem dki (a b : Int) : decide (V.int a = V.int b) = decide (a = b) := by
  by_cases h : a = b
  · rw [h, decide_eq_true rfl, decide_eq_true rfl]
  · rw [decide_eq_false h, decide_eq_false fun z => h (V.int.inj z)]
theorem sx_ne {n i : Nat} (h : 0 < i) (hn : 0 < n) : HT.sIx n 0 (some (i : Int)) ≠ 0 := by
  rw [HT.sIx_nat]
  omega
theorem cut1 {x : V} {xs : List V} : cutV (x :: xs) (some 1) none = xs := by
  unfold cutV
  have e : HT.sIx (x :: xs).length 0 (some 1) = 1 := by
    have := HT.sIx_nat (x :: xs).length 0 1
    rw [List.length_cons, Nat.min_eq_left (by omega)] at this
    exact this
  rw [e]
  show xs.take ((x :: xs).length - 1) = xs
  exact List.take_of_length_le (by rw [List.length_cons]; omega)
theorem tabK_len : ∀ i, i < 9 → 1 ≤ (tabK.getD i []).length ∧ (tabK.getD i []).length ≤ 3 := by decide
section
variable {P : Program} {w : World} {K : PySem.W.Frag} {mg : Str → Option Value} {base : Heap} {f : Addr} {fd : FuncData}
def spWorded : Sp := fun vs H Q _ => ∃ (a : Addr) (x : Str) (xs : List V), vs = [.ref a] ∧ H a = some (.tup (.str x :: xs)) ∧ Q (.bl true) H
theorem ok_worded (T : Txt K mg) (F : FnP K "_is_worded" s__is_worded f fd) : Fg P w K mg base CX0 1 f fd ["value"] spWorded := by
  refine fg_of F sc__is_worded (fun vs H Q E h => ?_) (fun cdv A outer s H vs Q E hr h => ⟨_, (PSs.nox (pss_one (ps_ret (pe_and (pe_callB (u_isi (K := K)) (by rfl) T.f_isinstance (by decide +kernel) (pa_cons (pv 0) (pa_cons (pe_bltn (v := .ty "tuple") rfl T.f_tuple (by decide +kernel) rfl) pa_nil))) (pe_and (pe_cmpR op_gt (pe_callB (u_len (K := K)) (by rfl) T.f_len (by decide +kernel) (pa_cons (pv 0) pa_nil)) pe_int (nomark _)) (pe_one (pe_callB (u_isi (K := K)) (by rfl) T.f_isinstance (by decide +kernel) (pa_cons (pe_ix (u_ix (K := K)) (pv 0) pe_int (fun _ _ => rfl)) (pa_cons (pe_bltn (v := .ty "str") rfl T.f_str (by decide +kernel) rfl) pa_nil))))))))), ?_⟩)
  · obtain ⟨a, x, xs, rfl, _⟩ := h
    rfl
  · obtain ⟨a, x, xs, rfl, ha, q⟩ := h
    refine ⟨_, rfl, _, _, _, _, true, rfl, .ty _, .base (.tup ha), kit_ty (by decide +kernel), true, rfl, iteT ?_⟩
    have g1 : decide (((V.str x :: xs).length : Int) > 0) = true := decide_eq_true (by rw [List.length_cons]; omega)
    refine ⟨_, rfl, _, _, rfl, (Sv.tup (K := K) ha).len, _, _, rfl, rfl, true, congrArg V.bl g1, iteT ?_⟩
    exact ⟨_, rfl, Sv.ix (x := V.str x) (Sv.tup ha) (atI_nat (j := 0) rfl) ⟨_, _, _, _, true, rfl, .ty _, .base (.str x), kit_ty (by decide +kernel), q⟩⟩
def spSingle (K : PySem.W.Frag) : Sp := fun vs H Q _ => ∃ v : V, vs = [v] ∧ ((∃ d, DdAt H v d ∧ d.Good ∧ RV (.bl true) H Q) ∨ (∃ a : Addr, v = .ref a ∧ H a = some (.tup [.str "sync"]) ∧ Q (.bl false) H))
theorem ok_single (T : Txt K mg) (TB : Tb K w) (F : FnP K "_is_single_deed" s__is_single_deed f fd) (C__is_part : Cal P w K mg base CX0 3 "_is_part" ["part", "item"] (spPart K)) : Fg P w K mg base CX0 4 f fd ["value"] (spSingle K) := by
  refine fg_of F sc__is_single_deed (fun vs H Q E h => ?_) (fun cdv A outer s H vs Q E hr h => ⟨_, (PSs.nox (pss_cons (ps_set (i := 1) sc__is_single_deed.nd rfl (by first | exact Or.inl rfl | exact Or.inr rfl) (pe_kget (pe_glob (v := .ref (He.ga K "DEED_PARTS")) rfl T.g_DEED_PARTS rfl) (pe_ix (u_ix (K := K)) (pv 0) pe_int (fun _ _ => rfl)) ⟨rfl, rfl, rfl, rfl⟩))
  (pss_cons (ps_if (PW.pt (pw_or (pt_cmpR op_isN (pv 1) pe_non (nomark _)) (pw_or1 (pt_cmpR (u_ne (K := K) hr) (pe_callB (u_len (K := K)) (by rfl) T.f_len (by decide +kernel) (pa_cons (pv 0) pa_nil)) (pe_op (u_add (K := K)) pe_int (pe_callB (u_len (K := K)) (by rfl) T.f_len (by decide +kernel) (pa_cons (pv 1) pa_nil))) (nomark _)))))
  (pss_one (ps_ret pe_bl)) pss_nil)
  (pss_one (ps_ret (pe_callB (u_all (K := K) rfl) (by rfl) T.f_all (by decide +kernel) (pa_cons (pe_lc (own := [("part", 2), ("item", 3)]) rfl sc__is_single_deed.nd (pi_zm (K := K) rfl T.f_zip (pa_cons (pv 1) (pa_cons (pe_slice (u_sl (K := K)) (pv 0) (po_some pe_int) po_none) pa_nil))) (blkOk_by (own := [("part", 2), ("item", 3)]) (N := ["value", "parts", "part", "item"]) (sc := defScope s__is_single_deed) (by decide +kernel)) (fun _ _ _ _ _ => (pg_tupU (K := K) (n := 2) rfl (pgs_cons (pg_name (i := 2) sc__is_single_deed.nd rfl (by first | exact Or.inl rfl | exact Or.inr rfl)) (pgs_cons (pg_name (i := 3) sc__is_single_deed.nd rfl (by first | exact Or.inl rfl | exact Or.inr rfl)) pgs_nil)))) (fun _ _ _ _ _ => pts_nil) (fun _ _ _ _ _ => (pe_cal C__is_part hr.le pass0 (pa_cons (pv 2) (pa_cons (pv 3) pa_nil))))) pa_nil))))))), ?_⟩)
  · obtain ⟨v, rfl, _⟩ := h
    rfl
  · obtain ⟨v, rfl, h⟩ := h
    rcases h with ⟨d, hd, g, q⟩ | ⟨a, rfl, ha, q⟩
    · obtain ⟨a, vs, rfl, ha, P⟩ := hd
      obtain ⟨qa, kg, _, hq⟩ := TB.at_ d.i g.i9
      have lk : (tabK.getD d.i []).length = vs.length := by rw [← g.kd, List.length_map, pr_len P]
      obtain ⟨t1, t3⟩ := tabK_len d.i g.i9
      refine ⟨_, rfl, TB.dc, _, rfl, Sv.ix (x := V.str d.w) (Sv.tup ha) (atI_nat (j := 0) rfl) ⟨_, _, rfl, kg, ?_⟩⟩
      refine ⟨_, rfl, rfl, _, rfl, ?_⟩
      rw [decide_eq_false (show ¬ (V.ref qa : V) = .non from fun z => nomatch z)]
      refine iteF ⟨_, rfl, _, _, rfl, (Sv.tup (K := K) ha).len, _, rfl, _, _, rfl, (show Sv true K H qa _ from hq H).len, .inl ⟨_, _, rfl, rfl, .inl ⟨rfl, _, rfl, ?_⟩⟩⟩
      have el : decide (V.int (((V.str d.w :: vs).length : Nat) : Int) = V.int (1 + ((((tabK.getD d.i []).map V.str).length : Nat) : Int))) = true := by
        rw [dki, List.length_cons, List.length_map, lk]
        exact decide_eq_true (by omega)
      rw [el]
      refine iteF ⟨_, rfl, _, rfl, 1, rfl, .inr (.inl ⟨a, _, rfl, SqT.of ha, fun z => sx_ne (i := 1) (by decide) (by rw [List.length_cons]; omega) z.1, fun s1 n1 => ?_⟩)⟩
      rw [cut1]
      have e1 := Evl.Ex.new (o := .tup vs) n1
      have h1 := upd_same (H := H) (a := s1) (o := .tup vs)
      generalize upd H s1 (.tup vs) = H1 at e1 h1 ⊢
      have wk := walk_zm (t := true) (u := true) (K := K) (a := qa) (b := s1) (xs := (tabK.getD d.i []).map V.str) (ys := vs) (n := vs.length) (by rw [List.length_map, lk]; omega)
      refine ⟨true, true, qa, s1, _, _, rfl, hq H1, Sv.tup h1, fun D hD => ?_⟩
      refine lc_pureVZ (us := List.replicate vs.length (V.bl true)) wk (fun H' ex => ⟨hq H', Sv.tup (ex _ _ h1)⟩) (by simp) (by omega) hD (fun _ _ => rfl) ?_ ?_
      · intro i x y v H' Q' hx hy hv ex k
        rw [List.eq_of_mem_replicate (List.mem_of_getElem? hv)] at k
        obtain ⟨p, hp, pa⟩ := pr_at P hy
        have hx' : x = V.str p.kd := by
          rw [← g.kd, List.map_map, List.getElem?_map, hp] at hx
          exact (Option.some.inj hx).symm
        subst hx'
        exact ⟨_, rfl, _, rfl, y, p, rfl, pa.ex (e1.trans ex), g.gd p (List.mem_of_getElem? hp), k⟩
      · intro H' ex h3
        refine ⟨D, List.replicate vs.length true, rfl, SqL.of (by rw [h3, List.map_replicate]), ?_⟩
        have e : (List.replicate vs.length true).all id = true := by simp
        rw [e]
        exact q _ (e1.trans ex)
    · refine ⟨_, rfl, TB.dc, _, rfl, Sv.ix (x := V.str "sync") (Sv.tup ha) (atI_nat (j := 0) rfl) ⟨_, _, rfl, TB.no, ?_⟩⟩
      refine ⟨_, rfl, rfl, _, rfl, ?_⟩
      rw [decide_eq_true rfl]
      exact iteT (iteT q)
end
end K19
/-! steps are such -/
namespace K19
open PySem PySem.Spec PyProof.Rows L2 VB BM
theorem w_all : ∀ i, i < 9 → tabW.getD i "" ≠ "all" ∧ tabW.getD i "" ≠ "sync" := by decide +kernel
theorem w_keep : ∀ i, i < 7 → inV (V.str (tabW.getD i "")) [V.str "keep", V.str "let"] = false := by decide +kernel
def Stp.isS : Stp → Bool
  | .sync => true
  | _ => false
section
variable {P : Program} {w : World} {K : PySem.W.Frag} {mg : Str → Option Value} {base : Heap} {f : Addr} {fd : FuncData}
def spTogether (K : PySem.W.Frag) : Sp := fun vs H Q _ => ∃ (b : Addr) (xs : List V) (ds : List Dd), vs = [.ref b] ∧ H b = some (.tup xs) ∧ Paired (DdAt H) xs ds ∧ 2 ≤ ds.length ∧ ds.length ≤ 4 ∧ (∀ d ∈ ds, d.Good ∧ d.i < 7) ∧ RV (.bl true) H Q
theorem ok_together (T : Txt K mg) (F : FnP K "_are_deeds_together" s__are_deeds_together f fd) (C__is_worded : Cal P w K mg base CX0 1 "_is_worded" ["value"] spWorded) (C__is_single_deed : Cal P w K mg base CX0 4 "_is_single_deed" ["value"] (spSingle K)) :
    Fg P w K mg base CX0 5 f fd ["value"] (spTogether K) := by
  refine fg_of F sc__are_deeds_together (fun vs H Q E h => ?_) (fun cdv A outer s H vs Q E hr h => ⟨_, (PSs.nox (pss_cons (ps_if (PW.pt (pw_or (pt_not (pt_tru (K := K) (pe_callB (u_isi (K := K)) (by rfl) T.f_isinstance (by decide +kernel) (pa_cons (pv 0) (pa_cons (pe_bltn (v := .ty "tuple") rfl T.f_tuple (by decide +kernel) rfl) pa_nil))) (by intro _; rfl))) (pw_or1 (pt_not (pt_chain op_le op_le (pe_globI rfl T.g_LEAST_TOGETHER) (pe_callB (u_len (K := K)) (by rfl) T.f_len (by decide +kernel) (pa_cons (pv 0) pa_nil)) (pe_globI rfl T.g_MOST_TOGETHER))))))
  (pss_one (ps_ret pe_bl)) pss_nil)
  (pss_one (ps_ret (pe_callB (u_all (K := K) rfl) (by rfl) T.f_all (by decide +kernel) (pa_cons (pe_lc (own := [("deed", 1)]) rfl sc__are_deeds_together.nd (pi_seq (K := K) (pv 0)) (blkOk_by (own := [("deed", 1)]) (N := ["value", "deed"]) (sc := defScope s__are_deeds_together) (by decide +kernel)) (fun _ _ _ _ _ => (pg_name (i := 1) sc__are_deeds_together.nd rfl (by first | exact Or.inl rfl | exact Or.inr rfl))) (fun _ _ _ _ _ => pts_nil) (fun _ _ _ _ _ => (pe_and (pe_cal C__is_worded hr.le pass0 (pa_cons (pv 1) pa_nil)) (pe_and (pe_cmpR (u_notin (K := K)) (pe_ix (u_ix (K := K)) (pv 1) pe_int (fun _ _ => rfl)) (pe_tup (pa_cons pe_str (pa_cons pe_str pa_nil))) (by rfl)) (pe_one (pe_cal C__is_single_deed hr.le pass0 (pa_cons (pv 1) pa_nil))))))) pa_nil)))))), ?_⟩)
  · obtain ⟨b, xs, ds, rfl, _⟩ := h
    rfl
  · obtain ⟨b, xs, ds, rfl, hb, P, l2, l4, g, q⟩ := h
    have ll := pr_len P
    refine ⟨_, rfl, _, _, _, _, true, rfl, .ty _, .base (.tup hb), kit_ty (by decide +kernel), true, rfl, iteF ?_⟩
    have g1 : decide ((2 : Int) ≤ (xs.length : Int)) = true := decide_eq_true (by omega)
    have g2 : decide ((xs.length : Int) ≤ (4 : Int)) = true := decide_eq_true (by omega)
    refine ⟨_, rfl, _, _, rfl, (Sv.tup (K := K) hb).len, _, _, rfl, rfl, _, rfl, ?_⟩
    rw [g1]
    refine iteT ⟨_, _, rfl, rfl, true, congrArg V.bl g2, iteF ?_⟩
    refine seq_var (t := true) rfl (Sv.tup hb) fun J wk D hD => ?_
    refine lc_pureVS (us := List.replicate xs.length (V.bl true)) wk (fun H' ex => Sv.tup (ex _ _ hb)) (by simp) (by omega) hD (fun _ => rfl) ?_ ?_
    · intro i x u H' Q' hx hu ex k
      rw [List.eq_of_mem_replicate (List.mem_of_getElem? hu)] at k
      obtain ⟨d, hd, da⟩ := pr_at P hx
      obtain ⟨gd, i7⟩ := g d (List.mem_of_getElem? hd)
      have da := da.ex ex
      obtain ⟨a, vs, rfl, ha, pp⟩ := id da
      refine ⟨_, rfl, a, d.w, vs, rfl, ha, true, rfl, iteT ?_⟩
      refine ⟨_, rfl, Sv.ix (x := V.str d.w) (Sv.tup ha) (atI_nat (j := 0) rfl) ?_⟩
      refine ⟨by show 2 ≤ sizeLine; decide, fun p np => ⟨p, _, rfl, .inr (SqT.of upd_same), rfl, rfl, true, ?_, iteT ?_⟩⟩
      · show V.bl (!inV (V.str d.w) [V.str "keep", V.str "let"]) = V.bl true
        rw [show inV (V.str d.w) [V.str "keep", V.str "let"] = false from w_keep d.i i7]
        rfl
      · have e1 := Evl.Ex.new (o := .tup [V.str "keep", .str "let"]) np
        exact ⟨_, rfl, _, rfl, .inl ⟨d, da.ex e1, gd, fun H2 e2 => k H2 (e1.trans e2)⟩⟩
    · intro H' ex h3
      refine ⟨D, List.replicate xs.length true, rfl, SqL.of (by rw [h3, List.map_replicate]), ?_⟩
      have e : (List.replicate xs.length true).all id = true := by simp
      rw [e]
      exact q _ ex
def spDeed (K : PySem.W.Frag) : Sp := fun vs H Q _ => ∃ (v : V) (s : Stp), vs = [v] ∧ StpAt H v s ∧ s.Good ∧ RV (.bl (!s.isS)) H Q
theorem ok_deed (T : Txt K mg) (F : FnP K "is_deed" s_is_deed f fd) (C__is_worded : Cal P w K mg base CX0 1 "_is_worded" ["value"] spWorded) (C__are_deeds_together : Cal P w K mg base CX0 5 "_are_deeds_together" ["value"] (spTogether K)) (C__is_single_deed : Cal P w K mg base CX0 4 "_is_single_deed" ["value"] (spSingle K)) :
    Fg P w K mg base CX0 6 f fd ["value"] (spDeed K) := by
  refine fg_of F sc_is_deed (fun vs H Q E h => ?_) (fun cdv A outer s H vs Q E hr h => ⟨_, (PSs.nox (pss_cons (ps_if (pt_not (pt_tru (K := K) (pe_cal C__is_worded hr.le pass0 (pa_cons (pv 0) pa_nil)) (by intro _; rfl)))
  (pss_one (ps_ret pe_bl)) pss_nil)
  (pss_cons (ps_if (pt_cmpR (u_eq (K := K) hr) (pe_ix (u_ix (K := K)) (pv 0) pe_int (fun _ _ => rfl)) pe_str (nomark _))
  (pss_one (ps_ret (pe_and (pe_cmpR (u_eq (K := K) hr) (pe_callB (u_len (K := K)) (by rfl) T.f_len (by decide +kernel) (pa_cons (pv 0) pa_nil)) pe_int (nomark _)) (pe_one (pe_cal C__are_deeds_together hr.le pass0 (pa_cons (pe_ix (u_ix (K := K)) (pv 0) pe_int (fun _ _ => rfl)) pa_nil)))))) pss_nil)
  (pss_one (ps_ret (pe_cal C__is_single_deed hr.le pass0 (pa_cons (pv 0) pa_nil))))))), ?_⟩)
  · obtain ⟨v, s, rfl, _⟩ := h
    rfl
  · obtain ⟨v, s, rfl, at_, g, q⟩ := h
    cases s with
    | one d =>
      obtain ⟨a, vs, rfl, ha, pp⟩ := id at_
      refine ⟨_, rfl, a, d.w, vs, rfl, ha, true, rfl, iteF ?_⟩
      refine ⟨_, rfl, Sv.ix (x := V.str d.w) (Sv.tup ha) (atI_nat (j := 0) rfl) (.inl ⟨rfl, _, rfl, ?_⟩)⟩
      rw [decide_eq_false (show ¬ (V.str d.w = V.str "all") from fun z => (w_all d.i g.i9).1 (V.str.inj z))]
      exact iteF ⟨_, rfl, _, rfl, .inl ⟨d, at_, g, q⟩⟩
    | sync =>
      obtain ⟨a, rfl, ha⟩ := at_
      refine ⟨_, rfl, a, "sync", [], rfl, ha, true, rfl, iteF ?_⟩
      refine ⟨_, rfl, Sv.ix (x := V.str "sync") (Sv.tup ha) (atI_nat (j := 0) rfl) (.inl ⟨rfl, _, rfl, ?_⟩)⟩
      rw [decide_eq_false (show ¬ (V.str "sync" = V.str "all") from fun z => absurd (V.str.inj z) (by decide))]
      exact iteF ⟨_, rfl, _, rfl, .inr ⟨a, rfl, ha, q _ (Evl.Ex.refl _)⟩⟩
    | all ds =>
      obtain ⟨a, b, vs, rfl, ha, hb, pp⟩ := at_
      refine ⟨_, rfl, a, "all", _, rfl, ha, true, rfl, iteF ?_⟩
      refine ⟨_, rfl, Sv.ix (x := V.str "all") (Sv.tup ha) (atI_nat (j := 0) rfl) (.inl ⟨rfl, _, rfl, ?_⟩)⟩
      rw [decide_eq_true rfl]
      refine iteT ⟨_, rfl, _, _, rfl, (Sv.tup (K := K) ha).len, .inl ⟨rfl, _, rfl, iteT ?_⟩⟩
      exact ⟨_, rfl, Sv.ix (x := V.ref b) (Sv.tup ha) (atI_nat (j := 1) rfl) ⟨b, vs, ds, rfl, hb, pp, g.1, g.2.1, g.2.2, q⟩⟩
def spStep (K : PySem.W.Frag) : Sp := fun vs H Q _ => ∃ (v : V) (s : Stp), vs = [v] ∧ StpAt H v s ∧ s.Good ∧ RV (.bl true) H Q
theorem ok_step (T : Txt K mg) (F : FnP K "_is_step" s__is_step f fd) (C_is_deed : Cal P w K mg base CX0 6 "is_deed" ["value"] (spDeed K)) : Fg P w K mg base CX0 7 f fd ["value"] (spStep K) := by
  refine fg_of F sc__is_step (fun vs H Q E h => ?_) (fun cdv A outer s H vs Q E hr h => ⟨_, (PSs.nox (pss_one (ps_ret (pe_or (pe_cal C_is_deed hr.le pass0 (pa_cons (pv 0) pa_nil)) (pe_one (pe_and (pe_callB (u_isi (K := K)) (by rfl) T.f_isinstance (by decide +kernel) (pa_cons (pv 0) (pa_cons (pe_bltn (v := .ty "tuple") rfl T.f_tuple (by decide +kernel) rfl) pa_nil))) (pe_and (pe_cmpR (u_eq (K := K) hr) (pe_callB (u_len (K := K)) (by rfl) T.f_len (by decide +kernel) (pa_cons (pv 0) pa_nil)) pe_int (nomark _)) (pe_one (pe_cmpR (u_eq (K := K) hr) (pe_ix (u_ix (K := K)) (pv 0) pe_int (fun _ _ => rfl)) (pe_globS rfl T.g_SYNC) (nomark _)))))))))), ?_⟩)
  · obtain ⟨v, s, rfl, _⟩ := h
    rfl
  · obtain ⟨v, s, rfl, at_, g, q⟩ := h
    refine ⟨_, rfl, v, s, rfl, at_, g, fun H1 e1 => ⟨_, rfl, ?_⟩⟩
    cases s with
    | one d => exact iteT (q _ e1)
    | all ds => exact iteT (q _ e1)
    | sync =>
      obtain ⟨a, rfl, ha⟩ := at_
      have ha := e1 _ _ ha
      refine iteF ⟨_, rfl, _, _, _, _, true, rfl, .ty _, .base (.tup ha), kit_ty (by decide +kernel), true, rfl, iteT ?_⟩
      refine ⟨_, rfl, _, _, rfl, (Sv.tup (K := K) ha).len, .inl ⟨rfl, _, rfl, iteT ?_⟩⟩
      refine ⟨_, rfl, Sv.ix (x := V.str "sync") (Sv.tup ha) (atI_nat (j := 0) rfl) (.inl ⟨rfl, ?_⟩)⟩
      rw [decide_eq_true rfl]
      exact q _ e1
end
end K19
/-! runs of octets -/
namespace K19
open PySem PySem.Spec PyProof.Rows L2 VB BM
def runStep (acc : List (Int × Int)) (o : Int) : List (Int × Int) := match acc.getLast? with
  | some r => if r.1 = o then acc.dropLast ++ [(o, r.2 + 1)] else acc ++ [(o, 1)]
  | none => [(o, 1)]
def runsL (os : List Int) : List (Int × Int) := os.foldl runStep []
theorem runs_snoc (os : List Int) (o : Int) : runsL (os ++ [o]) = runStep (runsL os) o := by
  unfold runsL
  rw [List.foldl_append]
  rfl
theorem runStep_last (init : List (Int × Int)) (r : Int × Int) (o : Int) : runStep (init ++ [r]) o = if r.1 = o then init ++ [(o, r.2 + 1)] else init ++ [r] ++ [(o, 1)] := by
  unfold runStep
  rw [List.getLast?_concat, List.dropLast_concat]
def RnAt (H : Hp) (a : Addr) (r : Int × Int) : Prop := H a = some (.tup [.int r.1, .int r.2])
theorem pr_split {α β : Type} {R : α → β → Prop} : ∀ {xs : List α} {ys : List β} {y : β}, Paired R xs (ys ++ [y]) → ∃ xs' x, xs = xs' ++ [x] ∧ Paired R xs' ys ∧ R x y
  | _, [], _, .cons h .nil => ⟨[], _, rfl, .nil, h⟩
  | _, _ :: ys, _, .cons h t => by
    obtain ⟨xs', x, e, p, r⟩ := pr_split t
    exact ⟨_ :: xs', x, by rw [e]; rfl, .cons h p, r⟩
theorem pr_app {α β : Type} {R : α → β → Prop} : ∀ {xs : List α} {ys : List β} {xs' : List α} {ys' : List β}, Paired R xs ys → Paired R xs' ys' → Paired R (xs ++ xs') (ys ++ ys')
  | _, _, _, _, .nil, p => p
  | _, _, _, _, .cons h t, p => .cons h (pr_app t p)
/-- but for p -/
def wo (p : Addr) (H : Hp) : Hp := fun a => if a = p then none else H a
theorem wo_at {p a : Addr} {H : Hp} (h : a ≠ p) : wo p H a = H a := if_neg h
theorem wo_ex {p : Addr} {H : Hp} : Evl.Ex (wo p H) H := fun a u h => by
  unfold wo at h
  split at h
  · cases h
  · exact h
theorem wo_upd {p : Addr} {H : Hp} {o : HO} : wo p (upd H p o) = wo p H := by
  funext a
  unfold wo
  split
  · rfl
  · rename_i h
    exact upd_ne h
theorem wo_mono {p : Addr} {H H' : Hp} (e : Evl.Ex H H') : Evl.Ex (wo p H) (wo p H') := fun a u h => by
  unfold wo at h ⊢
  split at h
  · cases h
  · rename_i n
    rw [if_neg n]
    exact e a u h
theorem at_last {xs : List V} {x : V} : atI (xs ++ [x]) (-1) = some x := by
  unfold atI ixN
  rw [List.length_append, List.length_singleton, if_neg (by decide), if_pos (by omega)]
  have : (-1 + ((xs.length + 1 : Nat) : Int)).toNat = xs.length := by omega
  rw [this]
  show (xs ++ [x])[xs.length]? = _
  rw [List.getElem?_append_right (Nat.le_refl _), Nat.sub_self]
  rfl
theorem ix_last {n : Nat} : ixN (n + 1) (-1) = some n := by
  unfold ixN
  rw [if_neg (by decide), if_pos (by omega)]
  exact congrArg some (by omega)
theorem set_last {x y : V} : ∀ xs : List V, (xs ++ [x]).set xs.length y = xs ++ [y]
  | [] => rfl
  | a :: xs => congrArg (a :: ·) (set_last xs)
theorem snoc_or {α : Type} (l : List α) : l = [] ∨ ∃ init r, l = init ++ [r] := by
  rcases List.eq_nil_or_concat l with h | ⟨init, r, h⟩
  · exact .inl h
  · exact .inr ⟨init, r, by rw [h]; try exact List.concat_eq_append ..⟩
theorem step_bd {acc : List (Int × Int)} {m : Int} (h0 : 0 ≤ m) (h : ∀ r ∈ acc, 1 ≤ r.2 ∧ r.2 ≤ m) (o : Int) : (runStep acc o).length ≤ acc.length + 1 ∧ ∀ r ∈ runStep acc o, 1 ≤ r.2 ∧ r.2 ≤ m + 1 := by
  rcases snoc_or acc with rfl | ⟨init, r, rfl⟩
  · exact ⟨Nat.le_refl _, fun r hr => by rw [List.mem_singleton.mp hr]; exact ⟨(show (1 : Int) ≤ 1 by decide), (show (1 : Int) ≤ m + 1 by omega)⟩⟩
  · rw [runStep_last]
    have hr := h r (List.mem_append_right _ (List.mem_singleton_self _))
    split
    · refine ⟨by rw [List.length_append, List.length_append]; exact Nat.le_succ _, fun z hz => ?_⟩
      rcases List.mem_append.mp hz with hz | hz
      · have := h z (List.mem_append_left _ hz)
        omega
      · rw [List.mem_singleton.mp hz]
        show 1 ≤ r.2 + 1 ∧ r.2 + 1 ≤ m + 1
        omega
    · refine ⟨by rw [List.length_append]; exact Nat.le_refl _, fun z hz => ?_⟩
      rcases List.mem_append.mp hz with hz | hz
      · have := h z hz
        omega
      · rw [List.mem_singleton.mp hz]
        show (1 : Int) ≤ 1 ∧ 1 ≤ m + 1
        omega
theorem fold_bd : ∀ {os : List Int} {acc : List (Int × Int)} {m : Int}, 0 ≤ m → (∀ r ∈ acc, 1 ≤ r.2 ∧ r.2 ≤ m) → (os.foldl runStep acc).length ≤ acc.length + os.length ∧ ∀ r ∈ os.foldl runStep acc, 1 ≤ r.2 ∧ r.2 ≤ m + (os.length : Int)
  | [], acc, m, h0, h => ⟨Nat.le_refl _, fun r hr => by have := h r hr; rw [List.length_nil]; omega⟩
  | o :: os, acc, m, h0, h => by
    obtain ⟨s1, s2⟩ := step_bd h0 h o
    obtain ⟨f1, f2⟩ := fold_bd (os := os) (acc := runStep acc o) (m := m + 1) (by omega) s2
    rw [List.foldl_cons, List.length_cons]
    exact ⟨by omega, fun r hr => by have := f2 r hr; omega⟩
theorem run_bd (os : List Int) : (runsL os).length ≤ os.length ∧ ∀ r ∈ runsL os, 1 ≤ r.2 ∧ r.2 ≤ (os.length : Int) := by
  obtain ⟨h1, h2⟩ := fold_bd (os := os) (acc := []) (m := 0) (by decide) (fun _ z => nomatch z)
  exact ⟨by rw [List.length_nil] at h1; unfold runsL; omega, fun r hr => by have := h2 r hr; omega⟩
section
variable {P : Program} {w : World} {K : PySem.W.Frag} {mg : Str → Option Value} {base : Heap} {f : Addr} {fd : FuncData}
def spRuns (K : PySem.W.Frag) : Sp := fun vs H Q _ => ∃ (a : Addr) (os : List Int) (t : Bool), vs = [.ref a] ∧ Sv t K H a (IV os) ∧ os.length ≤ 1000 ∧ ∀ (L : Addr) (as : List Addr) (H' : Hp), Evl.Ex H H' → H' L = some (.lst (as.map V.ref)) → Paired (RnAt H') as (runsL os) → Q (.ref L) H'
theorem ok_runs (T : Txt K mg) (F : FnP K "_runs" s__runs f fd) : Fg P w K mg base CX0 1 f fd ["octets"] (spRuns K) := by
  refine fg_of F sc__runs (fun vs H Q E h => ?_) (fun cdv A outer s H vs Q E hr h => ⟨_, (PSs.nox (pss_cons (ps_set (i := 1) sc__runs.nd rfl (by first | exact Or.inl rfl | exact Or.inr rfl) (pe_lst pa_nil))
  (pss_cons (ps_for PassesOwn.never rfl (pi_seq (K := K) (pv 0)) (pg_name (i := 2) sc__runs.nd rfl (by first | exact Or.inl rfl | exact Or.inr rfl))
  (pss_one (ps_if (PW.pt (pw_and (pt_cmpR op_gt (pe_callB (u_len (K := K)) (by rfl) T.f_len (by decide +kernel) (pa_cons (pv 1) pa_nil)) pe_int (nomark _)) (pw_and1 (pt_cmpR (u_eq (K := K) hr) (pe_ix (u_ix (K := K)) (pe_ix (u_ix (K := K)) (pv 1) (pe_un un_neg pe_int) (fun _ _ => rfl)) pe_int (fun _ _ => rfl)) (pv 2) (nomark _)))))
  (pss_one (ps_asg (pe_tup (pa_cons (pv 2) (pa_cons (pe_op (u_add (K := K)) (pe_ix (u_ix (K := K)) (pe_ix (u_ix (K := K)) (pv 1) (pe_un un_neg pe_int) (fun _ _ => rfl)) pe_int (fun _ _ => rfl)) pe_int) pa_nil))) (pg_sub (pv 1) (pe_un un_neg pe_int) set_list))) (pss_one (ps_expr (pe_bm PySem.F.plainAttrs_list PySem.F.slot_list_append PySem.F.type_list_append mt_append (pv 1) (pa_cons (pe_tup (pa_cons (pv 2) (pa_cons pe_int pa_nil))) pa_nil)))))))
  (pss_one (ps_ret (pv 1)))))), ?_⟩)
  · obtain ⟨a, os, t, rfl, _⟩ := h
    rfl
  · obtain ⟨a, os, t, rfl, S, hl, q⟩ := h
    refine ⟨by show 0 ≤ sizeLine; decide, fun L nL => ?_⟩
    have xL := Evl.Ex.new (o := .lst ([] : List V)) nL
    have hL := upd_same (H := H) (a := L) (o := .lst ([] : List V))
    refine seq_var (t := t) rfl (S.ex xL) fun J wk => ?_
    rw [iv_len] at wk
    refine for_it wk (fun i σ H' => i ≤ os.length ∧ Evl.Ex H H' ∧ ∃ (as : List Addr) (v2 : Option V), σ = [some (.ref a), some (.ref L), v2] ∧ H' L = some (.lst (as.map V.ref)) ∧ Paired (RnAt (wo L H')) as (runsL (os.take i))) ⟨by omega, xL, [], _, rfl, hL, .nil⟩ (fun i σ H' _ h => by obtain ⟨_, e, _⟩ := h; exact S.ex e) ?_ ?_
    · rintro i x σ G0 G hi ⟨_, eG, as, v2, rfl, hG, PG⟩ ⟨rfl, hx⟩
      obtain ⟨o, ho, rfl⟩ := iv_get hx
      have hi : i < os.length := hi
      have tk : os.take (i + 1) = os.take i ++ [o] := by rw [List.take_add_one, ho]; rfl
      obtain ⟨bd, _⟩ := run_bd (os.take i)
      have la : as.length ≤ 1000 := by
        have := pr_len PG
        rw [List.length_take] at bd
        omega
      have app : ∀ (rs : List (Int × Int)) {as : List Addr}, as.length ≤ 1000 → runsL (os.take (i + 1)) = rs ++ [(o, 1)] → G L = some (.lst (as.map V.ref)) → Paired (RnAt (wo L G)) as rs → ∀ {D' : Ends}, (∀ σ' H', (i + 1 ≤ os.length ∧ Evl.Ex H H' ∧ ∃ (as : List Addr) (v2 : Option V), σ' = [some (.ref a), some (.ref L), v2] ∧ H' L = some (.lst (as.map V.ref)) ∧ Paired (RnAt (wo L H')) as (runsL (os.take (i + 1)))) → D'.nx σ' H') →
          tDrop (tBM K "list" rAppend (tVar 1) (tCons (tTup (tCons (tVar 2) (tCons (tC (V.int 1)) tNil))) tNil)) D' [some (.ref a), some (.ref L), some (.int o)] G := by
        intro rs as la es hG PG D' k
        refine ⟨_, rfl, .inl ⟨rfl, _, SqL.of hG⟩, _, rfl, by show 2 ≤ sizeLine; decide, fun p np => ?_⟩
        have xp := Evl.Ex.new (o := .tup [V.int o, .int 1]) np
        have pL : p ≠ L := fun z => by rw [z, hG] at np; cases np
        refine ⟨L, _, _, rfl, rfl, xp _ _ hG, ?_, k _ _ ⟨hi, Evl.Ex.mut (eG.trans xp) nL, as ++ [p], _, rfl, ?_, ?_⟩⟩
        · rw [List.length_map]
          exact Evl.sz_lt (by omega)
        · rw [upd_same, List.map_append]
          rfl
        · rw [es, wo_upd]
          refine pr_app (pr_mono (fun _ _ z => (wo_mono xp) _ _ z) PG) (.cons ?_ .nil)
          show wo L (upd G p _) p = _
          rw [wo_at pL, upd_same]
      rcases snoc_or (runsL (os.take i)) with er | ⟨init, r, er⟩
      · rw [er] at PG
        have ea : as = [] := by cases PG; rfl
        subst ea
        have g0 : decide ((([] : List V).length : Int) > 0) = false := by decide
        refine ⟨_, rfl, _, _, rfl, (Sv.lst (K := K) hG).len, _, _, rfl, rfl, _, rfl, iteF (iteF (app [] la ?_ hG PG fun _ _ z => z))⟩
        rw [tk, runs_snoc, er]
        rfl
      · rw [er] at PG
        obtain ⟨as', y, rfl, P1, ry⟩ := pr_split PG
        have hy : G y = some (.tup [.int r.1, .int r.2]) := wo_ex _ _ ry
        have g1 : decide (((((as' ++ [y]).map V.ref).length : Nat) : Int) > 0) = true := decide_eq_true (by rw [List.length_map, List.length_append, List.length_singleton]; omega)
        have al : atI ((as' ++ [y]).map V.ref) (-1) = some (.ref y) := by rw [List.map_append]; exact at_last
        refine ⟨_, rfl, _, _, rfl, (Sv.lst (K := K) hG).len, _, _, rfl, rfl, true, congrArg V.bl g1, iteT ?_⟩
        refine ⟨_, rfl, 1, rfl, Sv.ix (x := V.ref y) (Sv.lst hG) al (Sv.ix (x := V.int r.1) (Sv.tup hy) (atI_nat (j := 0) rfl) ⟨_, rfl, .inl ⟨rfl, _, rfl, ?_⟩⟩)⟩
        rw [dki]
        have es : runsL (os.take (i + 1)) = if r.1 = o then init ++ [(o, r.2 + 1)] else init ++ [r] ++ [(o, 1)] := by rw [tk, runs_snoc, er, runStep_last]
        by_cases h : r.1 = o
        · rw [decide_eq_true h]
          rw [if_pos h] at es
          refine iteT ⟨_, rfl, _, rfl, 1, rfl, Sv.ix (x := V.ref y) (Sv.lst hG) al (Sv.ix (x := V.int r.2) (Sv.tup hy) (atI_nat (j := 1) rfl) (.inl ⟨_, _, rfl, rfl, by show 2 ≤ sizeLine; decide, fun p np => ?_⟩))⟩
          have xp := Evl.Ex.new (o := .tup [V.int o, .int (r.2 + 1)]) np
          have pL : p ≠ L := fun z => by rw [z, hG] at np; cases np
          have ln : ((as' ++ [y]).map V.ref).length = as'.length + 1 := by rw [List.length_map, List.length_append]; rfl
          refine ⟨_, rfl, 1, rfl, L, _, _, as'.length, rfl, rfl, xp _ _ hG, ?_, ?_⟩
          · rw [ln]
            exact ix_last
          · refine ⟨hi, Evl.Ex.mut (eG.trans xp) nL, as' ++ [p], _, rfl, ?_, ?_⟩
            · have sl := set_last (x := V.ref y) (y := V.ref p) (as'.map V.ref)
              rw [List.length_map] at sl
              rw [upd_same, List.map_append, List.map_append]
              exact congrArg (fun z => some (HO.lst z)) sl
            · rw [es, wo_upd]
              refine pr_app (pr_mono (fun _ _ z => (wo_mono xp) _ _ z) P1) (.cons ?_ .nil)
              show wo L (upd G p _) p = _
              rw [wo_at pL, upd_same]
        · rw [decide_eq_false h]
          rw [if_neg h] at es
          exact iteF (app _ la es hG PG fun _ _ z => z)
    · rintro σ H' ⟨_, e, as, v2, rfl, h1, P1⟩
      rw [List.take_length] at P1
      exact ⟨_, rfl, q L as H' e h1 (pr_mono (fun _ _ z => wo_ex _ _ z) P1)⟩
end
end K19
/-! words and lines -/
namespace K19
open PySem PySem.Spec PyProof.Rows L2 VB BM
def runW (r : Int × Int) : Str := if r.2 = 1 then txI r.1 else ((Str.empty ++ txI r.1) ++ "*") ++ txI r.2
def octW (os : List Int) : Str := Txt.join "," ((runsL os).map runW)
def wordS : Pt → Str
  | .path p => "/" ++ Txt.join "/" p
  | .size n => txI n
  | .octs os => octW os
  | .name x => x
def lineD (d : Dd) : Str := Txt.join " " (d.w :: d.ps.map wordS)
def lineS : Stp → Str
  | .one d => lineD d
  | .all ds => "all: " ++ Txt.join "; " (ds.map lineD)
  | .sync => "sync"
theorem tx_len {i : Int} (h0 : 0 ≤ i) (h1 : i ≤ 255) : (txI i : Str).length ≤ 20 ∧ i.natAbs.log2 < 1920 := by
  refine ⟨?_, Nat.lt_of_le_of_lt (Nat.log2_le_self _) (by omega)⟩
  have := int_text_length_le10 (k := 3) (by decide) (show i.natAbs < 10 ^ 3 by omega)
  show (Str.ofString (toString i)).length ≤ _
  rw [PySem.ofString_length]
  omega
section
variable {P : Program} {w : World} {K : PySem.W.Frag} {mg : Str → Option Value} {base : Heap} {f : Addr} {fd : FuncData}
def spRunW : Sp := fun vs H Q _ => ∃ r : Int × Int, vs = [.int r.1, .int r.2] ∧ 0 ≤ r.1 ∧ r.1 ≤ 255 ∧ 0 ≤ r.2 ∧ r.2 ≤ 255 ∧ Q (.str (runW r)) H
theorem ok_runw (T : Txt K mg) (F : FnP K "_run_word" s__run_word f fd) : Fg P w K mg base CX0 1 f fd ["octet", "count"] spRunW := by
  refine fg_of F sc__run_word (fun vs H Q E h => ?_) (fun cdv A outer s H vs Q E hr h => ⟨_, (PSs.nox (pss_cons (ps_if (pt_cmpR (u_eq (K := K) hr) (pv 1) pe_int (nomark _))
  (pss_one (ps_ret (pe_callTy call_str_int (by rfl) T.f_str (by decide +kernel) (pa_cons (pv 0) pa_nil)))) pss_nil)
  (pss_one (ps_ret (pe_joined (.cons (pe_fmt (pv 0)) (.cons pe_str (.cons (pe_fmt (pv 1)) .nil)))))))), ?_⟩)
  · obtain ⟨r, rfl, _⟩ := h
    rfl
  · obtain ⟨⟨o, c⟩, rfl, h1, h2, h3, h4, q⟩ := h
    have h1 : 0 ≤ o := h1
    have h2 : o ≤ 255 := h2
    have h3 : 0 ≤ c := h3
    have h4 : c ≤ 255 := h4
    obtain ⟨l1, g1⟩ := tx_len h1 h2
    obtain ⟨l2, g2⟩ := tx_len h3 h4
    have l1 : (Str.ofString (toString o)).length ≤ 20 := l1
    have l2 : (Str.ofString (toString c)).length ≤ 20 := l2
    have q : Q (.str (if c = 1 then txI o else ((Str.empty ++ txI o) ++ "*") ++ txI c)) H := q
    refine ⟨_, rfl, .inl ⟨rfl, _, rfl, ?_⟩⟩
    rw [dki]
    by_cases h : c = 1
    · rw [decide_eq_true h]
      rw [if_pos h] at q
      exact iteT ⟨_, rfl, o, rfl, g1, q⟩
    · rw [decide_eq_false h]
      rw [if_neg h] at q
      refine iteF ⟨_, rfl, .inr ⟨o, rfl, g1, _, rfl, ?_, _, rfl, ?_, _, rfl, .inr ⟨c, rfl, g2, _, rfl, ?_, q⟩⟩⟩
      · rw [PySem.strLen_append, sizeLine_eq]
        show 0 + _ ≤ _
        omega
      · rw [PySem.strLen_append, PySem.strLen_append, sizeLine_eq]
        show 0 + _ + 1 ≤ _
        omega
      · rw [PySem.strLen_append, PySem.strLen_append, PySem.strLen_append, sizeLine_eq]
        show 0 + _ + 1 + _ ≤ _
        omega
end
end K19
/-! words of parts -/
namespace K19
open PySem PySem.Spec PyProof.Rows L2 VB BM
theorem fold_fst {p : Int → Prop} : ∀ {os : List Int} {acc : List (Int × Int)}, (∀ o ∈ os, p o) → (∀ r ∈ acc, p r.1) → ∀ r ∈ os.foldl runStep acc, p r.1
  | [], _, _, h => h
  | o :: os, acc, ho, h => by
    have po := ho o (List.mem_cons_self ..)
    refine fold_fst (os := os) (acc := runStep acc o) (fun z hz => ho z (List.mem_cons_of_mem _ hz)) fun r hr => ?_
    rcases snoc_or acc with rfl | ⟨init, l, rfl⟩
    · rw [List.mem_singleton.mp hr]
      exact po
    · rw [runStep_last] at hr
      split at hr
      · rcases List.mem_append.mp hr with hr | hr
        · exact h r (List.mem_append_left _ hr)
        · rw [List.mem_singleton.mp hr]
          exact po
      · rcases List.mem_append.mp hr with hr | hr
        · exact h r hr
        · rw [List.mem_singleton.mp hr]
          exact po
theorem runw_len {r : Int × Int} (h0 : 0 ≤ r.1) (h1 : r.1 ≤ 255) (h2 : 0 ≤ r.2) (h3 : r.2 ≤ 255) : (runW r).length ≤ 60 := by
  have a : (txI r.1 : Str).length ≤ 20 := (tx_len h0 h1).1
  have b : (txI r.2 : Str).length ≤ 20 := (tx_len h2 h3).1
  unfold runW
  split
  · exact Nat.le_trans a (by decide)
  · rw [PySem.strLen_append, PySem.strLen_append, PySem.strLen_append]
    show 0 + (txI r.1 : Str).length + 1 + (txI r.2 : Str).length ≤ 60
    omega
theorem join_le (y : Str) (ts : List Str) {m : Nat} (h : ∀ t ∈ ts, t.length ≤ m) : (ts.map (·.length)).sum ≤ m * ts.length := by
  induction ts with
  | nil => exact Nat.zero_le _
  | cons t ts ih =>
    rw [List.map_cons, List.sum_cons, List.length_cons, Nat.mul_succ]
    have := h t (List.mem_cons_self ..)
    have := ih fun z hz => h z (List.mem_cons_of_mem _ hz)
    omega
section
variable {P : Program} {w : World} {K : PySem.W.Frag} {mg : Str → Option Value} {base : Heap} {f : Addr} {fd : FuncData}
def spWord (K : PySem.W.Frag) : Sp := fun vs H Q _ => ∃ (v : V) (p : Pt), vs = [.str p.kd, v] ∧ PtAt H v p ∧ p.Good ∧ RV (.str (wordS p)) H Q
theorem ok_word (T : Txt K mg) (F : FnP K "_word" s__word f fd) (C__runs : Cal P w K mg base CX0 1 "_runs" ["octets"] (spRuns K)) (C__run_word : Cal P w K mg base CX0 1 "_run_word" ["octet", "count"] spRunW) : Fg P w K mg base CX0 2 f fd ["part", "item"] (spWord K) := by
  refine fg_of F sc__word (fun vs H Q E h => ?_) (fun cdv A outer s H vs Q E hr h => ⟨_, (PSs.nox (pss_cons (ps_if (pt_cmpR (u_eq (K := K) hr) (pv 0) pe_str (nomark _))
  (pss_one (ps_ret (pe_op L2.op_add_str pe_str (pe_bm PySem.F.plainAttrs_str PySem.F.slot_str_join PySem.F.type_str_join mt_join pe_str (pa_cons (pv 1) pa_nil))))) pss_nil)
  (pss_cons (ps_if (pt_cmpR (u_eq (K := K) hr) (pv 0) pe_str (nomark _))
  (pss_one (ps_ret (pe_callTy call_str_int (by rfl) T.f_str (by decide +kernel) (pa_cons (pv 1) pa_nil)))) pss_nil)
  (pss_cons (ps_if (pt_cmpR (u_eq (K := K) hr) (pv 0) pe_str (nomark _))
  (pss_one (ps_ret (pe_bm PySem.F.plainAttrs_str PySem.F.slot_str_join PySem.F.type_str_join mt_join pe_str (pa_cons (pe_lc (own := [("octet", 2), ("count", 3)]) rfl sc__word.nd (pi_seq (K := K) (pe_cal C__runs hr.le pass0 (pa_cons (pv 1) pa_nil))) (blkOk_by (own := [("octet", 2), ("count", 3)]) (N := ["part", "item", "octet", "count"]) (sc := defScope s__word) (by decide +kernel)) (fun _ _ _ _ _ => (pg_tupU (K := K) (n := 2) rfl (pgs_cons (pg_name (i := 2) sc__word.nd rfl (by first | exact Or.inl rfl | exact Or.inr rfl)) (pgs_cons (pg_name (i := 3) sc__word.nd rfl (by first | exact Or.inl rfl | exact Or.inr rfl)) pgs_nil)))) (fun _ _ _ _ _ => pts_nil) (fun _ _ _ _ _ => (pe_cal C__run_word hr.le pass0 (pa_cons (pv 2) (pa_cons (pv 3) pa_nil))))) pa_nil)))) pss_nil)
  (pss_one (ps_ret (pv 1))))))), ?_⟩)
  · obtain ⟨v, p, rfl, _⟩ := h
    rfl
  · obtain ⟨v, p, rfl, at_, g, q⟩ := h
    have eT : ∀ {c : Str} {H' : Hp} {Q' : Bool → Hp → Prop}, p.kd = c → Q' true H' → tTest (tOp (rEqU K) (tVar 0) (tC (V.str c))) [some (.str p.kd), some v, none, none] H' Q' := fun e q => ⟨_, rfl, .inl ⟨rfl, _, rfl, by rw [decide_eq_true (congrArg V.str e)]; exact q⟩⟩
    have eF : ∀ {c : Str} {H' : Hp} {Q' : Bool → Hp → Prop}, p.kd ≠ c → Q' false H' → tTest (tOp (rEqU K) (tVar 0) (tC (V.str c))) [some (.str p.kd), some v, none, none] H' Q' := fun e q => ⟨_, rfl, .inl ⟨rfl, _, rfl, by rw [decide_eq_false (fun z => e (V.str.inj z))]; exact q⟩⟩
    have rf := Evl.Ex.refl H
    cases p with
    | path p =>
      obtain ⟨a, rfl, ha⟩ := at_
      have s1 := join_le "/" p (m := 8) fun t ht => (g.1 t ht).2.1
      have s2 := g.2
      have jl : (Txt.join "/" p).length ≤ 1000 := by
        have : (Txt.join "/" p).length = (p.map (·.length)).sum + (p.length - 1) * 1 := size_glued "/" p
        omega
      refine eT rfl (iteT ⟨rfl, _, rfl, "/", a, p, rfl, rfl, .inr (SqT.of ha), ?_, _, _, rfl, rfl, ?_, q _ rf⟩)
      · show (p.map (·.length)).sum + p.length * 1 ≤ _
        omega
      · show 1 + _ ≤ _
        rw [sizeLine_eq]
        omega
    | size n =>
      obtain rfl : v = .int n := at_
      refine eF (show ("size" : Str) ≠ "path" by decide) (iteF (eT rfl (iteT ⟨_, rfl, n, rfl, ?_, q _ rf⟩)))
      exact (tx_len g.1 (by have := g.2; omega)).2
    | name x =>
      obtain rfl : v = .str x := at_
      exact eF (show ("name" : Str) ≠ "path" by decide) (iteF (eF (show ("name" : Str) ≠ "size" by decide) (iteF (eF (show ("name" : Str) ≠ "octets" by decide) (iteF ⟨_, rfl, q _ rf⟩)))))
    | octs os =>
      obtain ⟨a, rfl, ha⟩ := at_
      refine eF (show ("octets" : Str) ≠ "path" by decide) (iteF (eF (show ("octets" : Str) ≠ "size" by decide) (iteF (eT rfl (iteT ?_)))))
      obtain ⟨t, S⟩ : ∃ t, Sv t K H a (IV os) := by
        rcases ha with ha | ha
        · exact ⟨true, Sv.tup ha⟩
        · exact ⟨false, Sv.lst ha⟩
      obtain ⟨b1, b2⟩ := run_bd os
      have g2 := g.2.2
      refine ⟨rfl, .inl ⟨_, rfl, a, os, t, rfl, S, by omega, fun L as H1 e1 hL PL => ⟨L, rfl, ⟨_, SqL.of hL⟩, fun D hD => ?_⟩⟩⟩
      have ln := pr_len PL
      refine lc_it walk_list (fun i H' => i ≤ as.length ∧ Evl.Ex H1 H' ∧ H' D = some (.lst (((runsL os).take i).map fun r => V.str (runW r)))) ⟨by omega, Evl.Ex.new hD, upd_same⟩ (fun i H' _ h => by obtain ⟨_, e, _⟩ := h; exact SqL.of (e _ _ hL)) ?_ ?_
      · rintro i x G0 G hi ⟨_, eG, hG⟩ ⟨rfl, hx⟩
        have hi : i < as.length := by rw [List.length_map] at hi; exact hi
        rw [List.getElem?_map] at hx
        obtain ⟨b, hb, rfl⟩ := Option.map_eq_some_iff.mp hx
        obtain ⟨r, hr', ra⟩ := pr_at PL hb
        have mr := b2 r (List.mem_of_getElem? hr')
        have fr := fold_fst (p := fun o => 0 ≤ o ∧ o ≤ 255) (os := os) (acc := []) g.1 (fun _ z => nomatch z) r (List.mem_of_getElem? hr')
        refine ⟨b, _, rfl, SqT.of (eG _ _ ra), rfl, _, _, rfl, _, _, rfl, rfl, rfl, ?_⟩
        refine ⟨_, rfl, _, rfl, r, rfl, fr.1, fr.2, by omega, by omega, _, hG, ?_, hi, Evl.Ex.mut eG hD, ?_⟩
        · rw [List.length_map, List.length_take]
          exact Evl.sz_lt (by omega)
        · rw [upd_same, List.take_add_one, hr', List.map_append]
          rfl
      · rintro H' ⟨_, e, h⟩
        rw [List.length_map, ln, List.take_length] at h
        have bl := join_le "," ((runsL os).map runW) (m := 60) fun t ht => by
          obtain ⟨r, hr', rfl⟩ := List.mem_map.mp ht
          have mr := b2 r hr'
          have fr := fold_fst (p := fun o => 0 ≤ o ∧ o ≤ 255) (os := os) (acc := []) g.1 (fun _ z => nomatch z) r hr'
          exact runw_len fr.1 fr.2 (by omega) (by omega)
        rw [List.length_map] at bl
        refine ⟨",", D, (runsL os).map runW, rfl, rfl, .inl (SqL.of (by rw [h, List.map_map]; rfl)), ?_, q _ (e1.trans e)⟩
        show (((runsL os).map runW).map (·.length)).sum + ((runsL os).map runW).length * 1 ≤ _
        rw [List.length_map]
        omega
end
end K19
/-! lines of single deeds -/
namespace K19
open PySem PySem.Spec PyProof.Rows L2 VB BM
theorem w_len : ∀ i, i < 9 → (tabW.getD i "").length ≤ 4000 := by decide +kernel
section
variable {P : Program} {w : World} {K : PySem.W.Frag} {mg : Str → Option Value} {base : Heap} {f : Addr} {fd : FuncData}
theorem cat_l {H : Hp} {a b : Addr} {xs ys : List V} {Q : VK} (h1 : H a = some (.lst xs)) (h2 : H b = some (.lst ys)) (z : xs.length + ys.length ≤ 1000) (k : RL (xs ++ ys) H Q) : rAddU K (.ref a) (.ref b) H Q :=
  .inr (.inl ⟨a, b, xs, ys, rfl, rfl, h1, h2, Nat.le_trans z (by decide), fun r nr => k r _ nr (Evl.Ex.new nr) upd_same⟩)
theorem word_len {p : Pt} (g : p.Good) : (wordS p).length ≤ 4000 := by
  cases p with
  | path p =>
    have s1 := join_le "/" p (m := 8) fun t ht => (g.1 t ht).2.1
    have s2 := g.2
    have : (Txt.join "/" p).length = (p.map (·.length)).sum + (p.length - 1) * 1 := size_glued "/" p
    show ("/" ++ Txt.join "/" p : Str).length ≤ 4000
    rw [PySem.strLen_append]
    show 1 + _ ≤ _
    omega
  | size n => exact Nat.le_trans (tx_len g.1 (by have := g.2; omega)).1 (by decide)
  | name x => exact Nat.le_trans g.2.1 (by decide)
  | octs os =>
    obtain ⟨b1, b2⟩ := run_bd os
    have g2 := g.2.2
    have bl := join_le "," ((runsL os).map runW) (m := 60) fun t ht => by
      obtain ⟨r, hr', rfl⟩ := List.mem_map.mp ht
      have mr := b2 r hr'
      have fr := fold_fst (p := fun o => 0 ≤ o ∧ o ≤ 255) (os := os) (acc := []) g.1 (fun _ z => nomatch z) r hr'
      exact runw_len fr.1 fr.2 (by omega) (by omega)
    rw [List.length_map] at bl
    have : (Txt.join "," ((runsL os).map runW)).length = (((runsL os).map runW).map (·.length)).sum + (((runsL os).map runW).length - 1) * 1 := size_glued "," _
    rw [List.length_map] at this
    show (Txt.join "," ((runsL os).map runW)).length ≤ 4000
    omega
def spLine1 (K : PySem.W.Frag) : Sp := fun vs H Q _ => ∃ (v : V) (d : Dd), vs = [v] ∧ DdAt H v d ∧ d.Good ∧ RV (.str (lineD d)) H Q
theorem ok_line1 (T : Txt K mg) (TB : Tb K w) (F : FnP K "_line" s__line f fd) (C__line : Cal P w K mg base CX0 2 "_line" ["step"] (fun _ _ _ _ => False)) (C__word : Cal P w K mg base CX0 2 "_word" ["part", "item"] (spWord K)) : Fg P w K mg base CX0 3 f fd ["step"] (spLine1 K) := by
  refine fg_of F sc__line (fun vs H Q E h => ?_) (fun cdv A outer s H vs Q E hr h => ⟨_, (PSs.nox (pss_cons (ps_if (pt_cmpR (u_eq (K := K) hr) (pe_ix (u_ix (K := K)) (pv 0) pe_int (fun _ _ => rfl)) (pe_globS rfl T.g_SYNC) (nomark _))
  (pss_one (ps_ret (pe_globS rfl T.g_SYNC))) pss_nil)
  (pss_cons (ps_if (pt_cmpR (u_eq (K := K) hr) (pe_ix (u_ix (K := K)) (pv 0) pe_int (fun _ _ => rfl)) pe_str (nomark _))
  (pss_one (ps_ret (pe_op L2.op_add_str (pe_globS rfl T.g_TOGETHER) (pe_bm PySem.F.plainAttrs_str PySem.F.slot_str_join PySem.F.type_str_join mt_join pe_str (pa_cons (pe_lc (own := [("deed", 2)]) rfl sc__line.nd (pi_seq (K := K) (pe_ix (u_ix (K := K)) (pv 0) pe_int (fun _ _ => rfl))) (blkOk_by (own := [("deed", 2)]) (N := ["step", "parts", "deed", "part", "item"]) (sc := defScope s__line) (by decide +kernel)) (fun _ _ _ _ _ => (pg_name (i := 2) sc__line.nd rfl (by first | exact Or.inl rfl | exact Or.inr rfl))) (fun _ _ _ _ _ => pts_nil) (fun _ _ _ _ _ => (pe_cal C__line hr.le pass0 (pa_cons (pv 2) pa_nil)))) pa_nil))))) pss_nil)
  (pss_cons (ps_set (i := 1) sc__line.nd rfl (by first | exact Or.inl rfl | exact Or.inr rfl) (pe_ix ix_kdict (pe_glob (v := .ref (He.ga K "DEED_PARTS")) rfl T.g_DEED_PARTS rfl) (pe_ix (u_ix (K := K)) (pv 0) pe_int (fun _ _ => rfl)) (fun _ _ => rfl)))
  (pss_one (ps_ret (pe_bm PySem.F.plainAttrs_str PySem.F.slot_str_join PySem.F.type_str_join mt_join pe_str (pa_cons (pe_op (u_add (K := K)) (pe_lst (pa_cons (pe_ix (u_ix (K := K)) (pv 0) pe_int (fun _ _ => rfl)) pa_nil)) (pe_lc (own := [("part", 3), ("item", 4)]) rfl sc__line.nd (pi_zm (K := K) rfl T.f_zip (pa_cons (pv 1) (pa_cons (pe_slice (u_sl (K := K)) (pv 0) (po_some pe_int) po_none) pa_nil))) (blkOk_by (own := [("part", 3), ("item", 4)]) (N := ["step", "parts", "deed", "part", "item"]) (sc := defScope s__line) (by decide +kernel)) (fun _ _ _ _ _ => (pg_tupU (K := K) (n := 2) rfl (pgs_cons (pg_name (i := 3) sc__line.nd rfl (by first | exact Or.inl rfl | exact Or.inr rfl)) (pgs_cons (pg_name (i := 4) sc__line.nd rfl (by first | exact Or.inl rfl | exact Or.inr rfl)) pgs_nil)))) (fun _ _ _ _ _ => pts_nil) (fun _ _ _ _ _ => (pe_cal C__word hr.le pass0 (pa_cons (pv 3) (pa_cons (pv 4) pa_nil)))))) pa_nil)))))))), ?_⟩)
  · obtain ⟨v, d, rfl, _⟩ := h
    rfl
  · obtain ⟨v, d, rfl, at_, g, q⟩ := h
    obtain ⟨a, vs, rfl, ha, PP⟩ := at_
    obtain ⟨qa, _, kd, hq⟩ := TB.at_ d.i g.i9
    have lk : (tabK.getD d.i []).length = vs.length := by rw [← g.kd, List.length_map, pr_len PP]
    obtain ⟨t1, t3⟩ := tabK_len d.i g.i9
    have wa := w_all d.i g.i9
    refine ⟨_, rfl, Sv.ix (x := V.str d.w) (Sv.tup ha) (atI_nat (j := 0) rfl) (.inl ⟨rfl, _, rfl, ?_⟩)⟩
    rw [decide_eq_false (show ¬ (V.str d.w = V.str "sync") from fun z => wa.2 (V.str.inj z))]
    refine iteF ⟨_, rfl, Sv.ix (x := V.str d.w) (Sv.tup ha) (atI_nat (j := 0) rfl) (.inl ⟨rfl, _, rfl, ?_⟩)⟩
    rw [decide_eq_false (show ¬ (V.str d.w = V.str "all") from fun z => wa.1 (V.str.inj z))]
    refine iteF ⟨_, rfl, Sv.ix (x := V.str d.w) (Sv.tup ha) (atI_nat (j := 0) rfl) ⟨_, _, _, rfl, rfl, kd, ?_⟩⟩
    refine ⟨rfl, _, rfl, Sv.ix (x := V.str d.w) (Sv.tup ha) (atI_nat (j := 0) rfl) ⟨by show 1 ≤ sizeLine; decide, fun s0 n0 => ?_⟩⟩
    have e0 := Evl.Ex.new (o := .lst [V.str d.w]) n0
    have h0 := upd_same (H := H) (a := s0) (o := .lst [V.str d.w])
    generalize upd H s0 (.lst [V.str d.w]) = H0 at e0 h0 ⊢
    refine ⟨_, rfl, _, rfl, 1, rfl, .inr (.inl ⟨a, _, rfl, SqT.of (e0 _ _ ha), fun z => sx_ne (i := 1) (by decide) (by rw [List.length_cons]; omega) z.1, fun s1 n1 => ?_⟩)⟩
    rw [cut1]
    have e1 := e0.trans (Evl.Ex.new (o := .tup vs) n1)
    have h0 := (Evl.Ex.new (o := .tup vs) n1) _ _ h0
    have h1 := upd_same (H := H0) (a := s1) (o := .tup vs)
    generalize upd H0 s1 (.tup vs) = H1 at e1 h0 h1 ⊢
    have wk := walk_zm (t := true) (u := true) (K := K) (a := qa) (b := s1) (xs := (tabK.getD d.i []).map V.str) (ys := vs) (n := vs.length) (by rw [List.length_map, lk]; omega)
    refine ⟨true, true, qa, s1, _, _, rfl, hq H1, Sv.tup h1, fun D hD => ?_⟩
    refine lc_pureVZ (us := d.ps.map fun p => V.str (wordS p)) wk (fun H' ex => ⟨hq H', Sv.tup (ex _ _ h1)⟩) (by rw [List.length_map, pr_len PP]) (by omega) hD (fun _ _ => rfl) ?_ ?_
    · intro i x y v H' Q' hx hy hv ex k
      obtain ⟨p, hp, pa⟩ := pr_at PP hy
      have hx' : x = V.str p.kd := by
        rw [← g.kd, List.map_map, List.getElem?_map, hp] at hx
        exact (Option.some.inj hx).symm
      have hv' : v = V.str (wordS p) := by
        rw [List.getElem?_map, hp] at hv
        exact (Option.some.inj hv).symm
      subst hx' hv'
      exact ⟨_, rfl, _, rfl, y, p, rfl, pa.ex (e1.trans ex), g.gd p (List.mem_of_getElem? hp), k⟩
    · intro H' ex h3
      refine cat_l (ex _ _ h0) h3 (by rw [List.length_map, ← pr_len PP]; show 1 + _ ≤ 1000; omega) fun s2 H2 n2 e2 h2 => ?_
      have bl := join_le " " (d.w :: d.ps.map wordS) (m := 4000) (List.forall_mem_cons.mpr ⟨w_len d.i g.i9, fun t ht => by
        obtain ⟨p, hp, rfl⟩ := List.mem_map.mp ht
        exact word_len (g.gd p hp)⟩)
      rw [List.length_cons, List.length_map, ← pr_len PP] at bl
      refine ⟨" ", s2, d.w :: d.ps.map wordS, rfl, rfl, .inl (SqL.of (by rw [h2]; simp)), ?_, q _ ((e1.trans ex).trans e2)⟩
      show ((d.w :: d.ps.map wordS).map (·.length)).sum + (d.w :: d.ps.map wordS).length * 1 ≤ _
      rw [List.length_cons (a := d.w), List.length_map, ← pr_len PP]
      omega
end
end K19
/-! lines of steps -/
namespace K19
open PySem PySem.Spec PyProof.Rows L2 VB BM
section
variable {P : Program} {w : World} {K : PySem.W.Frag} {mg : Str → Option Value} {base : Heap} {f : Addr} {fd : FuncData}
theorem lineD_len {d : Dd} (g : d.Good) : (lineD d).length ≤ 20000 := by
  have bl := join_le " " (d.w :: d.ps.map wordS) (m := 4000) (List.forall_mem_cons.mpr ⟨w_len d.i g.i9, fun t ht => by
    obtain ⟨p, hp, rfl⟩ := List.mem_map.mp ht
    exact word_len (g.gd p hp)⟩)
  have e : (Txt.join " " (d.w :: d.ps.map wordS)).length = ((d.w :: d.ps.map wordS).map (·.length)).sum + ((d.w :: d.ps.map wordS).length - 1) * 1 := size_glued " " _
  have lk : d.ps.length ≤ 3 := by
    have := (tabK_len d.i g.i9).2
    rw [← g.kd, List.length_map] at this
    exact this
  rw [List.length_cons, List.length_map] at bl e
  show (Txt.join " " (d.w :: d.ps.map wordS)).length ≤ 20000
  omega
def spLine (K : PySem.W.Frag) : Sp := fun vs H Q _ => ∃ (v : V) (s : Stp), vs = [v] ∧ StpAt H v s ∧ s.Good ∧ RV (.str (lineS s)) H Q
theorem ok_line (T : Txt K mg) (TB : Tb K w) (F : FnP K "_line" s__line f fd) (C__line : Cal P w K mg base CX0 3 "_line" ["step"] (spLine1 K)) (C__word : Cal P w K mg base CX0 2 "_word" ["part", "item"] (spWord K)) :
    Fg P w K mg base CX0 4 f fd ["step"] (spLine K) := by
  refine fg_of F sc__line (fun vs H Q E h => ?_) (fun cdv A outer s H vs Q E hr h => ⟨_, (PSs.nox (pss_cons (ps_if (pt_cmpR (u_eq (K := K) hr) (pe_ix (u_ix (K := K)) (pv 0) pe_int (fun _ _ => rfl)) (pe_globS rfl T.g_SYNC) (nomark _))
  (pss_one (ps_ret (pe_globS rfl T.g_SYNC))) pss_nil)
  (pss_cons (ps_if (pt_cmpR (u_eq (K := K) hr) (pe_ix (u_ix (K := K)) (pv 0) pe_int (fun _ _ => rfl)) pe_str (nomark _))
  (pss_one (ps_ret (pe_op L2.op_add_str (pe_globS rfl T.g_TOGETHER) (pe_bm PySem.F.plainAttrs_str PySem.F.slot_str_join PySem.F.type_str_join mt_join pe_str (pa_cons (pe_lc (own := [("deed", 2)]) rfl sc__line.nd (pi_seq (K := K) (pe_ix (u_ix (K := K)) (pv 0) pe_int (fun _ _ => rfl))) (blkOk_by (own := [("deed", 2)]) (N := ["step", "parts", "deed", "part", "item"]) (sc := defScope s__line) (by decide +kernel)) (fun _ _ _ _ _ => (pg_name (i := 2) sc__line.nd rfl (by first | exact Or.inl rfl | exact Or.inr rfl))) (fun _ _ _ _ _ => pts_nil) (fun _ _ _ _ _ => (pe_cal C__line hr.le pass0 (pa_cons (pv 2) pa_nil)))) pa_nil))))) pss_nil)
  (pss_cons (ps_set (i := 1) sc__line.nd rfl (by first | exact Or.inl rfl | exact Or.inr rfl) (pe_ix ix_kdict (pe_glob (v := .ref (He.ga K "DEED_PARTS")) rfl T.g_DEED_PARTS rfl) (pe_ix (u_ix (K := K)) (pv 0) pe_int (fun _ _ => rfl)) (fun _ _ => rfl)))
  (pss_one (ps_ret (pe_bm PySem.F.plainAttrs_str PySem.F.slot_str_join PySem.F.type_str_join mt_join pe_str (pa_cons (pe_op (u_add (K := K)) (pe_lst (pa_cons (pe_ix (u_ix (K := K)) (pv 0) pe_int (fun _ _ => rfl)) pa_nil)) (pe_lc (own := [("part", 3), ("item", 4)]) rfl sc__line.nd (pi_zm (K := K) rfl T.f_zip (pa_cons (pv 1) (pa_cons (pe_slice (u_sl (K := K)) (pv 0) (po_some pe_int) po_none) pa_nil))) (blkOk_by (own := [("part", 3), ("item", 4)]) (N := ["step", "parts", "deed", "part", "item"]) (sc := defScope s__line) (by decide +kernel)) (fun _ _ _ _ _ => (pg_tupU (K := K) (n := 2) rfl (pgs_cons (pg_name (i := 3) sc__line.nd rfl (by first | exact Or.inl rfl | exact Or.inr rfl)) (pgs_cons (pg_name (i := 4) sc__line.nd rfl (by first | exact Or.inl rfl | exact Or.inr rfl)) pgs_nil)))) (fun _ _ _ _ _ => pts_nil) (fun _ _ _ _ _ => (pe_cal C__word hr.le pass0 (pa_cons (pv 3) (pa_cons (pv 4) pa_nil)))))) pa_nil)))))))), ?_⟩)
  · obtain ⟨v, s, rfl, _⟩ := h
    rfl
  · obtain ⟨v, s, rfl, at_, g, q⟩ := h
    have rf := Evl.Ex.refl H
    cases s with
    | one d =>
      obtain ⟨a, vs, rfl, ha, PP⟩ := at_
      obtain ⟨qa, _, kd, hq⟩ := TB.at_ d.i g.i9
      have lk : (tabK.getD d.i []).length = vs.length := by rw [← g.kd, List.length_map, pr_len PP]
      obtain ⟨t1, t3⟩ := tabK_len d.i g.i9
      have wa := w_all d.i g.i9
      refine ⟨_, rfl, Sv.ix (x := V.str d.w) (Sv.tup ha) (atI_nat (j := 0) rfl) (.inl ⟨rfl, _, rfl, ?_⟩)⟩
      rw [decide_eq_false (show ¬ (V.str d.w = V.str "sync") from fun z => wa.2 (V.str.inj z))]
      refine iteF ⟨_, rfl, Sv.ix (x := V.str d.w) (Sv.tup ha) (atI_nat (j := 0) rfl) (.inl ⟨rfl, _, rfl, ?_⟩)⟩
      rw [decide_eq_false (show ¬ (V.str d.w = V.str "all") from fun z => wa.1 (V.str.inj z))]
      refine iteF ⟨_, rfl, Sv.ix (x := V.str d.w) (Sv.tup ha) (atI_nat (j := 0) rfl) ⟨_, _, _, rfl, rfl, kd, ?_⟩⟩
      refine ⟨rfl, _, rfl, Sv.ix (x := V.str d.w) (Sv.tup ha) (atI_nat (j := 0) rfl) ⟨by show 1 ≤ sizeLine; decide, fun s0 n0 => ?_⟩⟩
      have e0 := Evl.Ex.new (o := .lst [V.str d.w]) n0
      have h0 := upd_same (H := H) (a := s0) (o := .lst [V.str d.w])
      generalize upd H s0 (.lst [V.str d.w]) = H0 at e0 h0 ⊢
      refine ⟨_, rfl, _, rfl, 1, rfl, .inr (.inl ⟨a, _, rfl, SqT.of (e0 _ _ ha), fun z => sx_ne (i := 1) (by decide) (by rw [List.length_cons]; omega) z.1, fun s1 n1 => ?_⟩)⟩
      rw [cut1]
      have e1 := e0.trans (Evl.Ex.new (o := .tup vs) n1)
      have h0 := (Evl.Ex.new (o := .tup vs) n1) _ _ h0
      have h1 := upd_same (H := H0) (a := s1) (o := .tup vs)
      generalize upd H0 s1 (.tup vs) = H1 at e1 h0 h1 ⊢
      have wk := walk_zm (t := true) (u := true) (K := K) (a := qa) (b := s1) (xs := (tabK.getD d.i []).map V.str) (ys := vs) (n := vs.length) (by rw [List.length_map, lk]; omega)
      refine ⟨true, true, qa, s1, _, _, rfl, hq H1, Sv.tup h1, fun D hD => ?_⟩
      refine lc_pureVZ (us := d.ps.map fun p => V.str (wordS p)) wk (fun H' ex => ⟨hq H', Sv.tup (ex _ _ h1)⟩) (by rw [List.length_map, pr_len PP]) (by omega) hD (fun _ _ => rfl) ?_ ?_
      · intro i x y v H' Q' hx hy hv ex k
        obtain ⟨p, hp, pa⟩ := pr_at PP hy
        have hx' : x = V.str p.kd := by
          rw [← g.kd, List.map_map, List.getElem?_map, hp] at hx
          exact (Option.some.inj hx).symm
        have hv' : v = V.str (wordS p) := by
          rw [List.getElem?_map, hp] at hv
          exact (Option.some.inj hv).symm
        subst hx' hv'
        exact ⟨_, rfl, _, rfl, y, p, rfl, pa.ex (e1.trans ex), g.gd p (List.mem_of_getElem? hp), k⟩
      · intro H' ex h3
        refine cat_l (ex _ _ h0) h3 (by rw [List.length_map, ← pr_len PP]; show 1 + _ ≤ 1000; omega) fun s2 H2 n2 e2 h2 => ?_
        have bl := join_le " " (d.w :: d.ps.map wordS) (m := 4000) (List.forall_mem_cons.mpr ⟨w_len d.i g.i9, fun t ht => by
          obtain ⟨p, hp, rfl⟩ := List.mem_map.mp ht
          exact word_len (g.gd p hp)⟩)
        rw [List.length_cons, List.length_map, ← pr_len PP] at bl
        refine ⟨" ", s2, d.w :: d.ps.map wordS, rfl, rfl, .inl (SqL.of (by rw [h2]; simp)), ?_, q _ ((e1.trans ex).trans e2)⟩
        show ((d.w :: d.ps.map wordS).map (·.length)).sum + (d.w :: d.ps.map wordS).length * 1 ≤ _
        rw [List.length_cons (a := d.w), List.length_map, ← pr_len PP]
        omega
    | sync =>
      obtain ⟨a, rfl, ha⟩ := at_
      refine ⟨_, rfl, Sv.ix (x := V.str "sync") (Sv.tup ha) (atI_nat (j := 0) rfl) (.inl ⟨rfl, _, rfl, ?_⟩)⟩
      rw [decide_eq_true rfl]
      exact iteT (q _ rf)
    | all ds =>
      obtain ⟨a, b, vs, rfl, ha, hb, PP⟩ := at_
      refine ⟨_, rfl, Sv.ix (x := V.str "all") (Sv.tup ha) (atI_nat (j := 0) rfl) (.inl ⟨rfl, _, rfl, ?_⟩)⟩
      rw [decide_eq_false (show ¬ (V.str "all" = V.str "sync") from fun z => absurd (V.str.inj z) (by decide))]
      refine iteF ⟨_, rfl, Sv.ix (x := V.str "all") (Sv.tup ha) (atI_nat (j := 0) rfl) (.inl ⟨rfl, _, rfl, ?_⟩)⟩
      rw [decide_eq_true rfl]
      refine iteT ⟨rfl, .inr ⟨_, rfl, Sv.ix (x := V.ref b) (Sv.tup ha) (atI_nat (j := 1) rfl) ⟨b, rfl, ⟨_, SqT.of hb⟩, fun D hD => ?_⟩⟩⟩
      have ln := pr_len PP
      have l4 := g.2.1
      refine lc_pureVS (us := ds.map fun d => V.str (lineD d)) (walk_tup (K := K) (xs := vs)) (fun H' ex => SqT.of (ex _ _ hb)) (by rw [List.length_map, ln]) (by omega) hD (fun _ => rfl) ?_ ?_
      · intro i x u H' Q' hx hu ex k
        obtain ⟨d, hd, da⟩ := pr_at PP hx
        have hu' : u = V.str (lineD d) := by
          rw [List.getElem?_map, hd] at hu
          exact (Option.some.inj hu).symm
        subst hu'
        exact ⟨_, rfl, x, d, rfl, da.ex ex, (g.2.2 d (List.mem_of_getElem? hd)).1, k⟩
      · intro H' ex h3
        have bl := join_le "; " (ds.map lineD) (m := 20000) fun t ht => by
          obtain ⟨d, hd, rfl⟩ := List.mem_map.mp ht
          exact lineD_len (g.2.2 d hd).1
        rw [List.length_map] at bl
        have e : (Txt.join "; " (ds.map lineD)).length = ((ds.map lineD).map (·.length)).sum + ((ds.map lineD).length - 1) * 2 := size_glued "; " _
        rw [List.length_map (as := ds)] at e
        refine ⟨"; ", D, ds.map lineD, rfl, rfl, .inl (SqL.of (by rw [h3, List.map_map]; rfl)), ?_, _, _, rfl, rfl, ?_, q _ ex⟩
        · show ((ds.map lineD).map (·.length)).sum + (ds.map lineD).length * 2 ≤ _
          rw [List.length_map (as := ds)]
          omega
        · show 5 + (Txt.join "; " (ds.map lineD)).length ≤ _
          rw [sizeLine_eq]
          omega
end
end K19
/-! lines read back: texts alone -/
namespace K19
open PySem PySem.Spec PyProof.Rows L2 VB BM
open TL
theorem txI_tl {i : Int} (h : 0 ≤ i) : tl (txI i) = numL i.toNat := by
  obtain ⟨m, rfl⟩ : ∃ m : Nat, i = m := ⟨i.toNat, by omega⟩
  exact tl_num m
theorem tx_free {i : Int} (h : 0 ≤ i) {s : Nat} (hs : s < 48 ∨ 57 < s) : s ∉ tl (txI i) := by
  rw [txI_tl h]
  exact numL_free hs
theorem nm_free {x : Str} (h : Nm x) {s : Nat} (hs : s < 97 ∨ 122 < s) : s ∉ tl x := fun m => by
  have := h.2.2 s m
  omega
theorem joinL_free {S : List Nat} {s : Nat} (hS : s ∉ S) : ∀ {ps : List (List Nat)}, (∀ p ∈ ps, s ∉ p) → s ∉ joinL S ps
  | [], _ => fun z => nomatch z
  | [p], h => h p (List.mem_singleton.mpr rfl)
  | p :: q :: r, h => fun z => by
    have z : s ∈ p ++ (S ++ joinL S (q :: r)) := z
    rcases List.mem_append.mp z with z | z
    · exact h p (List.mem_cons_self ..) z
    · rcases List.mem_append.mp z with z | z
      · exact hS z
      · exact joinL_free hS (fun p hp => h p (List.mem_cons_of_mem _ hp)) z
theorem join_free {y : Str} {s : Nat} {ts : List Str} (hy : s ∉ tl y) (h : ∀ t ∈ ts, s ∉ tl t) : s ∉ tl (Txt.join y ts) := by
  rw [join_eq, tl_join]
  refine joinL_free hy fun p hp => ?_
  obtain ⟨t, ht, rfl⟩ := List.mem_map.mp hp
  exact h t ht
theorem emp_app (x : Str) : Str.empty ++ x = x := ext_tl (by rw [tl_append]; rfl)
theorem runw_free {r : Int × Int} (h1 : 0 ≤ r.1) (h2 : 0 ≤ r.2) {s : Nat} (hs : s < 48 ∨ 57 < s) (h42 : s ≠ 42) : s ∉ tl (runW r) := by
  unfold runW
  split
  · exact tx_free h1 hs
  · rw [emp_app, tl_append, tl_append]
    intro z
    rcases List.mem_append.mp z with z | z
    · rcases List.mem_append.mp z with z | z
      · exact tx_free h1 hs z
      · have e : tl ("*" : Str) = [42] := by decide +kernel
        rw [e] at z
        exact h42 (List.mem_singleton.mp z)
    · exact tx_free h2 hs z
theorem run_good {os : List Int} (h : Oct os) {r : Int × Int} (hr : r ∈ runsL os) : 0 ≤ r.1 ∧ r.1 ≤ 255 ∧ 1 ≤ r.2 ∧ r.2 ≤ (os.length : Int) := by
  have a := (run_bd os).2 r hr
  have b := fold_fst (p := fun o => 0 ≤ o ∧ o ≤ 255) (os := os) (acc := []) h (fun _ z => nomatch z) r hr
  exact ⟨b.1, b.2, a⟩
theorem sep_tl : tl (" " : Str) = [32] ∧ tl ("; " : Str) = [59, 32] ∧ tl ("/" : Str) = [47] ∧ tl ("," : Str) = [44] ∧ tl ("*" : Str) = [42] ∧ tl ("all: " : Str) = [97, 108, 108, 58, 32] ∧ tl ("sync" : Str) = [115, 121, 110, 99] := by decide +kernel
theorem word_free {p : Pt} (g : p.Good) {s : Nat} (hs : s = 32 ∨ s = 59) : s ∉ tl (wordS p) := by
  obtain ⟨e1, e2, e3, e4, _⟩ := sep_tl
  cases p with
  | path p =>
    show s ∉ tl ("/" ++ Txt.join "/" p)
    rw [tl_append, e3]
    intro z
    rcases List.mem_append.mp z with z | z
    · have := List.mem_singleton.mp z
      omega
    · exact join_free (by rw [e3]; simp; omega) (fun t ht => nm_free (g.1 t ht) (by omega)) z
  | size n => exact tx_free g.1 (by omega)
  | name x => exact nm_free g (by omega)
  | octs os =>
    refine join_free (by rw [e4]; simp; omega) fun t ht => ?_
    obtain ⟨r, hr, rfl⟩ := List.mem_map.mp ht
    have := run_good g.1 hr
    exact runw_free this.1 (by omega) (by omega) (by omega)
theorem w_free : ∀ i, i < 9 → 32 ∉ tl (tabW.getD i "") ∧ 59 ∉ tl (tabW.getD i "") := by decide +kernel
theorem w_head : ∀ i, i < 9 → (tl (tabW.getD i "")).head? ≠ none ∧ (tl (tabW.getD i "")).head? ≠ some 97 ∧ (tl (tabW.getD i "")).head? ≠ some 115 := by decide +kernel
theorem lineD_split {d : Dd} (g : d.Good) : Txt.split (lineD d) " " = d.w :: d.ps.map wordS :=
  split_join (s := 32) (S := []) sep_tl.1 (by decide +kernel) (by simp) (List.forall_mem_cons.mpr ⟨(w_free d.i g.i9).1, fun t ht => by
    obtain ⟨p, hp, rfl⟩ := List.mem_map.mp ht
    exact word_free (g.gd p hp) (.inl rfl)⟩)
theorem lineD_free {d : Dd} (g : d.Good) : 59 ∉ tl (lineD d) := by
  refine join_free (by rw [sep_tl.1]; decide) (List.forall_mem_cons.mpr ⟨(w_free d.i g.i9).2, fun t ht => ?_⟩)
  obtain ⟨p, hp, rfl⟩ := List.mem_map.mp ht
  exact word_free (g.gd p hp) (.inr rfl)
theorem all_split {ds : List Dd} (g : ∀ d ∈ ds, d.Good) (h : ds ≠ []) : Txt.split (Txt.join "; " (ds.map lineD)) "; " = ds.map lineD :=
  split_join (s := 59) (S := [32]) sep_tl.2.1 (by decide +kernel) (by simp [h]) fun t ht => by
    obtain ⟨d, hd, rfl⟩ := List.mem_map.mp ht
    exact lineD_free (g d hd)
theorem lineD_head {d : Dd} (g : d.Good) : ∃ c r, tl (lineD d) = c :: r ∧ c ≠ 97 ∧ c ≠ 115 := by
  obtain ⟨h1, h2, h3⟩ := w_head d.i g.i9
  have e : tl (lineD d) = joinL [32] (tl d.w :: (d.ps.map wordS).map tl) := by
    show tl (Txt.join " " (d.w :: d.ps.map wordS)) = _
    rw [join_eq, tl_join, sep_tl.1]
    rfl
  cases hw : tl d.w with
  | nil =>
    have hw' : tl (tabW.getD d.i "") = [] := hw
    rw [hw'] at h1
    exact absurd rfl h1
  | cons c r =>
    have hw' : tl (tabW.getD d.i "") = c :: r := hw
    rw [hw'] at h2 h3
    have hc : c ≠ 97 ∧ c ≠ 115 := ⟨fun z => h2 (by rw [z]; rfl), fun z => h3 (by rw [z]; rfl)⟩
    rw [hw] at e
    cases hp : (d.ps.map wordS).map tl with
    | nil =>
      rw [hp] at e
      exact ⟨c, r, e, hc⟩
    | cons q qs =>
      rw [hp] at e
      exact ⟨c, _, e, hc⟩
theorem starts_iff (x y : Str) : Txt.startswith x y = ((decide (0 + y.length ≤ x.length)) && ((tl x).take y.length == tl y)) := by
  unfold Txt.startswith
  rw [PySem.StrLaws.subAt_eq, List.drop_zero]
theorem starts_no {d : Dd} (g : d.Good) : Txt.startswith (lineD d) "all: " = false := by
  obtain ⟨c, r, e, h, _⟩ := lineD_head g
  rw [starts_iff, e, sep_tl.2.2.2.2.2.1]
  have : ((c :: r).take ("all: " : Str).length == [97, 108, 108, 58, 32]) = false := by
    have l : ("all: " : Str).length = 5 := by decide +kernel
    rw [l, List.take_succ_cons]
    exact beq_eq_false_iff_ne.mpr fun z => h (List.cons.inj z).1
  rw [this, Bool.and_false]
theorem starts_yes (x : Str) : Txt.startswith ("all: " ++ x) "all: " = true := by
  have l : ("all: " : Str).length = 5 := by decide +kernel
  rw [starts_iff, tl_append, PySem.strLen_append, l, sep_tl.2.2.2.2.2.1]
  rw [decide_eq_true (by omega)]
  simp
theorem not_sync {d : Dd} (g : d.Good) : lineD d ≠ "sync" := fun z => by
  obtain ⟨c, r, e, _, h⟩ := lineD_head g
  rw [z, sep_tl.2.2.2.2.2.2] at e
  exact h (List.cons.inj e).1.symm
theorem all_not_sync (x : Str) : ("all: " ++ x : Str) ≠ "sync" := fun z => by
  have e := congrArg tl z
  rw [tl_append, sep_tl.2.2.2.2.2.1, sep_tl.2.2.2.2.2.2] at e
  exact absurd (List.cons.inj e).1 (by decide)
theorem cut_pre (a x : Str) {k : Nat} (hk : k = a.length) : cutS (a ++ x) (some (k : Int)) none = x := by
  subst hk
  have e : HT.sIx (a ++ x).length 0 (some (a.length : Int)) = a.length := by
    rw [HT.sIx_nat, PySem.strLen_append]
    exact Nat.min_eq_left (by omega)
  refine ext_tl ?_
  show ((tl (a ++ x)).drop (HT.sIx (a ++ x).length 0 (some (a.length : Int)))).take (HT.sIx (a ++ x).length (a ++ x).length none - HT.sIx (a ++ x).length 0 (some (a.length : Int))) = _
  rw [e, tl_append, len_tl a, List.drop_left]
  refine List.take_of_length_le ?_
  show (tl x).length ≤ (a ++ x).length - _
  rw [PySem.strLen_append, len_tl a, len_tl x]
  omega
/-! runs -/
def expand (rs : List (Int × Int)) : List Int := rs.flatMap fun r => List.replicate r.2.toNat r.1
theorem expand_app (a b : List (Int × Int)) : expand (a ++ b) = expand a ++ expand b := List.flatMap_append
theorem step_exp {acc : List (Int × Int)} (h : ∀ r ∈ acc, 1 ≤ r.2) (o : Int) : expand (runStep acc o) = expand acc ++ [o] ∧ ∀ r ∈ runStep acc o, 1 ≤ r.2 := by
  rcases snoc_or acc with rfl | ⟨init, r, rfl⟩
  · refine ⟨rfl, fun r hr => ?_⟩
    rw [List.mem_singleton.mp hr]
    show (1 : Int) ≤ 1
    decide
  · have hr := h r (List.mem_append_right _ (List.mem_singleton_self _))
    rw [runStep_last]
    split
    · rename_i e
      refine ⟨?_, fun z hz => ?_⟩
      · rw [expand_app, expand_app, List.append_assoc]
        congr 1
        show List.replicate (r.2 + 1).toNat o ++ [] = (List.replicate r.2.toNat r.1 ++ []) ++ [o]
        rw [List.append_nil, List.append_nil, e, show (r.2 + 1).toNat = r.2.toNat + 1 by omega, List.replicate_succ']
      · rcases List.mem_append.mp hz with hz | hz
        · exact h z (List.mem_append_left _ hz)
        · rw [List.mem_singleton.mp hz]
          show 1 ≤ r.2 + 1
          omega
    · refine ⟨by rw [expand_app]; rfl, fun z hz => ?_⟩
      rcases List.mem_append.mp hz with hz | hz
      · exact h z hz
      · rw [List.mem_singleton.mp hz]
        show (1 : Int) ≤ 1
        decide
theorem fold_exp : ∀ {os : List Int} {acc : List (Int × Int)}, (∀ r ∈ acc, 1 ≤ r.2) → expand (os.foldl runStep acc) = expand acc ++ os
  | [], acc, _ => by rw [List.append_nil]; rfl
  | o :: os, acc, h => by
    obtain ⟨e, h2⟩ := step_exp h o
    rw [List.foldl_cons, fold_exp h2, e, List.append_assoc]
    rfl
theorem exp_runs (os : List Int) : expand (runsL os) = os := fold_exp (os := os) (acc := []) fun _ z => nomatch z
theorem oct_split {os : List Int} (h : Oct os) (h1 : 1 ≤ os.length) : Txt.split (octW os) "," = (runsL os).map runW := by
  refine split_join (s := 44) (S := []) sep_tl.2.2.2.1 (by decide +kernel) ?_ fun t ht => ?_
  · intro z
    have z : runsL os = [] := List.map_eq_nil_iff.mp z
    have e := exp_runs os
    rw [z] at e
    rw [← e] at h1
    exact absurd h1 (by decide)
  · obtain ⟨r, hr, rfl⟩ := List.mem_map.mp ht
    have := run_good h hr
    exact runw_free this.1 (by omega) (by omega) (by omega)
theorem part_one {o : Int} (h : 0 ≤ o) : Txt.partition (txI o) "*" = (txI o, Str.empty, Str.empty) := partition_none (s := 42) (S := []) sep_tl.2.2.2.2.1 (tx_free h (by omega))
theorem part_two {o c : Int} (h : 0 ≤ o) : Txt.partition (((Str.empty ++ txI o) ++ "*") ++ txI c) "*" = (txI o, ("*" : Str), txI c) := by
  rw [emp_app]
  exact partition_app (s := 42) (S := []) sep_tl.2.2.2.2.1 (tx_free h (by omega))
/-! numbers -/
theorem numL_head : ∀ n : Nat, 1 ≤ n → ∃ c r, numL n = c :: r ∧ c ≠ 48 := by
  intro n
  induction n using Nat.strongRecOn with
  | _ n ih =>
    intro h
    by_cases h10 : n < 10
    · rw [numL_lt h10]
      exact ⟨_, _, rfl, by omega⟩
    · obtain ⟨c, r, e, hc⟩ := ih (n / 10) (by omega) (by omega)
      rw [numL_step (by omega), e]
      exact ⟨c, _, rfl, hc⟩
theorem tx_len3 {i : Int} (h0 : 0 ≤ i) (h1 : i ≤ 255) : 1 ≤ (txI i : Str).length ∧ (txI i : Str).length ≤ 3 := by
  rw [len_tl, txI_tl h0]
  refine ⟨?_, numL_len (by decide) (by omega)⟩
  exact List.length_pos_iff.mpr (numL_ne _)
theorem tx_digits {i : Int} (h0 : 0 ≤ i) : ∀ c ∈ tl (txI i), 48 ≤ c ∧ c ≤ 57 := by
  rw [txI_tl h0]
  intro c hc
  have := numL_digits _ c hc
  omega
theorem tx_int {i : Int} (h0 : 0 ≤ i) (h1 : i ≤ 255) : intText? (txI i) = some i := by
  obtain ⟨m, rfl⟩ : ∃ m : Nat, i = m := ⟨i.toNat, by omega⟩
  exact int_num (Nat.le_trans (numL_len (k := 3) (by decide) (by omega)) (by decide))
theorem tx_zero {i : Int} (h0 : 0 ≤ i) : ∃ c r, tl (txI i) = c :: r ∧ (c = 48 → r = []) := by
  rw [txI_tl h0]
  by_cases h : i = 0
  · subst h
    exact ⟨48, [], numL_lt (n := 0) (by decide), fun _ => rfl⟩
  · obtain ⟨c, r, e, hc⟩ := numL_head i.toNat (by omega)
    exact ⟨c, r, e, fun z => absurd z hc⟩
theorem path_slash {p : List Str} (g : ∀ x ∈ p, Nm x) : (("/" ++ Txt.join "/" p : Str) = "/" ↔ p = []) := by
  constructor
  · intro z
    cases p with
    | nil => rfl
    | cons x xs =>
      exfalso
      have e := congrArg tl z
      rw [tl_append, sep_tl.2.2.1, join_eq, tl_join, sep_tl.2.2.1] at e
      have e : joinL [47] (tl x :: xs.map tl) = [] := (List.cons.inj e).2
      have hx := (g x (List.mem_cons_self ..)).1
      have hx : 1 ≤ (tl x).length := by rw [← len_tl]; exact hx
      cases xs with
      | nil =>
        have e : tl x = [] := e
        rw [e] at hx
        exact absurd hx (by decide)
      | cons y ys =>
        have e : tl x ++ ([47] ++ joinL [47] ((y :: ys).map tl)) = [] := e
        have := congrArg List.length e
        simp at this
  · rintro rfl
    decide +kernel
theorem path_split {p : List Str} (g : ∀ x ∈ p, Nm x) (h : p ≠ []) : Txt.split (Txt.join "/" p) "/" = p :=
  split_join (s := 47) (S := []) sep_tl.2.2.1 (by decide +kernel) h fun t ht => nm_free (g t ht) (by omega)
end K19
/-! line_of -/
namespace K19
open PySem PySem.Spec PyProof.Rows L2 VB BM
section
variable {P : Program} {w : World} {K : PySem.W.Frag} {mg : Str → Option Value} {base : Heap} {f : Addr} {fd : FuncData}
theorem ok_line_of (T : Txt K mg) (F : FnP K "line_of" s_line_of f fd) (C__is_step : Cal P w K mg base CX0 7 "_is_step" ["value"] (spStep K)) (C__line : Cal P w K mg base CX0 4 "_line" ["step"] (spLine K)) :
    Fg P w K mg base CX0 8 f fd ["step"] (spLine K) := by
  refine fg_of F sc_line_of (fun vs H Q E h => ?_) (fun cdv A outer s H vs Q E hr h => ⟨_, (PSs.nox (pss_cons (ps_if (pt_not (pt_tru (K := K) (pe_cal C__is_step hr.le pass0 (pa_cons (pv 0) pa_nil)) (by intro _; rfl)))
  (pss_one ps_never) pss_nil)
  (pss_one (ps_ret (pe_cal C__line hr.le pass0 (pa_cons (pv 0) pa_nil)))))), ?_⟩)
  · obtain ⟨v, s, rfl, _⟩ := h
    rfl
  · obtain ⟨v, s, rfl, at_, g, q⟩ := h
    exact ⟨_, rfl, v, s, rfl, at_, g, fun H1 e1 => ⟨_, rfl, iteF ⟨_, rfl, v, s, rfl, at_.ex e1, g, fun H2 e2 => q H2 (e1.trans e2)⟩⟩⟩
end
/-! steps with their octets in tuples -/
def PtT (H : Hp) (v : V) : Pt → Prop
  | .octs os => ∃ a : Addr, v = .ref a ∧ H a = some (.tup (IV os))
  | .path p => ∃ a : Addr, v = .ref a ∧ H a = some (.tup (p.map V.str))
  | .size n => v = .int n
  | .name x => v = .str x
theorem PtT.at {H : Hp} {v : V} {p : Pt} (h : PtT H v p) : PtAt H v p := by
  cases p with
  | path p => exact h
  | size n => exact h
  | octs os => obtain ⟨a, h1, h2⟩ := h; exact ⟨a, h1, .inl h2⟩
  | name x => exact h
theorem PtT.ex {H H' : Hp} {v : V} {p : Pt} (h : PtT H v p) (e : Evl.Ex H H') : PtT H' v p := by
  cases p with
  | path p => obtain ⟨a, h1, h2⟩ := h; exact ⟨a, h1, e _ _ h2⟩
  | size n => exact h
  | octs os => obtain ⟨a, h1, h2⟩ := h; exact ⟨a, h1, e _ _ h2⟩
  | name x => exact h
def DdT (H : Hp) (v : V) (d : Dd) : Prop := ∃ (a : Addr) (vs : List V), v = .ref a ∧ H a = some (.tup (.str d.w :: vs)) ∧ Paired (PtT H) vs d.ps
theorem DdT.at {H : Hp} {v : V} {d : Dd} (h : DdT H v d) : DdAt H v d := by
  obtain ⟨a, vs, h1, h2, h3⟩ := h
  exact ⟨a, vs, h1, h2, pr_mono (fun _ _ z => z.at) h3⟩
theorem DdT.ex {H H' : Hp} {v : V} {d : Dd} (h : DdT H v d) (e : Evl.Ex H H') : DdT H' v d := by
  obtain ⟨a, vs, h1, h2, h3⟩ := h
  exact ⟨a, vs, h1, e _ _ h2, pr_mono (fun _ _ z => z.ex e) h3⟩
def StpT (H : Hp) (v : V) : Stp → Prop
  | .one d => DdT H v d
  | .all ds => ∃ (a b : Addr) (vs : List V), v = .ref a ∧ H a = some (.tup [.str "all", .ref b]) ∧ H b = some (.tup vs) ∧ Paired (DdT H) vs ds
  | .sync => ∃ a : Addr, v = .ref a ∧ H a = some (.tup [.str "sync"])
theorem StpT.at {H : Hp} {v : V} {s : Stp} (h : StpT H v s) : StpAt H v s := by
  cases s with
  | one d => exact DdT.at h
  | all ds =>
    obtain ⟨a, b, vs, h1, h2, h3, h4⟩ := h
    exact ⟨a, b, vs, h1, h2, h3, pr_mono (fun _ _ z => z.at) h4⟩
  | sync => exact h
theorem StpT.ex {H H' : Hp} {v : V} {s : Stp} (h : StpT H v s) (e : Evl.Ex H H') : StpT H' v s := by
  cases s with
  | one d => exact DdT.ex h e
  | all ds =>
    obtain ⟨a, b, vs, h1, h2, h3, h4⟩ := h
    exact ⟨a, b, vs, h1, e _ _ h2, e _ _ h3, pr_mono (fun _ _ z => z.ex e) h4⟩
  | sync =>
    obtain ⟨a, h1, h2⟩ := h
    exact ⟨a, h1, e _ _ h2⟩
end K19
/-! words read back -/
namespace K19
open PySem PySem.Spec PyProof.Rows L2 VB BM
open TL
section
variable {P : Program} {w : World} {K : PySem.W.Frag} {mg : Str → Option Value} {base : Heap} {f : Addr} {fd : FuncData}
def spNiw : Sp := fun vs H Q _ => ∃ n : Int, vs = [.str (txI n), .int 3] ∧ 0 ≤ n ∧ n ≤ 255 ∧ RV (.int n) H Q
theorem ok_niw (T : Txt K mg) (F : FnP K "number_in_word" s_number_in_word f fd) : Fg P w K mg base CX0 1 f fd ["word", "most_digits"] spNiw := by
  refine fg_of F sc_number_in_word (fun vs H Q E h => ?_) (fun cdv A outer s H vs Q E hr h => ⟨_, (PSs.nox (pss_cons (ps_if (PW.pt (pw_or (pt_not (pt_chain op_le op_le pe_int (pe_callB (u_len (K := K)) (by rfl) T.f_len (by decide +kernel) (pa_cons (pv 0) pa_nil)) (pv 1))) (pw_or1 (pt_not (pt_tru (K := K) (pe_callB (u_all (K := K) rfl) (by rfl) T.f_all (by decide +kernel) (pa_cons (pe_lc (own := [("sign", 2)]) rfl sc_number_in_word.nd (pi_str (pv 0)) (blkOk_by (own := [("sign", 2)]) (N := ["word", "most_digits", "sign"]) (sc := defScope s_number_in_word) (by decide +kernel)) (fun _ _ _ _ _ => (pg_name (i := 2) sc_number_in_word.nd rfl (by first | exact Or.inl rfl | exact Or.inr rfl))) (fun _ _ _ _ _ => pts_nil) (fun _ _ _ _ _ => (pe_cmpR L2.op_inS (pv 2) (pe_globS rfl T.g_DIGITS) (by rfl)))) pa_nil)) (by intro _; rfl))))))
  (pss_one (ps_ret pe_non)) pss_nil)
  (pss_cons (ps_if (PW.pt (pw_and (pt_cmpR (u_eq (K := K) hr) (pe_ix (u_ix (K := K)) (pv 0) pe_int (fun _ _ => rfl)) pe_str (nomark _)) (pw_and1 (pt_cmpR op_gt (pe_callB (u_len (K := K)) (by rfl) T.f_len (by decide +kernel) (pa_cons (pv 0) pa_nil)) pe_int (nomark _)))))
  (pss_one (ps_ret pe_non)) pss_nil)
  (pss_one (ps_ret (pe_callTy call_int_str (by rfl) T.f_int (by decide +kernel) (pa_cons (pv 0) pa_nil))))))), ?_⟩)
  · obtain ⟨n, rfl, _⟩ := h
    rfl
  · obtain ⟨n, rfl, h0, h1, q⟩ := h
    obtain ⟨l1, l3⟩ := tx_len3 h0 h1
    have hz : (txI n : Str).length ≤ sizeLine := Nat.le_trans l3 (by decide)
    have g1 : decide ((1 : Int) ≤ ((txI n : Str).length : Int)) = true := decide_eq_true (by omega)
    have g3 : decide (((txI n : Str).length : Int) ≤ (3 : Int)) = true := decide_eq_true (by omega)
    have es : (txI n : Str).cps.size = (txI n : Str).length := rfl
    refine ⟨_, rfl, .str (txI n), _, rfl, ⟨hz, rfl⟩, _, _, rfl, rfl, _, rfl, ?_⟩
    rw [g1]
    refine iteT ⟨_, rfl, _, _, rfl, rfl, true, congrArg V.bl g3, iteF ⟨_, rfl, _, rfl, fun D hD => ?_⟩⟩
    refine lc_pureVS (us := List.replicate (txI n : Str).cps.size (V.bl true)) walk_chs (fun _ _ => trivial) (by simp) (by omega) hD (fun _ => rfl) ?_ ?_
    · intro i y u H' Q' hy hu ex k
      obtain ⟨c, hc', rfl⟩ : ∃ c, c ∈ (txI n : Str).cps.toList ∧ y = V.str ⟨#[c]⟩ := by
        unfold chs at hy
        rw [List.getElem?_map] at hy
        obtain ⟨c, h2, rfl⟩ := Option.map_eq_some_iff.mp hy
        exact ⟨c, List.mem_of_getElem? h2, rfl⟩
      obtain rfl : u = V.bl true := List.eq_of_mem_replicate (List.mem_of_getElem? hu)
      refine ⟨_, rfl, c, _, rfl, rfl, ?_⟩
      have hm : decide (c ∈ ("0123456789" : Str).cps.toList) = true := by
        have := tx_digits h0 c hc'
        have e : ("0123456789" : Str).cps.toList = (List.range 10).map (48 + ·) := by decide +kernel
        rw [e]
        exact decide_eq_true (List.mem_map.mpr ⟨c - 48, List.mem_range.mpr (by omega), by omega⟩)
      rw [hm]
      exact k _ (Evl.Ex.refl _)
    · intro H' ex h3
      refine ⟨D, List.replicate (txI n : Str).cps.size true, rfl, SqL.of (by rw [h3, List.map_replicate]), ?_⟩
      have e : (List.replicate (txI n : Str).cps.size true).all id = true := by simp
      rw [e]
      refine ⟨true, rfl, iteF ?_⟩
      obtain ⟨c, r, ec, hc⟩ := tx_zero (i := n) h0
      refine ⟨_, rfl, .inr (.inr ⟨_, _, c, rfl, rfl, hz, atI_nat (j := 0) (by show (tl (txI n))[0]? = _; rw [ec]; rfl), .inl ⟨rfl, _, rfl, ?_⟩⟩)⟩
      have fin : (tRet (tCB (fun xs H Q => ∃ a n, xs = [V.str a] ∧ intText? a = some n ∧ a.length ≤ 640 ∧ Q (V.int n) H) (tCons (tVar 0) tNil))) { nx := fun x H' => Q V.non H', rt := Q } [some (.str (txI n)), some (.int 3), none] H' :=
        ⟨_, rfl, _, n, rfl, tx_int h0 h1, Nat.le_trans l3 (by decide), q _ ex⟩
      by_cases z : c = 48
      · subst z
        rw [decide_eq_true (show V.str (⟨#[48]⟩ : Str) = V.str "0" from congrArg V.str (by decide +kernel))]
        refine iteT ⟨_, rfl, .str (txI n), _, rfl, ⟨hz, rfl⟩, _, _, rfl, rfl, _, rfl, ?_⟩
        have ln : (txI n : Str).length = 1 := by rw [len_tl, ec, hc rfl]; rfl
        rw [decide_eq_false (by omega)]
        exact iteF fin
      · rw [decide_eq_false (show ¬ V.str (⟨#[c]⟩ : Str) = V.str "0" from fun x => z (by
          have x := congrArg tl (V.str.inj x)
          have e0 : tl ("0" : Str) = [48] := by decide +kernel
          rw [e0] at x
          exact (List.cons.inj x).1))]
        exact iteF (iteF fin)
def spNtb : Sp := fun vs H Q _ => ∃ n : Int, vs = [.str (txI n)] ∧ 0 ≤ n ∧ n ≤ 255 ∧ RV (.int n) H Q
theorem ok_ntb (T : Txt K mg) (F : FnP K "_number_told_by" s__number_told_by f fd) (C_number_in_word : Cal P w K mg base CX0 1 "number_in_word" ["word", "most_digits"] spNiw) : Fg P w K mg base CX0 2 f fd ["word"] spNtb := by
  refine fg_of F sc__number_told_by (fun vs H Q E h => ?_) (fun cdv A outer s H vs Q E hr h => ⟨_, (PSs.nox (pss_one (ps_ret (pe_cal C_number_in_word hr.le pass0 (pa_cons (pv 0) (pa_cons (pe_globI rfl T.g_MOST_DIGITS) pa_nil)))))), ?_⟩)
  · obtain ⟨n, rfl, _⟩ := h
    rfl
  · obtain ⟨n, rfl, h0, h1, q⟩ := h
    exact ⟨_, rfl, n, rfl, h0, h1, q⟩
def spPtb : Sp := fun vs H Q _ => ∃ p : List Str, vs = [.str (wordS (.path p))] ∧ (∀ x ∈ p, Nm x) ∧ p.length ≤ 40 ∧ ∀ (a : Addr) (H' : Hp), Evl.Ex H H' → H' a = some (.tup (p.map V.str)) → Q (.ref a) H'
theorem ok_ptb (T : Txt K mg) (F : FnP K "_path_told_by" s__path_told_by f fd) : Fg P w K mg base CX0 1 f fd ["word"] spPtb := by
  refine fg_of F sc__path_told_by (fun vs H Q E h => ?_) (fun cdv A outer s H vs Q E hr h => ⟨_, (PSs.nox (pss_cons (ps_if (pt_cmpR (u_eq (K := K) hr) (pv 0) pe_str (nomark _))
  (pss_one (ps_ret (pe_tup pa_nil))) pss_nil)
  (pss_one (ps_ret (pe_callTy (u_tup (K := K)) (by rfl) T.f_tuple (by decide +kernel) (pa_cons (pe_bm PySem.F.plainAttrs_str PySem.F.slot_str_split PySem.F.type_str_split mt_split (pe_slice (u_sl (K := K)) (pv 0) (po_some pe_int) po_none) (pa_cons pe_str pa_nil)) pa_nil)))))), ?_⟩)
  · obtain ⟨p, rfl, _⟩ := h
    rfl
  · obtain ⟨p, rfl, g, hl, q⟩ := h
    refine ⟨_, rfl, .inl ⟨rfl, _, rfl, ?_⟩⟩
    by_cases z : p = []
    · subst z
      rw [decide_eq_true (show V.str (wordS (.path [])) = V.str "/" from congrArg V.str ((path_slash g).mpr rfl))]
      exact iteT ⟨by show 0 ≤ sizeLine; decide, fun l nl => q l _ (Evl.Ex.new nl) upd_same⟩
    · rw [decide_eq_false (show ¬ V.str (wordS (.path p)) = V.str "/" from fun x => z ((path_slash g).mp (V.str.inj x)))]
      have wl := word_len (p := .path p) ⟨g, hl⟩
      refine iteF ⟨_, rfl, 1, rfl, .inr (.inr ⟨_, rfl, Nat.le_trans wl (by decide), ?_⟩)⟩
      rw [show cutS (wordS (.path p)) (some 1) none = Txt.join "/" p from cut_pre "/" _ (k := 1) rfl]
      have wl2 : ("/" ++ Txt.join "/" p : Str).length ≤ 4000 := wl
      rw [PySem.strLen_append] at wl2
      refine ⟨rfl, _, _, rfl, rfl, rfl, by rw [sizeLine_eq]; have e1 : ("/" : Str).length = 1 := rfl; omega, fun l nl => ⟨l, _, rfl, .inl ⟨SqL.of upd_same, fun l2 nl2 => ?_⟩⟩⟩
      have y := (Evl.Ex.new (o := .lst ((Txt.split (Txt.join "/" p) "/").map V.str)) nl).trans (Evl.Ex.new (o := .tup ((Txt.split (Txt.join "/" p) "/").map V.str)) nl2)
      refine q l2 _ y ?_
      rw [upd_same, path_split g z]
end
end K19
/-! octets read back -/
namespace K19
open PySem PySem.Spec PyProof.Rows L2 VB BM
open TL
section
variable {P : Program} {w : World} {K : PySem.W.Frag} {mg : Str → Option Value} {base : Heap} {f : Addr} {fd : FuncData}
theorem iv_app (a b : List Int) : IV (a ++ b) = IV a ++ IV b := List.map_append
theorem rep_l {z : Addr} {o k : Int} {H : Hp} {Q : VK} (h : H z = some (.lst [V.int o])) (k0 : 0 ≤ k) (k1 : k ≤ 1000) (q : RL (IV (List.replicate k.toNat o)) H Q) : rMulU K (.ref z) (.int k) H Q := by
  refine .inr (.inl ⟨z, k, _, rfl, rfl, h, by omega, by omega, ?_, fun p np => ?_⟩)
  · show 1 * k.toNat ≤ sizeLine
    exact Nat.le_trans (show 1 * k.toNat ≤ 1000 by omega) (by decide)
  · have er : (List.replicate k.toNat [V.int o]).flatten = IV (List.replicate k.toNat o) := by
      rw [List.flatten_replicate_singleton, iv_rep]
    rw [er]
    exact q p _ np (Evl.Ex.new np) upd_same
theorem exp_take {rs : List (Int × Int)} {i : Nat} {r : Int × Int} (h : rs[i]? = some r) : expand (rs.take (i + 1)) = expand (rs.take i) ++ List.replicate r.2.toNat r.1 := by
  rw [List.take_add_one, h, expand_app]
  show _ ++ (List.replicate r.2.toNat r.1 ++ []) = _
  rw [List.append_nil]
theorem exp_le (rs : List (Int × Int)) (i : Nat) : (expand (rs.take i)).length ≤ (expand rs).length := by
  have : expand rs = expand (rs.take i) ++ expand (rs.drop i) := by rw [← expand_app, List.take_append_drop]
  rw [this, List.length_append]
  omega
def spOtb : Sp := fun vs H Q _ => ∃ os : List Int, vs = [.str (octW os)] ∧ Oct os ∧ 1 ≤ os.length ∧ os.length ≤ 48 ∧ ∀ (a : Addr) (H' : Hp), Evl.Ex H H' → H' a = some (.tup (IV os)) → Q (.ref a) H'
theorem ok_otb (T : Txt K mg) (F : FnP K "_octets_told_by" s__octets_told_by f fd) (C__number_told_by : Cal P w K mg base CX0 2 "_number_told_by" ["word"] spNtb) : Fg P w K mg base CX0 3 f fd ["word"] spOtb := by
  refine fg_of F sc__octets_told_by (fun vs H Q E h => ?_) (fun cdv A outer s H vs Q E hr h => ⟨_, (PSs.nox (pss_cons (ps_set (i := 1) sc__octets_told_by.nd rfl (by first | exact Or.inl rfl | exact Or.inr rfl) (pe_lst pa_nil))
  (pss_cons (ps_for PassesOwn.never rfl (pi_seq (K := K) (pe_bm PySem.F.plainAttrs_str PySem.F.slot_str_split PySem.F.type_str_split mt_split (pv 0) (pa_cons pe_str pa_nil))) (pg_name (i := 2) sc__octets_told_by.nd rfl (by first | exact Or.inl rfl | exact Or.inr rfl))
  (pss_cons (ps_asg (pe_bm PySem.F.plainAttrs_str PySem.F.slot_str_partition PySem.F.type_str_partition mt_partition (pv 2) (pa_cons pe_str pa_nil)) (pg_tupU (K := K) (n := 3) rfl (pgs_cons (pg_name (i := 3) sc__octets_told_by.nd rfl (by first | exact Or.inl rfl | exact Or.inr rfl)) (pgs_cons (pg_name (i := 4) sc__octets_told_by.nd rfl (by first | exact Or.inl rfl | exact Or.inr rfl)) (pgs_cons (pg_name (i := 5) sc__octets_told_by.nd rfl (by first | exact Or.inl rfl | exact Or.inr rfl)) pgs_nil)))))
  (pss_cons (ps_set (i := 6) sc__octets_told_by.nd rfl (by first | exact Or.inl rfl | exact Or.inr rfl) (pe_ifExp (pt_cmpR (u_eq (K := K) hr) (pv 4) pe_str (nomark _)) (pe_cal C__number_told_by hr.le pass0 (pa_cons (pv 5) pa_nil)) pe_int))
  (pss_cons (ps_if (PW.pt (pw_or (pt_cmpR op_isN (pv 6) pe_non (nomark _)) (pw_or1 (pt_cmpR op_gt (pv 6) (pe_globI rfl T.g_MOST_WRITTEN) (nomark _)))))
  (pss_one (ps_ret pe_non)) pss_nil)
  (pss_one (ps_expr (pe_bm PySem.F.plainAttrs_list PySem.F.slot_list_extend PySem.F.type_list_extend (mt_extU (K := K)) (pv 1) (pa_cons (pe_op (u_mul (K := K)) (pe_lst (pa_cons (pe_cal C__number_told_by hr.le pass0 (pa_cons (pv 3) pa_nil)) pa_nil)) (pv 6)) pa_nil))))))))
  (pss_one (ps_ret (pe_callTy (u_tup (K := K)) (by rfl) T.f_tuple (by decide +kernel) (pa_cons (pv 1) pa_nil))))))), ?_⟩)
  · obtain ⟨os, rfl, _⟩ := h
    rfl
  · obtain ⟨os, rfl, g, l1, l48, q⟩ := h
    have ol : (octW os).length ≤ 4000 := word_len (p := .octs os) ⟨g, l1, l48⟩
    refine ⟨by show 0 ≤ sizeLine; decide, fun L nL => ?_⟩
    have xL := Evl.Ex.new (o := .lst ([] : List V)) nL
    have hL := upd_same (H := H) (a := L) (o := .lst ([] : List V))
    generalize upd H L (.lst ([] : List V)) = H0 at xL hL ⊢
    refine .inl ⟨_, rfl, rfl, _, _, rfl, rfl, rfl, Nat.le_trans (Nat.add_le_add_right ol 2) (by decide), fun S nS => ⟨S, rfl, ⟨_, SqL.of upd_same⟩, ?_⟩⟩
    rw [oct_split g l1]
    have SL : S ≠ L := fun z => by rw [z, hL] at nS; cases nS
    have xS := xL.trans (Evl.Ex.new (o := .lst (((runsL os).map runW).map V.str)) nS)
    have hS := upd_same (H := H0) (a := S) (o := .lst (((runsL os).map runW).map V.str))
    have hL := (Evl.Ex.new (o := .lst (((runsL os).map runW).map V.str)) nS) _ _ hL
    generalize upd H0 S (.lst (((runsL os).map runW).map V.str)) = H1 at xS hS hL ⊢
    refine for_it walk_list (fun i σ H' => i ≤ (runsL os).length ∧ Evl.Ex H H' ∧ H' S = some (.lst (((runsL os).map runW).map V.str)) ∧ H' L = some (.lst (IV (expand ((runsL os).take i)))) ∧ ∃ v2 v3 v4 v5 v6 : Option V, σ = [some (.str (octW os)), some (.ref L), v2, v3, v4, v5, v6]) ⟨Nat.zero_le _, xS, hS, hL, _, _, _, _, _, rfl⟩ (fun i σ H' _ h => by obtain ⟨_, _, h, _⟩ := h; exact SqL.of h) ?_ ?_
    · rintro i x σ G0 G hi ⟨_, eG, gS, gL, v2, v3, v4, v5, v6, rfl⟩ ⟨rfl, hx⟩
      have hi : i < (runsL os).length := by rw [List.length_map, List.length_map] at hi; exact hi
      rw [List.getElem?_map, List.getElem?_map] at hx
      obtain ⟨y, hy, rfl⟩ := Option.map_eq_some_iff.mp hx
      obtain ⟨r, hr', rfl⟩ := Option.map_eq_some_iff.mp hy
      obtain ⟨o0, o1, c1, c2⟩ := run_good g (List.mem_of_getElem? hr')
      have wl := runw_len (r := r) o0 o1 (by omega) (by omega)
      have tail : ∀ (D : Ends) (w4 w5 : V) (G2 : Hp), Evl.Ex G G2 → (∀ σ' H', (i + 1 ≤ (runsL os).length ∧ Evl.Ex H H' ∧ H' S = some (.lst (((runsL os).map runW).map V.str)) ∧ H' L = some (.lst (IV (expand ((runsL os).take (i + 1))))) ∧ ∃ v2 v3 v4 v5 v6 : Option V, σ' = [some (.str (octW os)), some (.ref L), v2, v3, v4, v5, v6]) → D.nx σ' H') →
          tSeq (tIfS (tOr (tTest (tOp (fun x y H Q => y = V.non ∧ Q (V.bl (decide (x = V.non))) H) (tVar 6) (tC V.non))) (tTest (tOp (rI0 fun i j => V.bl (decide (j < i))) (tVar 6) (tC (V.int 48))))) (tRet (tC V.non)) tNext) (tDrop (tBM K "list" (rExtU K) (tVar 1) (tCons (tOp (rMulU K) (tLst (tCons (tCall spNtb [] E0 (tCons (tVar 3) tNil)) tNil)) (tVar 6)) tNil))) D [some (.str (octW os)), some (.ref L), some (.str (runW r)), some (.str (txI r.1)), some w4, some w5, some (.int r.2)] G2 := by
        intro D w4 w5 G2 e2 k
        refine ⟨_, rfl, rfl, _, rfl, ?_⟩
        rw [decide_eq_false (show ¬ (V.int r.2 : V) = .non from fun z => nomatch z)]
        refine iteF ⟨_, rfl, _, _, rfl, rfl, _, rfl, ?_⟩
        rw [decide_eq_false (by omega)]
        refine iteF ⟨_, rfl, .inl ⟨rfl, _, SqL.of (e2 _ _ gL)⟩, _, rfl, r.1, rfl, o0, o1, fun G3 e3 => ⟨by show 1 ≤ sizeLine; decide, fun z nz => ⟨_, rfl, rep_l upd_same (by omega) (by omega) fun p G4 np ep hp => ?_⟩⟩⟩
        have E := ((e2.trans e3).trans (Evl.Ex.new nz)).trans ep
        have xl := exp_le (runsL os) i
        rw [exp_runs] at xl
        refine .inl ⟨L, p, _, _, rfl, rfl, E _ _ gL, hp, ?_, k _ _ ⟨hi, Evl.Ex.mut (eG.trans E) nL, ?_, ?_, _, _, _, _, _, rfl⟩⟩
        · rw [iv_len, iv_len, List.length_replicate]
          exact Nat.le_trans (show _ ≤ 1000 by omega) (by decide)
        · rw [upd_ne SL]
          exact E _ _ gS
        · rw [upd_same, exp_take hr', ← iv_app]
      by_cases h : r.2 = 1
      · have ew : runW r = txI r.1 := if_pos h
        refine ⟨_, rfl, rfl, _, _, rfl, rfl, rfl, Nat.le_trans wl (by decide), fun p np => ?_⟩
        rw [ew, part_one o0]
        have y := Evl.Ex.new (o := .tup [V.str (txI r.1), .str Str.empty, .str Str.empty]) np
        refine ⟨p, _, rfl, SqT.of upd_same, rfl, _, _, rfl, _, _, rfl, _, _, rfl, rfl, ?_⟩
        refine ⟨_, rfl, .inl ⟨rfl, _, rfl, ?_⟩⟩
        rw [decide_eq_false (show ¬ V.str Str.empty = V.str "*" from fun z => absurd (V.str.inj z) (by decide))]
        have tl := tail
        rw [ew, h] at tl
        exact iteF (tl _ _ _ _ y fun _ _ z => z)
      · have ew : runW r = ((Str.empty ++ txI r.1) ++ "*") ++ txI r.2 := if_neg h
        refine ⟨_, rfl, rfl, _, _, rfl, rfl, rfl, Nat.le_trans wl (by decide), fun p np => ?_⟩
        rw [ew, part_two o0]
        have y := Evl.Ex.new (o := .tup [V.str (txI r.1), .str "*", .str (txI r.2)]) np
        refine ⟨p, _, rfl, SqT.of upd_same, rfl, _, _, rfl, _, _, rfl, _, _, rfl, rfl, ?_⟩
        refine ⟨_, rfl, .inl ⟨rfl, _, rfl, ?_⟩⟩
        rw [decide_eq_true rfl]
        have tl := tail
        rw [ew] at tl
        exact iteT ⟨_, rfl, r.2, rfl, by omega, by omega, fun G3 e3 => tl _ _ _ _ (y.trans e3) fun _ _ z => z⟩
    · rintro σ H' ⟨_, e, _, hL', v2, v3, v4, v5, v6, rfl⟩
      rw [List.length_map, List.length_map, List.take_length, exp_runs] at hL'
      exact ⟨_, rfl, _, _, rfl, .inl ⟨SqL.of hL', fun l nl => q l _ (e.trans (Evl.Ex.new nl)) upd_same⟩⟩
end
end K19
/-! values that stand in tuples alone: made one by one by a comprehension -/
namespace VB
open PySem PySem.Spec PyProof.Rows L2 BM
/-- all tuples stay -/
def TEx (H H' : Hp) : Prop := ∀ a xs, H a = some (.tup xs) → H' a = some (.tup xs)
theorem TEx.refl {H : Hp} : TEx H H := fun _ _ h => h
theorem TEx.of {H H' : Hp} (e : Evl.Ex H H') : TEx H H' := fun _ _ h => e _ _ h
theorem TEx.trans {H H1 H2 : Hp} (x : TEx H H1) (y : TEx H1 H2) : TEx H H2 := fun a xs h => y a xs (x a xs h)
theorem TEx.exb {H H' : Hp} {b : Addr} {n : Int} (e : Exb b H H') (B : Box H b n) : TEx H H' := fun a xs h => e a _ (fun z => by
  obtain ⟨d, m, c, k, h2, _⟩ := B
  rw [z, h2] at h
  cases h) h
theorem TEx.upd {H : Hp} {a : Addr} {xs : List V} {o : HO} (h : H a = some (.lst xs)) : TEx H (upd H a o) := fun b ys hb => by
  rw [upd_ne (fun z => by rw [z, h] at hb; cases hb)]
  exact hb
theorem px_mono {α β : Type} {R S : α → β → Prop} (h : ∀ a b, R a b → S a b) : ∀ {xs : List α} {ys : List β}, Paired R xs ys → Paired S xs ys
  | _, _, .nil => .nil
  | _, _, .cons r t => .cons (h _ _ r) (px_mono h t)
theorem px_len {α β : Type} {R : α → β → Prop} : ∀ {xs : List α} {ys : List β}, Paired R xs ys → xs.length = ys.length
  | _, _, .nil => rfl
  | _, _, .cons _ t => by rw [List.length_cons, List.length_cons, px_len t]
theorem exb_back {b D : Addr} {H H' : Hp} {o : HO} (e : Exb b H H') (n : H D = none) : Exb b H (L2.upd H' D o) := fun a u ne h => by
  rw [upd_ne (fun z => by rw [z, n] at h; cases h)]
  exact e a u ne h
theorem box_back {b D : Addr} {H : Hp} {o : HO} {c : Int} (B : Box H b c) (n : D ≠ b) : Box (L2.upd H D o) b c := by
  obtain ⟨d, m, k, t, h, r⟩ := B
  exact ⟨d, m, k, t, by rw [upd_ne (Ne.symm n)]; exact h, r⟩
section
variable {α : Type} {At : Hp → V → α → Prop} {J : It} {n : Nat} {G : Hp → Prop} {Y : Nat → Hp → V → Hp → Prop} {g : TG} {tt : TT} {te : TE} {vs : List Nat} {σ : L2.St} {H1 : Hp} {D : Addr} {Qd : Hp → Prop}
/-- the items are told by a list -/
theorem lc_new (mono : ∀ {H H' : Hp} {v : V} {d : α}, At H v d → TEx H H' → At H' v d) (w : Walk J n G Y) (ds : List α) (hl : ds.length = n) (hz : n ≤ 60000) (hD : H1 D = none) (hG : ∀ H, Evl.Ex H1 H → G H)
    (hs : ∀ i x H H' d (R : VK) (Nx : Hp → Prop), ds[i]? = some d → Evl.Ex H1 H → Y i H x H' → (∀ y H4, Evl.Ex H H4 → At H4 y d → R y H4) → g x (wipe σ vs) H' fun σ2 H2 => wipe σ2 vs = wipe σ vs ∧ tt σ2 H2 fun b H3 => if b = true then te σ2 H3 R else Nx H3)
    (hd : ∀ H vs, Evl.Ex H1 H → H D = some (.lst vs) → Paired (At H) vs ds → Qd H) :
    ∃ W : Nat → Nat → Hp → Prop, (∃ m, W 0 m (upd H1 D (.lst []))) ∧ ∀ i m H, W i m H →
      (J.stop i H ∧ Qd H) ∨ (J.go i H ∧ ∃ Nx : Hp → Prop, (∀ H', Nx H' → ∃ m', m' < m ∧ W (i + 1) m' H') ∧ ∀ x H', J.yld i H x H' → g x (wipe σ vs) H' fun σ2 H2 => wipe σ2 vs = wipe σ vs ∧ tt σ2 H2 fun b H3 =>
        if b = true then te σ2 H3 fun y H4 => ∃ acc, H4 D = some (.lst acc) ∧ acc.length < sizeLine ∧ Nx (upd H4 D (.lst (acc ++ [y]))) else Nx H3) := by
  refine lc_it w (fun i H => i ≤ n ∧ Evl.Ex H1 H ∧ ∃ us, H D = some (.lst us) ∧ Paired (At H) us (ds.take i)) ⟨Nat.zero_le _, Evl.Ex.new hD, [], upd_same, .nil⟩ (fun i H _ h => hG H h.2.1) ?_ ?_
  · rintro i x H H' hi ⟨_, e, us, hu, pu⟩ y
    obtain ⟨d, hd'⟩ : ∃ d, ds[i]? = some d := ⟨ds[i], by simp [hl ▸ hi]⟩
    refine hs i x H H' d _ _ hd' e y fun v H4 e4 a => ?_
    have h4 := e4 _ _ hu
    have lu := px_len pu
    rw [List.length_take] at lu
    refine ⟨us, h4, Evl.sz_lt (by omega), hi, Evl.Ex.mut (e.trans e4) hD, us ++ [v], upd_same, ?_⟩
    have tk : ds.take (i + 1) = ds.take i ++ [d] := by rw [List.take_add_one, hd']; rfl
    rw [tk]
    exact (px_mono (fun _ _ z => mono (mono z (.of e4)) (.upd h4)) pu).snoc (mono a (.upd h4))
  · rintro H ⟨_, e, us, hu, pu⟩
    rw [List.take_of_length_le (by omega)] at pu
    exact hd H us e hu pu
/-- the items are drawn -/
theorem lc_draw (mono : ∀ {H H' : Hp} {v : V} {d : α}, At H v d → TEx H H' → At H' v d) (w : Walk J n G Y) {bx : Addr} {c k : Int} (Gd : Nat → α → Prop) (hz : n ≤ 60000) (hD : H1 D = none) (B : Box H1 bx c) (hG : ∀ H, Exb bx H1 H → G H)
    (hs : ∀ i x H H' (R : VK) (Nx : Hp → Prop), i < n → Exb bx H1 H → Box H bx (c + k * (i : Int)) → Y i H x H' → (∀ y H4 d, Gd i d → Exb bx H H4 → Box H4 bx (c + k * (i : Int) + k) → At H4 y d → R y H4) → g x (wipe σ vs) H' fun σ2 H2 => wipe σ2 vs = wipe σ vs ∧ tt σ2 H2 fun b H3 => if b = true then te σ2 H3 R else Nx H3)
    (hd : ∀ H vs ds, ds.length = n → (∀ i d, ds[i]? = some d → Gd i d) → Exb bx H1 H → Box H bx (c + k * (n : Int)) → H D = some (.lst vs) → Paired (At H) vs ds → Qd H) :
    ∃ W : Nat → Nat → Hp → Prop, (∃ m, W 0 m (upd H1 D (.lst []))) ∧ ∀ i m H, W i m H →
      (J.stop i H ∧ Qd H) ∨ (J.go i H ∧ ∃ Nx : Hp → Prop, (∀ H', Nx H' → ∃ m', m' < m ∧ W (i + 1) m' H') ∧ ∀ x H', J.yld i H x H' → g x (wipe σ vs) H' fun σ2 H2 => wipe σ2 vs = wipe σ vs ∧ tt σ2 H2 fun b H3 =>
        if b = true then te σ2 H3 fun y H4 => ∃ acc, H4 D = some (.lst acc) ∧ acc.length < sizeLine ∧ Nx (upd H4 D (.lst (acc ++ [y]))) else Nx H3) := by
  have Db : D ≠ bx := B.at hD
  refine lc_it w (fun i H => i ≤ n ∧ Exb bx H1 H ∧ Box H bx (c + k * (i : Int)) ∧ ∃ us ds, ds.length = i ∧ (∀ i d, ds[i]? = some d → Gd i d) ∧ H D = some (.lst us) ∧ Paired (At H) us ds) ⟨Nat.zero_le _, Exb.new hD, by rw [show c + k * ((0 : Nat) : Int) = c by simp]; exact B.ex (Evl.Ex.new hD), [], [], rfl, (fun _ _ z => by simp at z), upd_same, .nil⟩ (fun i H _ h => hG H h.2.1) ?_ ?_
  · rintro i x H H' hi ⟨_, e, Bi, us, ds, ld, gd, hu, pu⟩ y
    refine hs i x H H' _ _ hi e Bi y fun v H4 d g4 e4 B4 a => ?_
    have h4 := e4 _ _ Db hu
    have lu := px_len pu
    refine ⟨us, h4, Evl.sz_lt (by omega), hi, exb_back (e.trans e4) hD, ?_, us ++ [v], ds ++ [d], by rw [List.length_append, ld]; rfl, ?_, upd_same, ?_⟩
    · rw [show c + k * ((i + 1 : Nat) : Int) = c + k * (i : Int) + k by rw [Int.natCast_succ, Int.mul_add, Int.mul_one, Int.add_assoc]]
      exact box_back B4 Db
    · intro j z hz'
      by_cases hj : j < i
      · rw [List.getElem?_append_left (by omega)] at hz'
        exact gd j z hz'
      · rw [List.getElem?_append_right (by omega)] at hz'
        have : j - ds.length = 0 := by
          by_cases h0 : j - ds.length = 0
          · exact h0
          · rw [List.getElem?_eq_none (by rw [List.length_singleton]; omega)] at hz'
            cases hz'
        rw [this] at hz'
        cases hz'
        rw [show j = i by omega]
        exact g4
    · exact (px_mono (fun _ _ z => mono (mono z (.exb e4 Bi)) (.upd h4)) pu).snoc (mono a (.upd h4))
  · rintro H ⟨_, e, Bn, us, ds, ld, gd, hu, pu⟩
    exact hd H us ds ld gd e Bn hu pu
end
end VB
/-! deeds and steps read back -/
namespace K19
open PySem PySem.Spec PyProof.Rows L2 VB BM
open TL
theorem PtT.tx {H H' : Hp} {v : V} {p : Pt} (h : PtT H v p) (e : TEx H H') : PtT H' v p := by
  cases p with
  | path p => obtain ⟨a, h1, h2⟩ := h; exact ⟨a, h1, e _ _ h2⟩
  | size n => exact h
  | octs os => obtain ⟨a, h1, h2⟩ := h; exact ⟨a, h1, e _ _ h2⟩
  | name x => exact h
theorem DdT.tx {H H' : Hp} {v : V} {d : Dd} (h : DdT H v d) (e : TEx H H') : DdT H' v d := by
  obtain ⟨a, vs, h1, h2, h3⟩ := h
  exact ⟨a, vs, h1, e _ _ h2, pr_mono (fun _ _ z => z.tx e) h3⟩
theorem StpT.tx {H H' : Hp} {v : V} {s : Stp} (h : StpT H v s) (e : TEx H H') : StpT H' v s := by
  cases s with
  | one d => exact DdT.tx h e
  | all ds =>
    obtain ⟨a, b, vs, h1, h2, h3, h4⟩ := h
    exact ⟨a, b, vs, h1, e _ _ h2, e _ _ h3, pr_mono (fun _ _ z => z.tx e) h4⟩
  | sync =>
    obtain ⟨a, h1, h2⟩ := h
    exact ⟨a, h1, e _ _ h2⟩
theorem cat_t {K : PySem.W.Frag} {H : Hp} {a b : Addr} {xs ys : List V} {Q : VK} (h1 : H a = some (.tup xs)) (h2 : H b = some (.tup ys)) (z : xs.length + ys.length ≤ 1000) (n1 : xs ≠ []) (n2 : ys ≠ []) (q : ∀ p, H p = none → Q (.ref p) (upd H p (.tup (xs ++ ys)))) : rAddU K (.ref a) (.ref b) H Q := by
  refine .inr (.inr ⟨a, b, xs, ys, rfl, rfl, SqT.of h1, SqT.of h2, ?_⟩)
  exact ⟨n1, Nat.le_trans z (by decide), fun e => absurd e n2, fun _ => q⟩
section
variable {P : Program} {w : World} {K : PySem.W.Frag} {mg : Str → Option Value} {base : Heap} {f : Addr} {fd : FuncData}
def spItb : Sp := fun vs H Q _ => ∃ p : Pt, vs = [.str p.kd, .str (wordS p)] ∧ p.Good ∧ ∀ (v : V) (H' : Hp), Evl.Ex H H' → PtT H' v p → Q v H'
theorem ok_itb (T : Txt K mg) (F : FnP K "_item_told_by" s__item_told_by f fd) (C__path_told_by : Cal P w K mg base CX0 1 "_path_told_by" ["word"] spPtb) (C__number_told_by : Cal P w K mg base CX0 2 "_number_told_by" ["word"] spNtb) (C__octets_told_by : Cal P w K mg base CX0 3 "_octets_told_by" ["word"] spOtb) :
    Fg P w K mg base CX0 4 f fd ["part", "word"] spItb := by
  refine fg_of F sc__item_told_by (fun vs H Q E h => ?_) (fun cdv A outer s H vs Q E hr h => ⟨_, (PSs.nox (pss_cons (ps_if (pt_cmpR (u_eq (K := K) hr) (pv 0) pe_str (nomark _))
  (pss_one (ps_ret (pe_cal C__path_told_by hr.le pass0 (pa_cons (pv 1) pa_nil)))) pss_nil)
  (pss_cons (ps_if (pt_cmpR (u_eq (K := K) hr) (pv 0) pe_str (nomark _))
  (pss_one (ps_ret (pe_cal C__number_told_by hr.le pass0 (pa_cons (pv 1) pa_nil)))) pss_nil)
  (pss_cons (ps_if (pt_cmpR (u_eq (K := K) hr) (pv 0) pe_str (nomark _))
  (pss_one (ps_ret (pe_cal C__octets_told_by hr.le pass0 (pa_cons (pv 1) pa_nil)))) pss_nil)
  (pss_one (ps_ret (pv 1))))))), ?_⟩)
  · obtain ⟨p, rfl, _⟩ := h
    rfl
  · obtain ⟨p, rfl, g, q⟩ := h
    have eT : ∀ {c : Str} {H' : Hp} {Q' : Bool → Hp → Prop}, p.kd = c → Q' true H' → tTest (tOp (rEqU K) (tVar 0) (tC (V.str c))) [some (.str p.kd), some (.str (wordS p))] H' Q' := fun e q => ⟨_, rfl, .inl ⟨rfl, _, rfl, by rw [decide_eq_true (congrArg V.str e)]; exact q⟩⟩
    have eF : ∀ {c : Str} {H' : Hp} {Q' : Bool → Hp → Prop}, p.kd ≠ c → Q' false H' → tTest (tOp (rEqU K) (tVar 0) (tC (V.str c))) [some (.str p.kd), some (.str (wordS p))] H' Q' := fun e q => ⟨_, rfl, .inl ⟨rfl, _, rfl, by rw [decide_eq_false (fun z => e (V.str.inj z))]; exact q⟩⟩
    cases p with
    | path p => exact eT rfl (iteT ⟨_, rfl, p, rfl, g.1, g.2, fun a H1 e1 h1 => q _ _ e1 ⟨a, rfl, h1⟩⟩)
    | size n => exact eF (show ("size" : Str) ≠ "path" by decide) (iteF (eT rfl (iteT ⟨_, rfl, n, rfl, g.1, by have := g.2; omega, fun H1 e1 => q _ _ e1 rfl⟩)))
    | octs os => exact eF (show ("octets" : Str) ≠ "path" by decide) (iteF (eF (show ("octets" : Str) ≠ "size" by decide) (iteF (eT rfl (iteT ⟨_, rfl, os, rfl, g.1, g.2.1, g.2.2, fun a H1 e1 h1 => q _ _ e1 ⟨a, rfl, h1⟩⟩)))))
    | name x => exact eF (show ("name" : Str) ≠ "path" by decide) (iteF (eF (show ("name" : Str) ≠ "size" by decide) (iteF (eF (show ("name" : Str) ≠ "octets" by decide) (iteF ⟨_, rfl, q _ _ (Evl.Ex.refl _) rfl⟩)))))
def spDtb : Sp := fun vs H Q _ => ∃ d : Dd, vs = [.str (lineD d)] ∧ d.Good ∧ ∀ (v : V) (H' : Hp), Evl.Ex H H' → DdT H' v d → Q v H'
theorem ok_dtb (T : Txt K mg) (TB : Tb K w) (F : FnP K "_deed_told_by" s__deed_told_by f fd) (C__item_told_by : Cal P w K mg base CX0 4 "_item_told_by" ["part", "word"] spItb) :
    Fg P w K mg base CX0 5 f fd ["line"] spDtb := by
  refine fg_of F sc__deed_told_by (fun vs H Q E h => ?_) (fun cdv A outer s H vs Q E hr h => ⟨_, (PSs.nox (pss_cons (ps_set (i := 1) sc__deed_told_by.nd rfl (by first | exact Or.inl rfl | exact Or.inr rfl) (pe_bm PySem.F.plainAttrs_str PySem.F.slot_str_split PySem.F.type_str_split mt_split (pv 0) (pa_cons pe_str pa_nil)))
  (pss_cons (ps_set (i := 2) sc__deed_told_by.nd rfl (by first | exact Or.inl rfl | exact Or.inr rfl) (pe_kget (pe_glob (v := .ref (He.ga K "DEED_PARTS")) rfl T.g_DEED_PARTS rfl) (pe_ix (u_ix (K := K)) (pv 1) pe_int (fun _ _ => rfl)) ⟨rfl, rfl, rfl, rfl⟩))
  (pss_cons (ps_if (pt_cmpR op_isN (pv 2) pe_non (nomark _))
  (pss_one (ps_ret pe_non)) pss_nil)
  (pss_one (ps_ret (pe_op (u_add (K := K)) (pe_tup (pa_cons (pe_ix (u_ix (K := K)) (pv 1) pe_int (fun _ _ => rfl)) pa_nil)) (pe_callTy (u_tup (K := K)) (by rfl) T.f_tuple (by decide +kernel) (pa_cons (pe_lc (own := [("part", 3), ("word", 4)]) rfl sc__deed_told_by.nd (pi_zm (K := K) rfl T.f_zip (pa_cons (pv 2) (pa_cons (pe_slice (u_sl (K := K)) (pv 1) (po_some pe_int) po_none) pa_nil))) (blkOk_by (own := [("part", 3), ("word", 4)]) (N := ["line", "words", "parts", "part", "word"]) (sc := defScope s__deed_told_by) (by decide +kernel)) (fun _ _ _ _ _ => (pg_tupU (K := K) (n := 2) rfl (pgs_cons (pg_name (i := 3) sc__deed_told_by.nd rfl (by first | exact Or.inl rfl | exact Or.inr rfl)) (pgs_cons (pg_name (i := 4) sc__deed_told_by.nd rfl (by first | exact Or.inl rfl | exact Or.inr rfl)) pgs_nil)))) (fun _ _ _ _ _ => pts_nil) (fun _ _ _ _ _ => (pe_cal C__item_told_by hr.le pass0 (pa_cons (pv 3) (pa_cons (pv 4) pa_nil))))) pa_nil))))))))), ?_⟩)
  · obtain ⟨d, rfl, _⟩ := h
    rfl
  · obtain ⟨d, rfl, g, q⟩ := h
    obtain ⟨qa, kg, _, hq⟩ := TB.at_ d.i g.i9
    have ll := lineD_len g
    have lk : (tabK.getD d.i []).length = d.ps.length := by rw [← g.kd, List.length_map]
    obtain ⟨t1, t3⟩ := tabK_len d.i g.i9
    refine ⟨_, rfl, rfl, _, _, rfl, rfl, rfl, Nat.le_trans (Nat.add_le_add_right ll 2) (by decide), fun S nS => ?_⟩
    rw [lineD_split g]
    have e0 := Evl.Ex.new (o := .lst ((d.w :: d.ps.map wordS).map V.str)) nS
    have h0 := upd_same (H := H) (a := S) (o := .lst ((d.w :: d.ps.map wordS).map V.str))
    generalize upd H S (.lst ((d.w :: d.ps.map wordS).map V.str)) = H0 at e0 h0 ⊢
    have i0 : atI ((d.w :: d.ps.map wordS).map V.str) 0 = some (V.str d.w) := atI_nat (j := 0) rfl
    refine ⟨_, rfl, TB.dc, _, rfl, Sv.ix (x := V.str d.w) (Sv.lst h0) i0 ⟨_, _, rfl, kg, ?_⟩⟩
    refine ⟨_, rfl, rfl, _, rfl, ?_⟩
    rw [decide_eq_false (show ¬ (V.ref qa : V) = .non from fun z => nomatch z)]
    refine iteF ⟨_, rfl, Sv.ix (x := V.str d.w) (Sv.lst h0) i0 ⟨by show 1 ≤ sizeLine; decide, fun s1 n1 => ?_⟩⟩
    have e1 := e0.trans (Evl.Ex.new (o := .tup [V.str d.w]) n1)
    have h0 := (Evl.Ex.new (o := .tup [V.str d.w]) n1) _ _ h0
    have h1 := upd_same (H := H0) (a := s1) (o := .tup [V.str d.w])
    generalize upd H0 s1 (.tup [V.str d.w]) = H1 at e1 h0 h1 ⊢
    refine ⟨_, rfl, _, rfl, 1, rfl, .inl ⟨S, _, rfl, SqL.of h0, fun s2 n2 => ?_⟩⟩
    have ec : cutV ((d.w :: d.ps.map wordS).map V.str) (some 1) none = (d.ps.map wordS).map V.str := cut1
    rw [ec]
    have e2 := e1.trans (Evl.Ex.new (o := .lst ((d.ps.map wordS).map V.str)) n2)
    have h1 := (Evl.Ex.new (o := .lst ((d.ps.map wordS).map V.str)) n2) _ _ h1
    have h2 := upd_same (H := H1) (a := s2) (o := .lst ((d.ps.map wordS).map V.str))
    generalize upd H1 s2 (.lst ((d.ps.map wordS).map V.str)) = H2 at e2 h1 h2 ⊢
    have wk := walk_zm (t := true) (u := false) (K := K) (a := qa) (b := s2) (xs := (tabK.getD d.i []).map V.str) (ys := (d.ps.map wordS).map V.str) (n := d.ps.length) (by rw [List.length_map, List.length_map, List.length_map, lk]; omega)
    refine ⟨true, false, qa, s2, _, _, rfl, hq H2, Sv.lst h2, fun D hD => ?_⟩
    refine lc_new (At := PtT) (fun z e => z.tx e) wk d.ps rfl (by omega) hD (fun H' ex => ⟨hq H', Sv.lst (ex _ _ h2)⟩) ?_ ?_
    · rintro i x G G' p R Nx hp ex ⟨t, x1, x2, rfl, nt, rfl, hx1, hx2⟩ k
      have hx1' : x1 = V.str p.kd := by
        have hx1 : ((tabK.getD d.i []).map V.str)[i]? = some x1 := hx1
        rw [← g.kd, List.map_map, List.getElem?_map, hp] at hx1
        exact (Option.some.inj hx1).symm
      have hx2' : x2 = V.str (wordS p) := by
        have hx2 : ((d.ps.map wordS).map V.str)[i]? = some x2 := hx2
        rw [List.map_map, List.getElem?_map, hp] at hx2
        exact (Option.some.inj hx2).symm
      subst hx1' hx2'
      refine ⟨t, _, rfl, SqT.of upd_same, rfl, _, _, rfl, _, _, rfl, rfl, rfl, ?_⟩
      exact ⟨_, rfl, _, rfl, p, rfl, g.gd p (List.mem_of_getElem? hp), fun v H4 e4 a => k v H4 ((Evl.Ex.new nt).trans e4) a⟩
    · intro H3 vs ex hv pv
      have lv := px_len pv
      refine ⟨D, _, rfl, .inl ⟨SqL.of hv, fun s3 n3 => ?_⟩⟩
      have y3 := Evl.Ex.new (o := .tup vs) n3
      refine cat_t (y3 _ _ (ex _ _ h1)) upd_same (by rw [List.length_singleton]; omega) (by simp) (fun z => by rw [z] at lv; simp at lv; omega) fun s4 n4 => ?_
      have y4 := Evl.Ex.new (o := .tup ([V.str d.w] ++ vs)) n4
      exact q _ _ (((e2.trans ex).trans y3).trans y4) ⟨s4, vs, rfl, upd_same, px_mono (fun _ _ z => z.tx (.of (y3.trans y4))) pv⟩
def spStb : Sp := fun vs H Q _ => ∃ s : Stp, vs = [.str (lineS s)] ∧ s.Good ∧ ∀ (v : V) (H' : Hp), Evl.Ex H H' → StpT H' v s → Q v H'
theorem ok_stb (T : Txt K mg) (F : FnP K "_step_told_by" s__step_told_by f fd) (C__deed_told_by : Cal P w K mg base CX0 5 "_deed_told_by" ["line"] spDtb) :
    Fg P w K mg base CX0 6 f fd ["line"] spStb := by
  refine fg_of F sc__step_told_by (fun vs H Q E h => ?_) (fun cdv A outer s H vs Q E hr h => ⟨_, (PSs.nox (pss_cons (ps_if (pt_cmpR (u_eq (K := K) hr) (pv 0) (pe_globS rfl T.g_SYNC) (nomark _))
  (pss_one (ps_ret (pe_tup (pa_cons (pe_globS rfl T.g_SYNC) pa_nil)))) pss_nil)
  (pss_cons (ps_if (pt_tru (K := K) (pe_bm PySem.F.plainAttrs_str PySem.F.slot_str_startswith PySem.F.type_str_startswith mt_startswith (pv 0) (pa_cons (pe_globS rfl T.g_TOGETHER) pa_nil)) (by intro _; rfl))
  (pss_one (ps_ret (pe_tup (pa_cons pe_str (pa_cons (pe_callTy (u_tup (K := K)) (by rfl) T.f_tuple (by decide +kernel) (pa_cons (pe_lc (own := [("part", 1)]) rfl sc__step_told_by.nd (pi_seq (K := K) (pe_bm PySem.F.plainAttrs_str PySem.F.slot_str_split PySem.F.type_str_split mt_split (pe_slice (u_sl (K := K)) (pv 0) (po_some (pe_callB (u_len (K := K)) (by rfl) T.f_len (by decide +kernel) (pa_cons (pe_globS rfl T.g_TOGETHER) pa_nil))) po_none) (pa_cons pe_str pa_nil))) (blkOk_by (own := [("part", 1)]) (N := ["line", "part"]) (sc := defScope s__step_told_by) (by decide +kernel)) (fun _ _ _ _ _ => (pg_name (i := 1) sc__step_told_by.nd rfl (by first | exact Or.inl rfl | exact Or.inr rfl))) (fun _ _ _ _ _ => pts_nil) (fun _ _ _ _ _ => (pe_cal C__deed_told_by hr.le pass0 (pa_cons (pv 1) pa_nil)))) pa_nil)) pa_nil))))) pss_nil)
  (pss_one (ps_ret (pe_cal C__deed_told_by hr.le pass0 (pa_cons (pv 0) pa_nil))))))), ?_⟩)
  · obtain ⟨s, rfl, _⟩ := h
    rfl
  · obtain ⟨s, rfl, g, q⟩ := h
    cases s with
    | sync =>
      refine ⟨_, rfl, .inl ⟨rfl, _, rfl, ?_⟩⟩
      rw [decide_eq_true (show V.str (lineS .sync) = V.str "sync" from rfl)]
      refine iteT ⟨by show 1 ≤ sizeLine; decide, fun l nl => q _ _ (Evl.Ex.new nl) ⟨l, rfl, upd_same⟩⟩
    | one d =>
      refine ⟨_, rfl, .inl ⟨rfl, _, rfl, ?_⟩⟩
      rw [decide_eq_false (show ¬ V.str (lineS (.one d)) = V.str "sync" from fun z => not_sync g (V.str.inj z))]
      refine iteF ⟨_, rfl, rfl, _, _, rfl, rfl, ?_⟩
      rw [show Txt.startswith (lineS (.one d)) "all: " = false from starts_no g]
      exact ⟨_, rfl, iteF ⟨_, rfl, d, rfl, g, fun v H1 e1 a => q v H1 e1 a⟩⟩
    | all ds =>
      refine ⟨_, rfl, .inl ⟨rfl, _, rfl, ?_⟩⟩
      rw [decide_eq_false (show ¬ V.str (lineS (.all ds)) = V.str "sync" from fun z => all_not_sync _ (V.str.inj z))]
      refine iteF ⟨_, rfl, rfl, _, _, rfl, rfl, ?_⟩
      rw [show Txt.startswith (lineS (.all ds)) "all: " = true from starts_yes _]
      have bl := join_le "; " (ds.map lineD) (m := 20000) fun t ht => by
        obtain ⟨d, hd, rfl⟩ := List.mem_map.mp ht
        exact lineD_len (g.2.2 d hd).1
      have e : (Txt.join "; " (ds.map lineD)).length = ((ds.map lineD).map (·.length)).sum + ((ds.map lineD).length - 1) * 2 := size_glued "; " _
      have l4 := g.2.1
      rw [List.length_map (as := ds)] at bl e
      have ll : (lineS (.all ds)).length ≤ 100000 := by
        show ("all: " ++ Txt.join "; " (ds.map lineD) : Str).length ≤ _
        rw [PySem.strLen_append]
        have : ("all: " : Str).length = 5 := by decide +kernel
        omega
      refine ⟨_, rfl, iteT ?_⟩
      refine .inl ⟨_, rfl, .str "all: ", _, rfl, ⟨by decide, rfl⟩, _, rfl, .inr (.inr ⟨_, rfl, Nat.le_trans ll (by decide), ?_⟩)⟩
      rw [show cutS (lineS (.all ds)) (some ((("all: " : Str).length : Nat) : Int)) none = Txt.join "; " (ds.map lineD) from cut_pre "all: " _ rfl]
      refine ⟨rfl, _, _, rfl, rfl, rfl, by rw [sizeLine_eq]; omega, fun S nS => ?_⟩
      have gd : ∀ d ∈ ds, d.Good := fun d hd => (g.2.2 d hd).1
      have ne : ds ≠ [] := fun z => by have := g.1; rw [z] at this; exact absurd this (by decide)
      rw [all_split gd ne]
      have e0 := Evl.Ex.new (o := .lst ((ds.map lineD).map V.str)) nS
      have h0 := upd_same (H := H) (a := S) (o := .lst ((ds.map lineD).map V.str))
      generalize upd H S (.lst ((ds.map lineD).map V.str)) = H0 at e0 h0 ⊢
      refine ⟨S, rfl, ⟨_, SqL.of h0⟩, fun D hD => ?_⟩
      refine lc_new (At := DdT) (fun z e => z.tx e) (walk_list (K := K) (a := S) (xs := (ds.map lineD).map V.str)) ds (by rw [List.length_map, List.length_map]) (by rw [List.length_map, List.length_map]; omega) hD (fun H' ex => SqL.of (ex _ _ h0)) ?_ ?_
      · rintro i x G G' d R Nx hp ex ⟨rfl, hx⟩ k
        rw [List.map_map, List.getElem?_map, hp] at hx
        obtain rfl := Option.some.inj hx
        exact ⟨rfl, _, rfl, d, rfl, gd d (List.mem_of_getElem? hp), fun v H4 e4 a => k v H4 e4 a⟩
      · intro H3 vs ex hv pv
        refine ⟨D, _, rfl, .inl ⟨SqL.of hv, fun s3 n3 => ?_⟩⟩
        have y3 := Evl.Ex.new (o := .tup vs) n3
        refine ⟨by show 2 ≤ sizeLine; decide, fun s4 n4 => ?_⟩
        have y4 := Evl.Ex.new (o := .tup [V.str "all", .ref s3]) n4
        exact q _ _ (((e0.trans ex).trans y3).trans y4) ⟨s4, s3, vs, rfl, upd_same, y4 _ _ upd_same, px_mono (fun _ _ z => z.tx (.of (y3.trans y4))) pv⟩
def spRead (K : PySem.W.Frag) : Sp := fun vs H Q _ => ∃ s : Stp, vs = [.str (lineS s)] ∧ s.Good ∧ ∀ (v : V) (H' : Hp), Evl.Ex H H' → StpT H' v s → Q v H'
theorem ok_read (T : Txt K mg) (F : FnP K "read_deed" s_read_deed f fd) (C__step_told_by : Cal P w K mg base CX0 6 "_step_told_by" ["line"] spStb) (C__is_step : Cal P w K mg base CX0 7 "_is_step" ["value"] (spStep K)) (C__line : Cal P w K mg base CX0 4 "_line" ["step"] (spLine K)) :
    Fg P w K mg base CX0 8 f fd ["line"] (spRead K) := by
  refine fg_of F sc_read_deed (fun vs H Q E h => ?_) (fun cdv A outer s H vs Q E hr h => ⟨_, (PSs.nox (pss_cons (ps_if (pt_not (pt_tru (K := K) (pe_callB (u_isi (K := K)) (by rfl) T.f_isinstance (by decide +kernel) (pa_cons (pv 0) (pa_cons (pe_bltn (v := .ty "str") rfl T.f_str (by decide +kernel) rfl) pa_nil))) (by intro _; rfl)))
  (pss_one ps_never) pss_nil)
  (pss_cons (ps_set (i := 1) sc_read_deed.nd rfl (by first | exact Or.inl rfl | exact Or.inr rfl) (pe_cal C__step_told_by hr.le pass0 (pa_cons (pv 0) pa_nil)))
  (pss_cons (ps_if (PW.pt (pw_or (pt_not (pt_tru (K := K) (pe_cal C__is_step hr.le pass0 (pa_cons (pv 1) pa_nil)) (by intro _; rfl))) (pw_or1 (pt_cmpR (u_ne (K := K) hr) (pe_cal C__line hr.le pass0 (pa_cons (pv 1) pa_nil)) (pv 0) (nomark _)))))
  (pss_one ps_never) pss_nil)
  (pss_one (ps_ret (pv 1))))))), ?_⟩)
  · obtain ⟨s, rfl, _⟩ := h
    rfl
  · obtain ⟨s, rfl, g, q⟩ := h
    refine ⟨_, rfl, _, _, _, _, true, rfl, .ty _, .base (.str _), kit_ty (by decide +kernel), true, rfl, iteF ?_⟩
    refine ⟨_, rfl, s, rfl, g, fun v H1 e1 a => ?_⟩
    refine ⟨_, rfl, v, s, rfl, a.at, g, fun H2 e2 => ⟨true, rfl, iteF ?_⟩⟩
    refine ⟨_, rfl, v, s, rfl, (a.ex e2).at, g, fun H3 e3 => ⟨_, rfl, .inl ⟨rfl, _, rfl, same_ne ?_⟩⟩⟩
    exact ⟨_, rfl, q v H3 ((e1.trans e2).trans e3) ((a.ex e2).ex e3)⟩
end
end K19
/-! the law's draws of octets and steps -/
namespace K19
open PySem PySem.Spec PyProof.Rows L2 VB BM
section
variable {P : Program} {w : World} {K : PySem.W.Frag} {mg : Str → Option Value} {base : Heap} {f : Addr} {fd : FuncData}
theorem fresh_b {b a : Addr} {H H' : Hp} {c : Int} (e : Exb b H H') (B : Box H' b c) (h : H' a = none) : H a = none := by
  cases z : H a with
  | none => rfl
  | some u =>
    have n : a ≠ b := fun x => by
      obtain ⟨d, m, k, t, h2, _⟩ := B
      rw [x, h2] at h
      cases h
    rw [e a u n z] at h
    cases h
theorem cat_i {a b : Addr} {xs ys : List Int} {H : Hp} {Q : VK} (h1 : H a = some (.lst (IV xs))) (h2 : H b = some (.lst (IV ys))) (z : xs.length + ys.length ≤ 1000) (q : RL (IV (xs ++ ys)) H Q) : rAddU K (.ref a) (.ref b) H Q :=
  cat_l h1 h2 (by rw [iv_len, iv_len]; exact z) (by rw [← iv_app]; exact q)
theorem cut_n {xs : List V} {j : Nat} : cutV xs none (some (j : Int)) = xs.take j := by
  unfold cutV
  have e : HT.sIx xs.length xs.length (some (j : Int)) = min j xs.length := HT.sIx_nat _ _ _
  rw [e]
  show (xs.drop 0).take (min j xs.length - 0) = _
  rw [List.drop_zero, Nat.sub_zero]
  by_cases h : j ≤ xs.length
  · rw [Nat.min_eq_left h]
  · rw [Nat.min_eq_right (by omega), List.take_length, List.take_of_length_le (by omega)]
def spRunO : Sp := fun vs H Q _ => ∃ (bx : Addr) (c : Int), vs = [.ref bx] ∧ Box H bx c ∧ c < 50000000 ∧ ∀ (a : Addr) (os : List Int) (H' : Hp), Oct os → 1 ≤ os.length → os.length ≤ 48 → H a = none → H' a = some (.lst (IV os)) → Exb bx H H' → Box H' bx (c + 50) → Q (.ref a) H'
theorem ok_runo (T : Txt K mg) (F : FnP K "_law_run_octets" s__law_run_octets f fd) (C__law_take : Cal P w K mg base CX0 1 "_law_take" ["_law_box_here", "_law_many"] spTake) (C__law_octet : Cal P w K mg base CX0 2 "_law_octet" ["_law_box_here"] spOctL) : Fg P w K mg base CX0 3 f fd ["_law_box_here"] spRunO := by
  refine fg_of F sc__law_run_octets (fun vs H Q E h => ?_) (fun cdv A outer s H vs Q E hr h => ⟨_, (PSs.nox (pss_cons (ps_par (i := 1) (j := 2) rfl sc__law_run_octets.nd rfl rfl (by decide) rfl rfl (pa_cons (pe_cal C__law_take hr.le pass0 (pa_cons (pv 0) (pa_cons pe_int pa_nil))) (pa_cons (pe_lst pa_nil) pa_nil)) (by rfl))
  (pss_cons (ps_if (pt_cmpR (u_eq (K := K) hr) (pv 1) pe_int (nomark _))
  (pss_one (ps_ret (pe_op (u_mul (K := K)) (pe_lst (pa_cons (pe_cal C__law_octet hr.le pass0 (pa_cons (pv 0) pa_nil)) pa_nil)) (pe_ix (u_ix (K := K)) (pe_lst (pa_cons pe_int (pa_cons pe_int (pa_cons pe_int (pa_cons pe_int (pa_cons pe_int (pa_cons pe_int (pa_cons pe_int pa_nil)))))))) (pe_cal C__law_take hr.le pass0 (pa_cons (pv 0) (pa_cons pe_int pa_nil))) (fun _ _ => rfl))))) pss_nil)
  (pss_cons (ps_if (pt_cmpR (u_eq (K := K) hr) (pv 1) pe_int (nomark _))
  (pss_cons (ps_set (i := 3) sc__law_run_octets.nd rfl (by first | exact Or.inl rfl | exact Or.inr rfl) (pe_cal C__law_take hr.le pass0 (pa_cons (pv 0) (pa_cons pe_int pa_nil))))
  (pss_one (ps_ret (pe_lc (own := [("_law_k", 4)]) rfl sc__law_run_octets.nd (pi_range1 rfl T.f_range (pa_cons (pe_ix (u_ix (K := K)) (pe_lst (pa_cons pe_int (pa_cons pe_int (pa_cons (pe_op (u_add (K := K)) pe_int (pe_cal C__law_take hr.le pass0 (pa_cons (pv 0) (pa_cons pe_int pa_nil)))) pa_nil)))) (pe_cal C__law_take hr.le pass0 (pa_cons (pv 0) (pa_cons pe_int pa_nil))) (fun _ _ => rfl)) pa_nil)) (blkOk_by (own := [("_law_k", 4)]) (N := ["_law_box_here", "_law_way", "_law_found", "_law_start", "_law_k"]) (sc := defScope s__law_run_octets) (by decide +kernel)) (fun _ _ _ _ _ => (pg_name (i := 4) sc__law_run_octets.nd rfl (by first | exact Or.inl rfl | exact Or.inr rfl))) (fun _ _ _ _ _ => pts_nil) (fun _ _ _ _ _ => (pe_op (u_add (K := K)) (pv 3) (pv 4))))))) pss_nil)
  (pss_cons (ps_for PassesOwn.never rfl (pi_range1 rfl T.f_range (pa_cons (pe_op (u_add (K := K)) pe_int (pe_cal C__law_take hr.le pass0 (pa_cons (pv 0) (pa_cons pe_int pa_nil)))) pa_nil)) (pg_name (i := 4) sc__law_run_octets.nd rfl (by first | exact Or.inl rfl | exact Or.inr rfl))
  (pss_one (ps_set (i := 2) sc__law_run_octets.nd rfl (by first | exact Or.inl rfl | exact Or.inr rfl) (pe_op (u_add (K := K)) (pv 2) (pe_op (u_mul (K := K)) (pe_lst (pa_cons (pe_cal C__law_octet hr.le pass0 (pa_cons (pv 0) pa_nil)) pa_nil)) (pe_ix (u_ix (K := K)) (pe_lst (pa_cons pe_int (pa_cons pe_int (pa_cons pe_int (pa_cons pe_int (pa_cons pe_int (pa_cons pe_int (pa_cons pe_int pa_nil)))))))) (pe_cal C__law_take hr.le pass0 (pa_cons (pv 0) (pa_cons pe_int pa_nil))) (fun _ _ => rfl)))))))
  (pss_one (ps_ret (pe_slice (u_sl (K := K)) (pv 2) po_none (po_some pe_int))))))))), ?_⟩)
  · obtain ⟨bx, c, rfl, _⟩ := h
    rfl
  · obtain ⟨bx, c, rfl, B, hc, q⟩ := h
    refine ⟨_, rfl, bx, 5, c, rfl, B, by decide, by decide, by omega, fun r H1 r0 r5 e1 B1 => ⟨by show 0 ≤ sizeLine; decide, fun l nl => ?_⟩⟩
    refine ⟨_, _, rfl, ?_⟩
    have xL := Evl.Ex.new (o := .lst ([] : List V)) nl
    have hL := upd_same (H := H1) (a := l) (o := .lst ([] : List V))
    have lb : l ≠ bx := B1.at nl
    have B1 := B1.ex xL
    have e1 := e1.trans (Exb.of xL)
    generalize upd H1 l (.lst ([] : List V)) = H2 at e1 B1 hL ⊢
    refine ⟨_, rfl, .inl ⟨rfl, _, rfl, ?_⟩⟩
    rw [dki]
    by_cases w0 : r = 0
    · rw [decide_eq_true w0]
      refine iteT ⟨_, rfl, bx, c + 1, rfl, B1, by omega, fun o H3 o0 o1 e3 B3 => ⟨by show 1 ≤ sizeLine; decide, fun z nz => ⟨by show 7 ≤ sizeLine; decide, fun y ny => ?_⟩⟩⟩
      have hz := upd_same (H := H3) (a := z) (o := .lst [V.int o])
      have xz := Evl.Ex.new (o := .lst [V.int o]) nz
      have zb : z ≠ bx := B3.at nz
      have yy := Evl.Ex.new (o := .lst (IV [48, 2, 1, 9, 10, 47, 3])) ny
      have yb : y ≠ bx := (B3.ex xz).at ny
      refine ⟨_, rfl, bx, 7, c + 1 + 2, rfl, (B3.ex xz).ex yy, by decide, by decide, by omega, fun r2 H4 a0 a7 e4 B4 => ?_⟩
      refine ix_l (xs := IV [48, 2, 1, 9, 10, 47, 3]) (e4 _ _ yb upd_same) a0 a7 fun v hv => ?_
      obtain ⟨k, rfl, k1, k48⟩ := iv_mem (p := fun n => 1 ≤ n ∧ n ≤ 48) hv (by simp)
      have E := ((e1.trans e3).trans (Exb.of (xz.trans yy))).trans e4
      refine rep_l (e4 _ _ zb (yy _ _ hz)) (by omega) (by omega) fun p H5 np e5 h5 => ?_
      refine q p _ _ (fun x hx => ?_) (by rw [List.length_replicate]; omega) (by rw [List.length_replicate]; omega) (fresh_b E B4 np) h5 (E.trans (Exb.of e5)) ((B4.ex e5).le (by omega))
      rw [List.eq_of_mem_replicate hx]
      exact ⟨o0, o1⟩
    rw [decide_eq_false w0]
    refine iteF ⟨_, rfl, .inl ⟨rfl, _, rfl, ?_⟩⟩
    rw [dki]
    by_cases w1 : r = 1
    · rw [decide_eq_true w1]
      refine iteT ⟨_, rfl, bx, 200, c + 1, rfl, B1, by decide, by decide, by omega, fun st H3 s0 s1 e3 B3 => ?_⟩
      refine ⟨_, rfl, bx, 48, c + 2, rfl, B3.le (by omega), by decide, by decide, by omega, fun r3 H4 b0 b48 e4 B4 => .inl ⟨_, _, rfl, rfl, by show 3 ≤ sizeLine; decide, fun y ny => ?_⟩⟩
      have yy := Evl.Ex.new (o := .lst (IV [48, 2, 1 + r3])) ny
      have yb : y ≠ bx := B4.at ny
      refine ⟨_, rfl, bx, 3, c + 3, rfl, (B4.ex yy).le (by omega), by decide, by decide, by omega, fun r2 H5 a0 a3 e5 B5 => ?_⟩
      refine ix_l (xs := IV [48, 2, 1 + r3]) (e5 _ _ yb upd_same) a0 a3 fun v hv => ?_
      obtain ⟨k, rfl, k1, k48⟩ := iv_mem (p := fun n => 1 ≤ n ∧ n ≤ 48) hv (by simp; omega)
      have E := ((((e1.trans e3).trans e4).trans (Exb.of yy))).trans e5
      refine ⟨k, rfl, by omega, by omega, fun D hD => ?_⟩
      obtain ⟨n, hn, n1, n48⟩ : ∃ n : Nat, k.toNat = n ∧ 1 ≤ n ∧ n ≤ 48 := ⟨_, rfl, by omega, by omega⟩
      rw [hn]
      refine lc_range (lo := 0) (n := n) (fun i H' => i ≤ n ∧ Evl.Ex H5 H' ∧ ∃ os : List Int, os.length = i ∧ Oct os ∧ H' D = some (.lst (IV os))) ⟨by omega, Evl.Ex.new hD, [], rfl, (fun z hz => by cases hz), upd_same⟩ ?_ ?_
      · rintro i G hi ⟨_, eG, os, lo, oo, hG⟩
        refine ⟨rfl, _, rfl, _, rfl, .inl ⟨_, _, rfl, rfl, _, hG, by rw [iv_len]; exact Evl.sz_lt (by omega), by omega, Evl.Ex.mut eG hD, os ++ [st + (0 + (i : Int))], by rw [List.length_append, lo]; rfl, oct_snoc oo (by omega) (by omega), ?_⟩⟩
        rw [upd_same, iv_app]
        rfl
      · rintro G ⟨_, eG, os, lo, oo, hG⟩
        exact q D os G oo (by omega) (by omega) (fresh_b E B5 hD) hG (E.trans (Exb.of eG)) ((B5.ex eG).le (by omega))
    rw [decide_eq_false w1]
    refine iteF ?_
    refine ⟨_, rfl, bx, 9, c + 1, rfl, B1, by decide, by decide, by omega, fun r3 H3 b0 b9 e3 B3 => .inl ⟨_, _, rfl, rfl, ?_⟩⟩
    obtain ⟨n, hn, n1, n9⟩ : ∃ n : Nat, (1 + r3).toNat = n ∧ 1 ≤ n ∧ n ≤ 9 := ⟨_, rfl, by omega, by omega⟩
    refine ⟨1 + r3, rfl, by omega, by omega, ?_⟩
    rw [hn]
    have hL := e3 _ _ lb hL
    refine for_range (lo := 0) (n := n) (fun i σ H' => i ≤ n ∧ Exb bx H H' ∧ Box H' bx (c + 2 + 3 * (i : Int)) ∧ ∃ (g : Addr) (os : List Int) (v4 : Option V), σ = [some (.ref bx), some (.int r), some (.ref g), none, v4] ∧ H' g = some (.lst (IV os)) ∧ Oct os ∧ i ≤ os.length ∧ os.length ≤ 10 * i) ⟨by omega, e1.trans e3, B3.le (by omega), l, [], _, rfl, hL, (fun z hz => by cases hz), Nat.le_refl _, Nat.le_refl _⟩ ?_ ?_
    · rintro i σ G hi ⟨_, eG, BG, g, os, v4, rfl, hg, oo, l1, l2⟩
      have gb : g ≠ bx := fun x => by
        obtain ⟨d, m, k, t, h2, _⟩ := BG
        rw [x, h2] at hg
        have := congrArg List.length (HO.lst.inj (Option.some.inj hg))
        have z : IV os = [V.int d, .bl t, .int m, .int k] := (HO.lst.inj (Option.some.inj hg)).symm
        have : (IV os)[1]? = some (V.bl t) := by rw [z]; rfl
        obtain ⟨o, _, ho⟩ := iv_get this
        cases ho
      refine ⟨_, rfl, _, rfl, bx, c + 2 + 3 * (i : Int), rfl, BG, by omega, fun o G3 o0 o1 e3 B3 => ⟨by show 1 ≤ sizeLine; decide, fun z nz => ⟨by show 7 ≤ sizeLine; decide, fun y ny => ?_⟩⟩⟩
      have hz := upd_same (H := G3) (a := z) (o := .lst [V.int o])
      have xz := Evl.Ex.new (o := .lst [V.int o]) nz
      have zb : z ≠ bx := B3.at nz
      have yy := Evl.Ex.new (o := .lst (IV [1, 2, 1, 3, 10, 1, 5])) ny
      have yb : y ≠ bx := (B3.ex xz).at ny
      refine ⟨_, rfl, bx, 7, c + 2 + 3 * (i : Int) + 2, rfl, (B3.ex xz).ex yy, by decide, by decide, by omega, fun r2 G4 a0 a7 e4 B4 => ?_⟩
      refine ix_l (xs := IV [1, 2, 1, 3, 10, 1, 5]) (e4 _ _ yb upd_same) a0 a7 fun v hv => ?_
      obtain ⟨k, rfl, k1, k10⟩ := iv_mem (p := fun n => 1 ≤ n ∧ n ≤ 10) hv (by simp)
      have E := (e3.trans (Exb.of (xz.trans yy))).trans e4
      refine rep_l (e4 _ _ zb (yy _ _ hz)) (by omega) (by omega) fun p G5 np e5 h5 => ?_
      refine cat_i (e5 _ _ (E _ _ gb hg)) h5 (by rw [List.length_replicate]; omega) fun p2 G6 np2 e6 h6 => ?_
      refine ⟨by omega, (eG.trans E).trans (Exb.of (e5.trans e6)), ((B4.ex e5).ex e6).le (by omega), p2, _, _, rfl, h6, fun x hx => ?_, by rw [List.length_append, List.length_replicate]; omega, by rw [List.length_append, List.length_replicate]; omega⟩
      rcases List.mem_append.mp hx with hx | hx
      · exact oo x hx
      · rw [List.eq_of_mem_replicate hx]
        exact ⟨o0, o1⟩
    · rintro σ G ⟨_, eG, BG, g, os, v4, rfl, hg, oo, l1, l2⟩
      refine ⟨_, rfl, 48, rfl, .inl ⟨g, _, rfl, SqL.of hg, fun p np => ?_⟩⟩
      have ec : cutV (IV os) none (some 48) = IV (os.take 48) := by
        rw [show (48 : Int) = ((48 : Nat) : Int) from rfl, cut_n]
        exact (List.map_take ..).symm
      rw [ec]
      have yp := Evl.Ex.new (o := .lst (IV (os.take 48))) np
      exact q p (os.take 48) _ (fun x hx => oo x (List.mem_of_mem_take hx)) (by rw [List.length_take]; omega) (by rw [List.length_take]; omega) (fresh_b eG BG np) upd_same (eG.trans (Exb.of yp)) ((BG.ex yp).le (by omega))
end
end K19
/-! the law's draws of steps -/
namespace K19
open PySem PySem.Spec PyProof.Rows L2 VB BM
def Dd.Sm (d : Dd) : Prop := ∀ q, Pt.path q ∈ d.ps → q.length ≤ 9
def Stp.Sm : Stp → Prop
  | .one d => d.Sm
  | .all ds => ∀ d ∈ ds, d.Sm
  | .sync => True
/-- the shapes of deeds -/
theorem dd_cases {d : Dd} (g : d.Good) : (∃ p n os, d = ⟨2, [.path p, .size n, .octs os]⟩) ∨ (∃ p n, d = ⟨3, [.path p, .size n]⟩) ∨ (∃ i p q, (i = 4 ∨ i = 5) ∧ d = ⟨i, [.path p, .path q]⟩) ∨ (∃ i p, (i = 0 ∨ i = 1 ∨ i = 6) ∧ d = ⟨i, [.path p]⟩) ∨ (∃ i x, (i = 7 ∨ i = 8) ∧ d = ⟨i, [.name x]⟩) := by
  obtain ⟨i, ps⟩ := d
  have hi : i < 9 := g.i9
  have hk : ps.map Pt.kd = tabK.getD i [] := g.kd
  have sh : ∀ c : Str, ∀ p : Pt, p.kd = c → (c = "path" → ∃ q, p = .path q) ∧ (c = "size" → ∃ n, p = .size n) ∧ (c = "octets" → ∃ os, p = .octs os) ∧ (c = "name" → ∃ x, p = .name x) := by
    rintro c p rfl
    cases p with
    | path q => exact ⟨fun _ => ⟨q, rfl⟩, fun z => absurd (show ("path" : Str) = "size" from z) (by decide), fun z => absurd (show ("path" : Str) = "octets" from z) (by decide), fun z => absurd (show ("path" : Str) = "name" from z) (by decide)⟩
    | size q => exact ⟨fun z => absurd (show ("size" : Str) = "path" from z) (by decide), fun _ => ⟨q, rfl⟩, fun z => absurd (show ("size" : Str) = "octets" from z) (by decide), fun z => absurd (show ("size" : Str) = "name" from z) (by decide)⟩
    | octs q => exact ⟨fun z => absurd (show ("octets" : Str) = "path" from z) (by decide), fun z => absurd (show ("octets" : Str) = "size" from z) (by decide), fun _ => ⟨q, rfl⟩, fun z => absurd (show ("octets" : Str) = "name" from z) (by decide)⟩
    | name q => exact ⟨fun z => absurd (show ("name" : Str) = "path" from z) (by decide), fun z => absurd (show ("name" : Str) = "size" from z) (by decide), fun z => absurd (show ("name" : Str) = "octets" from z) (by decide), fun _ => ⟨q, rfl⟩⟩
  have l1 : ∀ c : Str, ps.map Pt.kd = [c] → ∃ p, ps = [p] ∧ p.kd = c := fun c h => by
    match ps, h with
    | [p], h => exact ⟨p, rfl, (List.cons.inj h).1⟩
  have l2 : ∀ c e : Str, ps.map Pt.kd = [c, e] → ∃ p q, ps = [p, q] ∧ p.kd = c ∧ q.kd = e := fun c e h => by
    match ps, h with
    | [p, q], h => exact ⟨p, q, rfl, (List.cons.inj h).1, (List.cons.inj (List.cons.inj h).2).1⟩
  have l3 : ∀ c e f : Str, ps.map Pt.kd = [c, e, f] → ∃ p q r, ps = [p, q, r] ∧ p.kd = c ∧ q.kd = e ∧ r.kd = f := fun c e f h => by
    match ps, h with
    | [p, q, r], h => exact ⟨p, q, r, rfl, (List.cons.inj h).1, (List.cons.inj (List.cons.inj h).2).1, (List.cons.inj (List.cons.inj (List.cons.inj h).2).2).1⟩
  match i, hi with
  | 0, _ =>
    obtain ⟨p, rfl, h⟩ := l1 _ hk
    obtain ⟨q, rfl⟩ := (sh _ p h).1 rfl
    exact .inr (.inr (.inr (.inl ⟨0, q, .inl rfl, rfl⟩)))
  | 1, _ =>
    obtain ⟨p, rfl, h⟩ := l1 _ hk
    obtain ⟨q, rfl⟩ := (sh _ p h).1 rfl
    exact .inr (.inr (.inr (.inl ⟨1, q, .inr (.inl rfl), rfl⟩)))
  | 2, _ =>
    obtain ⟨p, s, o, rfl, h, h2, h3⟩ := l3 _ _ _ hk
    obtain ⟨q, rfl⟩ := (sh _ p h).1 rfl
    obtain ⟨n, rfl⟩ := (sh _ s h2).2.1 rfl
    obtain ⟨os, rfl⟩ := (sh _ o h3).2.2.1 rfl
    exact .inl ⟨q, n, os, rfl⟩
  | 3, _ =>
    obtain ⟨p, s, rfl, h, h2⟩ := l2 _ _ hk
    obtain ⟨q, rfl⟩ := (sh _ p h).1 rfl
    obtain ⟨n, rfl⟩ := (sh _ s h2).2.1 rfl
    exact .inr (.inl ⟨q, n, rfl⟩)
  | 4, _ =>
    obtain ⟨p, s, rfl, h, h2⟩ := l2 _ _ hk
    obtain ⟨q, rfl⟩ := (sh _ p h).1 rfl
    obtain ⟨n, rfl⟩ := (sh _ s h2).1 rfl
    exact .inr (.inr (.inl ⟨4, q, n, .inl rfl, rfl⟩))
  | 5, _ =>
    obtain ⟨p, s, rfl, h, h2⟩ := l2 _ _ hk
    obtain ⟨q, rfl⟩ := (sh _ p h).1 rfl
    obtain ⟨n, rfl⟩ := (sh _ s h2).1 rfl
    exact .inr (.inr (.inl ⟨5, q, n, .inr rfl, rfl⟩))
  | 6, _ =>
    obtain ⟨p, rfl, h⟩ := l1 _ hk
    obtain ⟨q, rfl⟩ := (sh _ p h).1 rfl
    exact .inr (.inr (.inr (.inl ⟨6, q, .inr (.inr rfl), rfl⟩)))
  | 7, _ =>
    obtain ⟨p, rfl, h⟩ := l1 _ hk
    obtain ⟨q, rfl⟩ := (sh _ p h).2.2.2 rfl
    exact .inr (.inr (.inr (.inr ⟨7, q, .inl rfl, rfl⟩)))
  | 8, _ =>
    obtain ⟨p, rfl, h⟩ := l1 _ hk
    obtain ⟨q, rfl⟩ := (sh _ p h).2.2.2 rfl
    exact .inr (.inr (.inr (.inr ⟨8, q, .inr rfl, rfl⟩)))
theorem good_w {p : List Str} {n : Int} {os : List Int} (hp : ∀ x ∈ p, Nm x) (hl : p.length ≤ 40) (n0 : 0 ≤ n) (n1 : n ≤ 96) (oo : Oct os) (o1 : 1 ≤ os.length) (o2 : os.length ≤ 48) : (⟨2, [.path p, .size n, .octs os]⟩ : Dd).Good :=
  ⟨(by decide : 2 < 9), rfl, fun x hx => by
    rcases List.mem_cons.mp hx with rfl | hx
    · exact ⟨hp, hl⟩
    · rcases List.mem_cons.mp hx with rfl | hx
      · exact ⟨n0, n1⟩
      · rw [List.mem_singleton.mp hx]
        exact ⟨oo, o1, o2⟩⟩
theorem good_c {p : List Str} {n : Int} (hp : ∀ x ∈ p, Nm x) (hl : p.length ≤ 40) (n0 : 0 ≤ n) (n1 : n ≤ 96) : (⟨3, [.path p, .size n]⟩ : Dd).Good :=
  ⟨(by decide : 3 < 9), rfl, fun x hx => by
    rcases List.mem_cons.mp hx with rfl | hx
    · exact ⟨hp, hl⟩
    · rw [List.mem_singleton.mp hx]
      exact ⟨n0, n1⟩⟩
theorem good_2 {i : Nat} {p q : List Str} (hi : i = 4 ∨ i = 5) (hp : ∀ x ∈ p, Nm x) (hl : p.length ≤ 40) (hq : ∀ x ∈ q, Nm x) (hm : q.length ≤ 40) : (⟨i, [.path p, .path q]⟩ : Dd).Good :=
  ⟨by show i < 9; omega, by rcases hi with rfl | rfl <;> rfl, fun x hx => by
    rcases List.mem_cons.mp hx with rfl | hx
    · exact ⟨hp, hl⟩
    · rw [List.mem_singleton.mp hx]
      exact ⟨hq, hm⟩⟩
theorem good_1 {i : Nat} {p : List Str} (hi : i = 0 ∨ i = 1 ∨ i = 6) (hp : ∀ x ∈ p, Nm x) (hl : p.length ≤ 40) : (⟨i, [.path p]⟩ : Dd).Good :=
  ⟨by show i < 9; omega, by rcases hi with rfl | rfl | rfl <;> rfl, fun x hx => by
    rw [List.mem_singleton.mp hx]
    exact ⟨hp, hl⟩⟩
theorem good_n {i : Nat} {x : Str} (hi : i = 7 ∨ i = 8) (hx : Nm x) : (⟨i, [.name x]⟩ : Dd).Good :=
  ⟨by show i < 9; omega, by rcases hi with rfl | rfl <;> rfl, fun z hz => by
    rw [List.mem_singleton.mp hz]
    exact hx⟩
theorem sm_w {i : Nat} {p : List Str} {r : List Pt} (h : p.length ≤ 9) (hr : ∀ q, Pt.path q ∈ r → q.length ≤ 9) : (⟨i, .path p :: r⟩ : Dd).Sm := fun q hq => by
  rcases List.mem_cons.mp hq with e | hq
  · rw [Pt.path.inj e]
    exact h
  · exact hr q hq
theorem k_in : ∀ x ∈ (["write", "write", "cut", "link", "move", "file", "dir", "drop"] : List Str), ∃ i, i < 7 ∧ x = tabW.getD i "" := by decide +kernel
theorem k_w : ∀ i, i < 7 → (tabW.getD i "" = "write" ↔ i = 2) ∧ (tabW.getD i "" = "cut" ↔ i = 3) ∧ inV (V.str (tabW.getD i "")) [V.str "link", V.str "move"] = decide (i = 4 ∨ i = 5) := by decide +kernel
theorem dks (a b : Str) : decide (V.str a = V.str b) = decide (a = b) := by
  by_cases h : a = b
  · rw [h, decide_eq_true rfl, decide_eq_true rfl]
  · rw [decide_eq_false h, decide_eq_false fun z => h (V.str.inj z)]
section
variable {P : Program} {w : World} {K : PySem.W.Frag} {mg : Str → Option Value} {base : Heap} {f : Addr} {fd : FuncData}
def spPlain : Sp := fun vs H Q _ => ∃ (bx : Addr) (c : Int), vs = [.ref bx] ∧ Box H bx c ∧ c < 40000000 ∧ ∀ (v : V) (d : Dd) (H' : Hp), d.Good → d.i < 7 → d.Sm → DdT H' v d → Exb bx H H' → Box H' bx (c + 300) → Q v H'
theorem ok_plain (T : Txt K mg) (F : FnP K "_law_plain_step" s__law_plain_step f fd) (C__law_take : Cal P w K mg base CX0 1 "_law_take" ["_law_box_here", "_law_many"] spTake) (C__law_path : Cal P w K mg base CX0 3 "_law_path" ["_law_box_here"] spPathL) (C__law_run_octets : Cal P w K mg base CX0 3 "_law_run_octets" ["_law_box_here"] spRunO) :
    Fg P w K mg base CX0 4 f fd ["_law_box_here"] spPlain := by
  refine fg_of F sc__law_plain_step (fun vs H Q E h => ?_) (fun cdv A outer s H vs Q E hr h => ⟨_, (PSs.nox (pss_cons (ps_set (i := 1) sc__law_plain_step.nd rfl (by first | exact Or.inl rfl | exact Or.inr rfl) (pe_ix (u_ix (K := K)) (pe_lst (pa_cons pe_str (pa_cons pe_str (pa_cons pe_str (pa_cons pe_str (pa_cons pe_str (pa_cons pe_str (pa_cons pe_str (pa_cons pe_str pa_nil))))))))) (pe_cal C__law_take hr.le pass0 (pa_cons (pv 0) (pa_cons pe_int pa_nil))) (fun _ _ => rfl)))
  (pss_cons (ps_if (pt_cmpR (u_eq (K := K) hr) (pv 1) pe_str (nomark _))
  (pss_cons (ps_set (i := 2) sc__law_plain_step.nd rfl (by first | exact Or.inl rfl | exact Or.inr rfl) (pe_ix (u_ix (K := K)) (pe_lst (pa_cons pe_int (pa_cons pe_int (pa_cons pe_int (pa_cons pe_int (pa_cons (pe_cal C__law_take hr.le pass0 (pa_cons (pv 0) (pa_cons pe_int pa_nil))) pa_nil)))))) (pe_cal C__law_take hr.le pass0 (pa_cons (pv 0) (pa_cons pe_int pa_nil))) (fun _ _ => rfl)))
  (pss_one (ps_ret (pe_tup (pa_cons (pv 1) (pa_cons (pe_cal C__law_path hr.le pass0 (pa_cons (pv 0) pa_nil)) (pa_cons (pv 2) (pa_cons (pe_callTy (u_tup (K := K)) (by rfl) T.f_tuple (by decide +kernel) (pa_cons (pe_cal C__law_run_octets hr.le pass0 (pa_cons (pv 0) pa_nil)) pa_nil)) pa_nil)))))))) pss_nil)
  (pss_cons (ps_if (pt_cmpR (u_eq (K := K) hr) (pv 1) pe_str (nomark _))
  (pss_one (ps_ret (pe_tup (pa_cons (pv 1) (pa_cons (pe_cal C__law_path hr.le pass0 (pa_cons (pv 0) pa_nil)) (pa_cons (pe_ix (u_ix (K := K)) (pe_lst (pa_cons pe_int (pa_cons pe_int (pa_cons pe_int (pa_cons (pe_cal C__law_take hr.le pass0 (pa_cons (pv 0) (pa_cons pe_int pa_nil))) (pa_cons pe_int pa_nil)))))) (pe_cal C__law_take hr.le pass0 (pa_cons (pv 0) (pa_cons pe_int pa_nil))) (fun _ _ => rfl)) pa_nil)))))) pss_nil)
  (pss_cons (ps_if (pt_cmpR (u_in (K := K)) (pv 1) (pe_lst (pa_cons pe_str (pa_cons pe_str pa_nil))) (by rfl))
  (pss_one (ps_ret (pe_tup (pa_cons (pv 1) (pa_cons (pe_cal C__law_path hr.le pass0 (pa_cons (pv 0) pa_nil)) (pa_cons (pe_cal C__law_path hr.le pass0 (pa_cons (pv 0) pa_nil)) pa_nil)))))) pss_nil)
  (pss_one (ps_ret (pe_tup (pa_cons (pv 1) (pa_cons (pe_cal C__law_path hr.le pass0 (pa_cons (pv 0) pa_nil)) pa_nil)))))))))), ?_⟩)
  · obtain ⟨bx, c, rfl, _⟩ := h
    rfl
  · obtain ⟨bx, c, rfl, B, hc, q⟩ := h
    refine ⟨by show 8 ≤ sizeLine; decide, fun l nl => ?_⟩
    have y := Evl.Ex.new (o := .lst ((["write", "write", "cut", "link", "move", "file", "dir", "drop"] : List Str).map V.str)) nl
    refine ⟨_, rfl, bx, 8, c, rfl, B.ex y, by decide, by decide, by omega, fun r H1 r0 r8 e1 B1 => ?_⟩
    refine ix_l (xs := (["write", "write", "cut", "link", "move", "file", "dir", "drop"] : List Str).map V.str) (e1 _ _ (B.at nl) upd_same) r0 r8 fun v hv => ?_
    obtain ⟨x, mx, rfl⟩ := List.mem_map.mp hv
    obtain ⟨i, i7, rfl⟩ := k_in x mx
    obtain ⟨kw, kc, kl⟩ := k_w i i7
    have e1 := (Exb.of (a := bx) y).trans e1
    refine ⟨_, rfl, .inl ⟨rfl, _, rfl, ?_⟩⟩
    rw [dks]
    by_cases h2 : i = 2
    · rw [decide_eq_true (kw.mpr h2)]
      refine iteT ⟨_, rfl, bx, 97, c + 1, rfl, B1, by decide, by decide, by omega, fun r2 H2 a0 a97 e2 B2 => ⟨by show 5 ≤ sizeLine; decide, fun y ny => ?_⟩⟩
      have yy := Evl.Ex.new (o := .lst (IV [0, 96, 9, 10, r2])) ny
      refine ⟨_, rfl, bx, 5, c + 2, rfl, (B2.ex yy).le (by omega), by decide, by decide, by omega, fun r3 H3 b0 b5 e3 B3 => ?_⟩
      refine ix_l (xs := IV [0, 96, 9, 10, r2]) (e3 _ _ (B2.at ny) upd_same) b0 b5 fun v hv => ?_
      obtain ⟨n, rfl, n0, n96⟩ := iv_mem (p := fun n => 0 ≤ n ∧ n ≤ 96) hv (by simp; omega)
      have E3 := ((e1.trans e2).trans (Exb.of yy)).trans e3
      refine ⟨_, rfl, _, rfl, bx, c + 3, rfl, B3.le (by omega), by omega, fun a p H4 hp pl ha e4 B4 => ?_⟩
      refine ⟨_, rfl, _, rfl, bx, c + 103, rfl, B4.le (by omega), by omega, fun o os H5 oo o1 o48 no ho e5 B5 => ?_⟩
      refine ⟨o, _, rfl, .inl ⟨SqL.of ho, fun t nt => ?_⟩⟩
      have xt := Evl.Ex.new (o := .tup (IV os)) nt
      refine ⟨by show 4 ≤ sizeLine; decide, fun u nu => ?_⟩
      have xu := Evl.Ex.new (o := .tup [V.str (tabW.getD i ""), .ref a, .int n, .ref t]) nu
      subst h2
      exact q _ ⟨2, [.path p, .size n, .octs os]⟩ _ (good_w hp (by omega) n0 n96 oo o1 o48) (by show 2 < 7; decide) (sm_w pl (fun q hq => by simp at hq)) ⟨u, [.ref a, .int n, .ref t], rfl, upd_same, .cons ⟨a, rfl, xu _ _ (xt _ _ (TEx.exb e5 B4 _ _ ha))⟩ (.cons rfl (.cons ⟨t, rfl, xu _ _ upd_same⟩ .nil))⟩
        (((E3.trans e4).trans e5).trans (Exb.of (xt.trans xu))) (((B5.ex xt).ex xu).le (by omega))
    rw [decide_eq_false fun z => h2 (kw.mp z)]
    refine iteF ⟨_, rfl, .inl ⟨rfl, _, rfl, ?_⟩⟩
    rw [dks]
    by_cases h3 : i = 3
    · rw [decide_eq_true (kc.mpr h3)]
      refine iteT ⟨_, rfl, _, rfl, bx, c + 1, rfl, B1, by omega, fun a p H4 hp pl ha e4 B4 => ?_⟩
      refine ⟨_, rfl, bx, 97, c + 101, rfl, B4.le (by omega), by decide, by decide, by omega, fun r2 H2 a0 a97 e2 B2 => ⟨by show 5 ≤ sizeLine; decide, fun y ny => ?_⟩⟩
      have yy := Evl.Ex.new (o := .lst (IV [0, 96, 16, r2, 9])) ny
      refine ⟨_, rfl, bx, 5, c + 102, rfl, (B2.ex yy).le (by omega), by decide, by decide, by omega, fun r3 H3 b0 b5 e3 B3 => ?_⟩
      refine ix_l (xs := IV [0, 96, 16, r2, 9]) (e3 _ _ (B2.at ny) upd_same) b0 b5 fun v hv => ?_
      obtain ⟨n, rfl, n0, n96⟩ := iv_mem (p := fun n => 0 ≤ n ∧ n ≤ 96) hv (by simp; omega)
      have E3 := (((e1.trans e4).trans e2).trans (Exb.of yy)).trans e3
      refine ⟨by show 3 ≤ sizeLine; decide, fun u nu => ?_⟩
      have xu := Evl.Ex.new (o := .tup [V.str (tabW.getD i ""), .ref a, .int n]) nu
      subst h3
      exact q _ ⟨3, [.path p, .size n]⟩ _ (good_c hp (by omega) n0 n96) (by show 3 < 7; decide) (sm_w pl (fun q hq => by simp at hq)) ⟨u, [.ref a, .int n], rfl, upd_same, .cons ⟨a, rfl, xu _ _ (TEx.exb e3 (B2.ex yy) _ _ (yy _ _ (TEx.exb e2 B4 _ _ ha)))⟩ (.cons rfl .nil)⟩
        (E3.trans (Exb.of xu)) ((B3.ex xu).le (by omega))
    rw [decide_eq_false fun z => h3 (kc.mp z)]
    refine iteF ⟨_, rfl, by show 2 ≤ sizeLine; decide, fun l2 nl2 => ?_⟩
    have yl := Evl.Ex.new (o := .lst [V.str "link", .str "move"]) nl2
    refine ⟨l2, _, rfl, .inl (SqL.of upd_same), rfl, rfl, _, rfl, ?_⟩
    rw [show (if false = true then !inV (V.str (tabW.getD i "")) [V.str "link", V.str "move"] else inV (V.str (tabW.getD i "")) [V.str "link", V.str "move"]) = decide (i = 4 ∨ i = 5) from kl]
    have B1 := B1.ex yl
    have e1 := e1.trans (Exb.of yl)
    generalize upd H1 l2 (.lst [V.str "link", .str "move"]) = H2 at e1 B1 ⊢
    by_cases h4 : i = 4 ∨ i = 5
    · rw [decide_eq_true h4]
      refine iteT ⟨_, rfl, _, rfl, bx, c + 1, rfl, B1, by omega, fun a p H4 hp pl ha e4 B4 => ?_⟩
      refine ⟨_, rfl, bx, c + 101, rfl, B4.le (by omega), by omega, fun b p' H5 hp' pl' hb e5 B5 => ?_⟩
      refine ⟨by show 3 ≤ sizeLine; decide, fun u nu => ?_⟩
      have xu := Evl.Ex.new (o := .tup [V.str (tabW.getD i ""), .ref a, .ref b]) nu
      exact q _ ⟨i, [.path p, .path p']⟩ _ (good_2 h4 hp (by omega) hp' (by omega)) i7 (sm_w pl (fun q hq => by
        rw [Pt.path.inj (List.mem_singleton.mp hq)]
        exact pl')) ⟨u, [.ref a, .ref b], rfl, upd_same, .cons ⟨a, rfl, xu _ _ (TEx.exb e5 B4 _ _ ha)⟩ (.cons ⟨b, rfl, xu _ _ hb⟩ .nil)⟩
        (((e1.trans e4).trans e5).trans (Exb.of xu)) ((B5.ex xu).le (by omega))
    rw [decide_eq_false h4]
    refine iteF ⟨_, rfl, _, rfl, bx, c + 1, rfl, B1, by omega, fun a p H4 hp pl ha e4 B4 => ?_⟩
    refine ⟨by show 2 ≤ sizeLine; decide, fun u nu => ?_⟩
    have xu := Evl.Ex.new (o := .tup [V.str (tabW.getD i ""), .ref a]) nu
    exact q _ ⟨i, [.path p]⟩ _ (good_1 (by omega) hp (by omega)) i7 (sm_w pl (fun q hq => by cases hq)) ⟨u, [.ref a], rfl, upd_same, .cons ⟨a, rfl, xu _ _ ha⟩ .nil⟩
      ((e1.trans e4).trans (Exb.of xu)) ((B4.ex xu).le (by omega))
def spStepL : Sp := fun vs H Q _ => ∃ (bx : Addr) (c : Int), vs = [.ref bx] ∧ Box H bx c ∧ c < 30000000 ∧ ∀ (v : V) (s : Stp) (H' : Hp), s.Good → s.Sm → StpT H' v s → Exb bx H H' → Box H' bx (c + 1300) → Q v H'
theorem ok_lstep (T : Txt K mg) (F : FnP K "_law_step" s__law_step f fd) (C__law_take : Cal P w K mg base CX0 1 "_law_take" ["_law_box_here", "_law_many"] spTake) (C__law_name : Cal P w K mg base CX0 2 "_law_name" ["_law_box_here"] spNameL) (C__law_plain_step : Cal P w K mg base CX0 4 "_law_plain_step" ["_law_box_here"] spPlain) :
    Fg P w K mg base CX0 5 f fd ["_law_box_here"] spStepL := by
  refine fg_of F sc__law_step (fun vs H Q E h => ?_) (fun cdv A outer s H vs Q E hr h => ⟨_, (PSs.nox (pss_cons (ps_set (i := 1) sc__law_step.nd rfl (by first | exact Or.inl rfl | exact Or.inr rfl) (pe_cal C__law_take hr.le pass0 (pa_cons (pv 0) (pa_cons pe_int pa_nil))))
  (pss_cons (ps_if (pt_cmpR op_lt (pv 1) pe_int (nomark _))
  (pss_one (ps_ret (pe_tup (pa_cons pe_str (pa_cons (pe_callTy (u_tup (K := K)) (by rfl) T.f_tuple (by decide +kernel) (pa_cons (pe_lc (own := [("_law_k", 2)]) rfl sc__law_step.nd (pi_range1 rfl T.f_range (pa_cons (pe_op (u_add (K := K)) pe_int (pe_cal C__law_take hr.le pass0 (pa_cons (pv 0) (pa_cons pe_int pa_nil)))) pa_nil)) (blkOk_by (own := [("_law_k", 2)]) (N := ["_law_box_here", "_law_way", "_law_k"]) (sc := defScope s__law_step) (by decide +kernel)) (fun _ _ _ _ _ => (pg_name (i := 2) sc__law_step.nd rfl (by first | exact Or.inl rfl | exact Or.inr rfl))) (fun _ _ _ _ _ => pts_nil) (fun _ _ _ _ _ => (pe_cal C__law_plain_step hr.le pass0 (pa_cons (pv 0) pa_nil)))) pa_nil)) pa_nil))))) pss_nil)
  (pss_cons (ps_if (pt_cmpR op_lt (pv 1) pe_int (nomark _))
  (pss_one (ps_ret (pe_tup (pa_cons (pe_ix (u_ix (K := K)) (pe_lst (pa_cons pe_str (pa_cons pe_str pa_nil))) (pe_op op_sub (pv 1) pe_int) (fun _ _ => rfl)) (pa_cons (pe_cal C__law_name hr.le pass0 (pa_cons (pv 0) pa_nil)) pa_nil))))) pss_nil)
  (pss_one (ps_ret (pe_ifExp (pt_cmpR (u_eq (K := K) hr) (pv 1) pe_int (nomark _)) (pe_tup (pa_cons pe_str pa_nil)) (pe_cal C__law_plain_step hr.le pass0 (pa_cons (pv 0) pa_nil))))))))), ?_⟩)
  · obtain ⟨bx, c, rfl, _⟩ := h
    rfl
  · obtain ⟨bx, c, rfl, B, hc, q⟩ := h
    refine ⟨_, rfl, bx, 9, c, rfl, B, by decide, by decide, by omega, fun r H1 r0 r9 e1 B1 => ?_⟩
    refine ⟨_, rfl, _, _, rfl, rfl, _, rfl, ?_⟩
    by_cases w2 : r < 2
    · rw [decide_eq_true w2]
      refine iteT ⟨_, rfl, bx, 3, c + 1, rfl, B1, by decide, by decide, by omega, fun r2 H2 a0 a3 e2 B2 => .inl ⟨_, _, rfl, rfl, 2 + r2, rfl, by omega, by omega, fun D hD => ?_⟩⟩
      obtain ⟨n, hn, n2, n4⟩ : ∃ n : Nat, (2 + r2).toNat = n ∧ 2 ≤ n ∧ n ≤ 4 := ⟨_, rfl, by omega, by omega⟩
      rw [hn]
      refine lc_draw (At := DdT) (fun z e => z.tx e) (walk_range (lo := 0) (n := n)) (bx := bx) (c := c + 2) (k := 300) (fun _ d => d.Good ∧ d.i < 7 ∧ d.Sm) (by omega) hD (B2.le (by omega)) (fun _ _ => trivial) ?_ ?_
      · rintro i x G G' R Nx hi eG BG ⟨rfl, rfl⟩ k
        exact ⟨rfl, _, rfl, bx, _, rfl, BG, by omega, fun v d G2 gd d7 ds dt e3 B3 => k v G2 d ⟨gd, d7, ds⟩ e3 B3 dt⟩
      · intro G vs ds ld gd eG BG hv pv
        refine ⟨D, _, rfl, .inl ⟨SqL.of hv, fun t nt => ?_⟩⟩
        have xt := Evl.Ex.new (o := .tup vs) nt
        refine ⟨by show 2 ≤ sizeLine; decide, fun u nu => ?_⟩
        have xu := Evl.Ex.new (o := .tup [V.str "all", .ref t]) nu
        have gm : ∀ d ∈ ds, d.Good ∧ d.i < 7 ∧ d.Sm := fun d hd => by
          obtain ⟨j, hj⟩ := List.getElem?_of_mem hd
          exact gd j d hj
        exact q _ (.all ds) _ ⟨by omega, by omega, fun d hd => ⟨(gm d hd).1, (gm d hd).2.1⟩⟩ (fun d hd => (gm d hd).2.2) ⟨u, t, vs, rfl, upd_same, xu _ _ upd_same, px_mono (fun _ _ z => z.tx (.of (xt.trans xu))) pv⟩ (((e1.trans e2).trans eG).trans (Exb.of (xt.trans xu))) (((BG.ex xt).ex xu).le (by omega))
    rw [decide_eq_false w2]
    refine iteF ⟨_, rfl, _, _, rfl, rfl, _, rfl, ?_⟩
    by_cases w4 : r < 4
    · rw [decide_eq_true w4]
      refine iteT ⟨by show 2 ≤ sizeLine; decide, fun l nl => ?_⟩
      have y := Evl.Ex.new (o := .lst ((["keep", "let"] : List Str).map V.str)) nl
      refine ⟨_, rfl, _, _, rfl, rfl, ix_l (xs := (["keep", "let"] : List Str).map V.str) upd_same (by omega) (by show _ < (2 : Int); omega) fun v hv => ?_⟩
      obtain ⟨x, mx, rfl⟩ := List.mem_map.mp hv
      obtain ⟨i, hi, rfl⟩ : ∃ i, (i = 7 ∨ i = 8) ∧ x = tabW.getD i "" := by
        rcases List.mem_cons.mp mx with rfl | mx
        · exact ⟨7, .inl rfl, rfl⟩
        · rw [List.mem_singleton.mp mx]
          exact ⟨8, .inr rfl, rfl⟩
      refine ⟨_, rfl, bx, c + 1, rfl, B1.ex y, by omega, fun x H2 nx e2 B2 => ⟨by show 2 ≤ sizeLine; decide, fun u nu => ?_⟩⟩
      have xu := Evl.Ex.new (o := .tup [V.str (tabW.getD i ""), .str x]) nu
      exact q _ (.one ⟨i, [.name x]⟩) _ (good_n hi nx) (fun q hq => by simp at hq) ⟨u, [.str x], rfl, upd_same, .cons rfl .nil⟩ (((e1.trans (Exb.of y)).trans e2).trans (Exb.of xu)) ((B2.ex xu).le (by omega))
    rw [decide_eq_false w4]
    refine iteF ⟨_, rfl, .inl ⟨rfl, _, rfl, ?_⟩⟩
    rw [dki]
    by_cases w5 : r = 4
    · rw [decide_eq_true w5]
      refine iteT ⟨by show 1 ≤ sizeLine; decide, fun u nu => ?_⟩
      have xu := Evl.Ex.new (o := .tup [V.str "sync"]) nu
      exact q _ .sync _ trivial trivial ⟨u, rfl, upd_same⟩ (e1.trans (Exb.of xu)) ((B1.ex xu).le (by omega))
    · rw [decide_eq_false w5]
      exact iteF ⟨_, rfl, bx, c + 1, rfl, B1, by omega, fun v d H2 gd d7 ds dt e2 B2 => q v (.one d) H2 gd ds dt (e1.trans e2) (B2.le (by omega))⟩
end
end K19
/-! the law's words and lines -/
namespace K19
open PySem PySem.Spec PyProof.Rows L2 VB BM
theorem canAll_of : ∀ {ds : List PyData}, (∀ d ∈ ds, d.canLay0 = true) → PyData.canLayAll0 ds = true
  | [], _ => by simp [PyData.canLayAll0]
  | d :: ds, h => by simp [PyData.canLayAll0, h d (List.mem_cons_self ..), canAll_of fun z hz => h z (List.mem_cons_of_mem _ hz)]
theorem shp_of {d : PyData} (c : d.canLay0 = true) (h : d.depth ≤ 60) : SeqAt.shaped d = true := by
  unfold SeqAt.shaped
  rw [c, decide_eq_true (by omega)]
  rfl
def RnL (H : Hp) (a : Addr) (r : Int × Int) : Prop := H a = some (.lst [.int r.1, .int r.2])
theorem can_str {x : Str} (h : Nm x) : (PyData.str x).canLay0 = true := by
  simp only [PyData.canLay0]
  show x.cps.all (· < 0x110000) = true
  rw [Array.all_eq_true]
  intro i hi
  have := h.2.2 x.cps[i] (by simp)
  exact decide_eq_true (by omega)
theorem pr_upd {G : Hp} {x : Addr} {o : HO} : ∀ {as : List Addr} {rs : List (Int × Int)}, Paired (RnL G) as rs → x ∉ as → Paired (RnL (upd G x o)) as rs
  | _, _, .nil, _ => .nil
  | a :: as, _, .cons h t, n => .cons (by
      show upd G x o a = _
      rw [upd_ne fun z => n (by rw [z]; exact List.mem_cons_self ..)]
      exact h) (pr_upd t fun z => n (List.mem_cons_of_mem _ z))
section
variable {P : Program} {w : World} {K : PySem.W.Frag} {mg : Str → Option Value} {base : Heap} {f : Addr} {fd : FuncData}
/-- found != [] -/
theorem ne_nil {H : Hp} {L e : Addr} {as : List Addr} {rs : List (Int × Int)} {Q : VK} (hL : H L = some (.lst (as.map V.ref))) (he : H e = some (.lst [])) (PG : Paired (RnL H) as rs) (q : Q (.bl (!decide (rs = []))) H) : rNeU K (.ref L) (.ref e) H Q := by
  have dp : ∀ {as : List Addr} {rs : List (Int × Int)}, Paired (RnL H) as rs → DpAll K H (as.map V.ref) (rs.map fun r => PyData.list [.int r.1, .int r.2]) := by
    intro as rs p
    induction p with
    | nil => exact .nil
    | cons h t ih => exact .cons (.lst (SqL.of h) (.cons (.int _) (.cons (.int _) .nil))) ih
  have cl : (PyData.list (rs.map fun r => PyData.list [.int r.1, .int r.2])).canLay0 = true := canAll_of fun d hd => by
    obtain ⟨r, _, rfl⟩ := List.mem_map.mp hd
    rfl
  have dl : (PyData.list (rs.map fun r => PyData.list [.int r.1, .int r.2])).depth ≤ 60 := by
    simp only [PyData.depth]
    refine Nat.le_trans (Nat.succ_le_succ (depAll (h := 1) fun d hd => ?_)) (by decide)
    obtain ⟨r, _, rfl⟩ := List.mem_map.mp hd
    simp [PyData.depth, PyData.depthAll]
  refine .inr ⟨.list (rs.map fun r => .list [.int r.1, .int r.2]), .list [], .lst (SqL.of hL) (dp PG), .lst (SqL.of he) .nil, shp_of cl dl, shp_of rfl (by decide), ?_⟩
  have ev : PyData.eqv (.list (rs.map fun r => PyData.list [.int r.1, .int r.2])) (.list []) = decide (rs = []) := by
    cases rs with
    | nil => simp [PyData.eqv, PyData.eqvAll]
    | cons r rs => simp [PyData.eqv, PyData.eqvAll]
  rw [ev]
  exact q
def spLRuns (K : PySem.W.Frag) : Sp := fun vs H Q _ => ∃ (a : Addr) (os : List Int), vs = [.ref a] ∧ H a = some (.tup (IV os)) ∧ os.length ≤ 1000 ∧ ∀ (L : Addr) (as : List Addr) (H' : Hp), Evl.Ex H H' → H' L = some (.lst (as.map V.ref)) → Paired (RnL H') as (runsL os) → Q (.ref L) H'
theorem ok_lruns (T : Txt K mg) (F : FnP K "_law_runs" s__law_runs f fd) : Fg P w K mg base CX0 1 f fd ["_law_octets"] (spLRuns K) := by
  refine fg_of F sc__law_runs (fun vs H Q E h => ?_) (fun cdv A outer s H vs Q E hr h => ⟨_, (PSs.nox (pss_cons (ps_set (i := 1) sc__law_runs.nd rfl (by first | exact Or.inl rfl | exact Or.inr rfl) (pe_lst pa_nil))
  (pss_cons (ps_for PassesOwn.never rfl (pi_seq (K := K) (pv 0)) (pg_name (i := 2) sc__law_runs.nd rfl (by first | exact Or.inl rfl | exact Or.inr rfl))
  (pss_one (ps_if (PW.pt (pw_and (pt_cmpR (u_ne (K := K) hr) (pv 1) (pe_lst pa_nil) (nomark _)) (pw_and1 (pt_cmpR (u_eq (K := K) hr) (pe_ix (u_ix (K := K)) (pe_ix (u_ix (K := K)) (pv 1) (pe_un un_neg pe_int) (fun _ _ => rfl)) pe_int (fun _ _ => rfl)) (pv 2) (nomark _)))))
  (pss_one (ps_asg (pe_op (u_add (K := K)) (pe_ix (u_ix (K := K)) (pe_ix (u_ix (K := K)) (pv 1) (pe_un un_neg pe_int) (fun _ _ => rfl)) pe_int (fun _ _ => rfl)) pe_int) (pg_sub (pe_ix (u_ix (K := K)) (pv 1) (pe_un un_neg pe_int) (fun _ _ => rfl)) pe_int set_list))) (pss_one (ps_expr (pe_bm PySem.F.plainAttrs_list PySem.F.slot_list_append PySem.F.type_list_append mt_append (pv 1) (pa_cons (pe_lst (pa_cons (pv 2) (pa_cons pe_int pa_nil))) pa_nil)))))))
  (pss_one (ps_ret (pv 1)))))), ?_⟩)
  · obtain ⟨a, os, rfl, _⟩ := h
    rfl
  · obtain ⟨a, os, rfl, ha, hl, q⟩ := h
    refine ⟨by show 0 ≤ sizeLine; decide, fun L nL => ?_⟩
    have xL := Evl.Ex.new (o := .lst ([] : List V)) nL
    have hL := upd_same (H := H) (a := L) (o := .lst ([] : List V))
    refine seq_var (t := true) rfl (Sv.tup (xL _ _ ha)) fun J wk => ?_
    rw [iv_len] at wk
    refine for_it wk (fun i σ H' => i ≤ os.length ∧ Evl.Ex H H' ∧ ∃ (as : List Addr) (v2 : Option V), σ = [some (.ref a), some (.ref L), v2] ∧ H' L = some (.lst (as.map V.ref)) ∧ Paired (RnL H') as (runsL (os.take i)) ∧ as.Nodup ∧ L ∉ as ∧ ∀ y ∈ as, H y = none) ⟨by omega, xL, [], _, rfl, hL, .nil, .nil, (fun z => nomatch z), fun _ z => nomatch z⟩ (fun i σ H' _ h => by obtain ⟨_, e, _⟩ := h; exact Sv.tup (e _ _ ha)) ?_ ?_
    · rintro i x σ G0 G hi ⟨_, eG, as, v2, rfl, hG, PG, nd, nl, fr⟩ ⟨rfl, hx⟩
      obtain ⟨o, ho, rfl⟩ := iv_get hx
      have hi : i < os.length := hi
      have tk : os.take (i + 1) = os.take i ++ [o] := by rw [List.take_add_one, ho]; rfl
      obtain ⟨bd, _⟩ := run_bd (os.take i)
      have la : as.length ≤ 1000 := by
        have := pr_len PG
        rw [List.length_take] at bd
        omega
      refine ⟨_, rfl, by show 0 ≤ sizeLine; decide, fun e ne => ?_⟩
      have xe := Evl.Ex.new (o := .lst ([] : List V)) ne
      have eG := eG.trans xe
      have PG' : Paired (RnL (upd G e (.lst []))) as (runsL (os.take i)) := pr_mono (fun _ _ z => xe _ _ z) PG
      have hG := xe _ _ hG
      refine ne_nil hG upd_same PG' ⟨_, rfl, ?_⟩
      generalize upd G e (.lst []) = G at eG PG' hG ⊢
      have app : runsL (os.take (i + 1)) = runsL (os.take i) ++ [(o, 1)] → ∀ {D' : Ends}, (∀ σ' H', (i + 1 ≤ os.length ∧ Evl.Ex H H' ∧ ∃ (as : List Addr) (v2 : Option V), σ' = [some (.ref a), some (.ref L), v2] ∧ H' L = some (.lst (as.map V.ref)) ∧ Paired (RnL H') as (runsL (os.take (i + 1))) ∧ as.Nodup ∧ L ∉ as ∧ ∀ y ∈ as, H y = none) → D'.nx σ' H') →
          tDrop (tBM K "list" rAppend (tVar 1) (tCons (tLst (tCons (tVar 2) (tCons (tC (V.int 1)) tNil))) tNil)) D' [some (.ref a), some (.ref L), some (.int o)] G := by
        intro es D' k
        refine ⟨_, rfl, .inl ⟨rfl, _, SqL.of hG⟩, _, rfl, by show 2 ≤ sizeLine; decide, fun p np => ?_⟩
        have xp := Evl.Ex.new (o := .lst [V.int o, .int 1]) np
        have pL : p ≠ L := fun z => by rw [z, hG] at np; cases np
        have pa : p ∉ as := fun z => by
          obtain ⟨j, hj⟩ := List.getElem?_of_mem z
          obtain ⟨r, _, hr⟩ := pr_at PG' hj
          have hr : G p = some (.lst [.int r.1, .int r.2]) := hr
          rw [np] at hr
          cases hr
        refine ⟨L, _, _, rfl, rfl, xp _ _ hG, ?_, k _ _ ⟨hi, Evl.Ex.mut (eG.trans xp) nL, as ++ [p], _, rfl, ?_, ?_, ?_, ?_, ?_⟩⟩
        · rw [List.length_map]
          exact Evl.sz_lt (by omega)
        · rw [upd_same, List.map_append]
          rfl
        · rw [es]
          refine pr_app ?_ (.cons ?_ .nil)
          · exact pr_upd (pr_mono (fun _ _ z => xp _ _ z) PG') nl
          · show upd (upd G p _) L _ p = _
            rw [upd_ne pL, upd_same]
        · exact List.nodup_append.mpr ⟨nd, (by simp), fun x hx y hy => by rw [List.mem_singleton.mp hy]; exact fun z => pa (z ▸ hx)⟩
        · intro z
          rcases List.mem_append.mp z with z | z
          · exact nl z
          · exact pL (List.mem_singleton.mp z).symm
        · intro y hy
          rcases List.mem_append.mp hy with hy | hy
          · exact fr y hy
          · rw [List.mem_singleton.mp hy]
            cases z : H p with
            | none => rfl
            | some u => rw [eG _ _ z] at np; cases np
      rcases snoc_or (runsL (os.take i)) with er | ⟨init, r, er⟩
      · rw [er]
        refine iteF (app ?_ fun _ _ z => z)
        rw [tk, runs_snoc, er]
        rfl
      · rw [er, decide_eq_false (by simp)]
        rw [er] at PG'
        obtain ⟨as', y, rfl, P1, ry⟩ := pr_split PG'
        have hy : G y = some (.lst [.int r.1, .int r.2]) := ry
        have al : atI ((as' ++ [y]).map V.ref) (-1) = some (.ref y) := by rw [List.map_append]; exact at_last
        refine iteT ⟨_, rfl, 1, rfl, Sv.ix (x := V.ref y) (Sv.lst hG) al (Sv.ix (x := V.int r.1) (Sv.lst hy) (atI_nat (j := 0) rfl) ⟨_, rfl, .inl ⟨rfl, _, rfl, ?_⟩⟩)⟩
        rw [dki]
        have es : runsL (os.take (i + 1)) = if r.1 = o then init ++ [(o, r.2 + 1)] else init ++ [r] ++ [(o, 1)] := by rw [tk, runs_snoc, er, runStep_last]
        by_cases h : r.1 = o
        · rw [decide_eq_true h]
          rw [if_pos h] at es
          have yn : y ∉ as' := fun z => (List.nodup_append.mp nd).2.2 y z y (List.mem_singleton_self _) rfl
          have yL : y ≠ L := fun z => nl (z ▸ List.mem_append_right _ (List.mem_singleton_self _))
          refine iteT ⟨_, rfl, 1, rfl, Sv.ix (x := V.ref y) (Sv.lst hG) al (Sv.ix (x := V.int r.2) (Sv.lst hy) (atI_nat (j := 1) rfl) (.inl ⟨_, _, rfl, rfl, ?_⟩))⟩
          refine ⟨_, rfl, 1, rfl, Sv.ix (x := V.ref y) (Sv.lst hG) al ⟨y, _, _, 1, rfl, rfl, hy, rfl, ?_⟩⟩
          refine ⟨hi, Evl.Ex.mut eG (fr y (List.mem_append_right _ (List.mem_singleton_self _))), as' ++ [y], _, rfl, ?_, ?_, nd, nl, fr⟩
          · rw [upd_ne (Ne.symm yL)]
            exact hG
          · rw [es]
            refine pr_app (pr_upd P1 yn) (.cons ?_ .nil)
            show upd G y _ y = _
            rw [upd_same, h]
            rfl
        · rw [decide_eq_false h]
          rw [if_neg h] at es
          exact iteF (app (by rw [es, er]) fun _ _ z => z)
    · rintro σ H' ⟨_, e, as, v2, rfl, h1, P1, _⟩
      rw [List.take_length] at P1
      exact ⟨_, rfl, q L as H' e h1 P1⟩
def spRw (K : PySem.W.Frag) : Sp := fun vs H Q _ => ∃ (a : Addr) (r : Int × Int), vs = [.ref a] ∧ RnL H a r ∧ 0 ≤ r.1 ∧ r.1 ≤ 255 ∧ 0 ≤ r.2 ∧ r.2 ≤ 255 ∧ Q (.str (runW r)) H
theorem ok_lrunw (T : Txt K mg) (F : FnP K "_law_run_word" s__law_run_word f fd) : Fg P w K mg base CX0 1 f fd ["_law_run"] (spRw K) := by
  refine fg_of F sc__law_run_word (fun vs H Q E h => ?_) (fun cdv A outer s H vs Q E hr h => ⟨_, (PSs.nox (pss_one (ps_ret (pe_ifExp (pt_cmpR (u_eq (K := K) hr) (pe_ix (u_ix (K := K)) (pv 0) pe_int (fun _ _ => rfl)) pe_int (nomark _)) (pe_callTy call_str_int (by rfl) T.f_str (by decide +kernel) (pa_cons (pe_ix (u_ix (K := K)) (pv 0) pe_int (fun _ _ => rfl)) pa_nil)) (pe_op L2.op_add_str (pe_op L2.op_add_str (pe_callTy call_str_int (by rfl) T.f_str (by decide +kernel) (pa_cons (pe_ix (u_ix (K := K)) (pv 0) pe_int (fun _ _ => rfl)) pa_nil)) pe_str) (pe_callTy call_str_int (by rfl) T.f_str (by decide +kernel) (pa_cons (pe_ix (u_ix (K := K)) (pv 0) pe_int (fun _ _ => rfl)) pa_nil))))))), ?_⟩)
  · obtain ⟨a, r, rfl, _⟩ := h
    rfl
  · obtain ⟨a, ⟨o, c⟩, rfl, ha, h1, h2, h3, h4, q⟩ := h
    have ha : H a = some (.lst [.int o, .int c]) := ha
    have h1 : 0 ≤ o := h1
    have h2 : o ≤ 255 := h2
    have h3 : 0 ≤ c := h3
    have h4 : c ≤ 255 := h4
    obtain ⟨l1, g1⟩ := tx_len h1 h2
    obtain ⟨l2, g2⟩ := tx_len h3 h4
    have q : Q (.str (if c = 1 then txI o else ((Str.empty ++ txI o) ++ "*") ++ txI c)) H := q
    rw [emp_app] at q
    have i0 : atI [V.int o, V.int c] 0 = some (.int o) := atI_nat (j := 0) rfl
    have i1 : atI [V.int o, V.int c] 1 = some (.int c) := atI_nat (j := 1) rfl
    refine ⟨_, rfl, Sv.ix (x := V.int c) (Sv.lst ha) i1 (.inl ⟨rfl, _, rfl, ?_⟩)⟩
    rw [dki]
    by_cases h : c = 1
    · rw [decide_eq_true h]
      rw [if_pos h] at q
      exact iteT ⟨_, rfl, Sv.ix (x := V.int o) (Sv.lst ha) i0 ⟨o, rfl, g1, q⟩⟩
    · rw [decide_eq_false h]
      rw [if_neg h] at q
      have l1 : (Str.ofString (toString o)).length ≤ 20 := l1
      have l2 : (Str.ofString (toString c)).length ≤ 20 := l2
      have l3 : ("*" : Str).length = 1 := rfl
      refine iteF ⟨_, rfl, Sv.ix (x := V.int o) (Sv.lst ha) i0 ⟨o, rfl, g1, _, _, rfl, rfl, ?_, ?_⟩⟩
      · rw [sizeLine_eq]
        omega
      · refine ⟨_, rfl, Sv.ix (x := V.int c) (Sv.lst ha) i1 ⟨c, rfl, g2, _, _, rfl, rfl, ?_, q⟩⟩
        rw [PySem.strLen_append, sizeLine_eq]
        omega
theorem dp_strs {H : Hp} : ∀ p : List Str, DpAll K H (p.map V.str) (p.map PyData.str)
  | [] => .nil
  | x :: p => .cons (.str x) (dp_strs p)
theorem can_strs {p : List Str} (g : ∀ x ∈ p, Nm x) : (PyData.tuple (p.map .str)).canLay0 = true := canAll_of fun d hd => by
  obtain ⟨x, hx, rfl⟩ := List.mem_map.mp hd
  exact can_str (g x hx)
theorem dep_strs (p : List Str) : (PyData.tuple (p.map .str)).depth ≤ 1 := by
  simp only [PyData.depth]
  refine Nat.succ_le_succ (depAll (h := 0) fun d hd => ?_)
  obtain ⟨x, _, rfl⟩ := List.mem_map.mp hd
  simp [PyData.depth]
/-- path == () -/
theorem eq_unit {H : Hp} {a e : Addr} {p : List Str} {Q : VK} (g : ∀ x ∈ p, Nm x) (h : H a = some (.tup (p.map V.str))) (he : H e = some (.tup [])) (q : Q (.bl (decide (p = []))) H) : rEqU K (.ref a) (.ref e) H Q := by
  refine .inr ⟨.tuple (p.map .str), .tuple [], .tup (SqT.of h) (dp_strs p), .tup (SqT.of he) .nil, shp_of (can_strs g) (Nat.le_trans (dep_strs p) (by decide)), shp_of rfl (by decide), ?_⟩
  have ev : PyData.eqv (.tuple (p.map PyData.str)) (.tuple []) = decide (p = []) := by
    cases p with
    | nil => simp [PyData.eqv, PyData.eqvAll]
    | cons r rs => simp [PyData.eqv, PyData.eqvAll]
  rw [ev]
  exact q
open TL in
theorem path_join : ∀ {p : List Str}, p ≠ [] → Txt.join "" (p.map fun x => "/" ++ x) = "/" ++ Txt.join "/" p := by
  intro p h
  refine ext_tl ?_
  rw [join_eq, join_eq, tl_append, tl_join, tl_join, List.map_map]
  have e0 : tl ("" : Str) = [] := by decide +kernel
  rw [e0, sep_tl.2.2.1]
  have go : ∀ p : List Str, p ≠ [] → joinL [] (p.map (tl ∘ fun x => "/" ++ x)) = [47] ++ joinL [47] (p.map tl) := by
    intro p
    induction p with
    | nil => intro h; exact absurd rfl h
    | cons x xs ih =>
      intro _
      have ex : (tl ∘ fun x => "/" ++ x) x = 47 :: tl x := by
        show tl ("/" ++ x) = _
        rw [tl_append, sep_tl.2.2.1]
        rfl
      cases xs with
      | nil =>
        show joinL [] [(tl ∘ fun x => "/" ++ x) x] = _
        rw [ex]
        rfl
      | cons y ys =>
        show (tl ∘ fun x => "/" ++ x) x ++ ([] ++ joinL [] ((y :: ys).map (tl ∘ fun x => "/" ++ x))) = _
        rw [ih (by simp), ex]
        rfl
  exact go p h
def spPw (K : PySem.W.Frag) : Sp := fun vs H Q _ => ∃ (a : Addr) (p : List Str), vs = [.ref a] ∧ H a = some (.tup (p.map V.str)) ∧ (∀ x ∈ p, Nm x) ∧ p.length ≤ 40 ∧ RV (.str (wordS (.path p))) H Q
theorem ok_lpathw (T : Txt K mg) (F : FnP K "_law_path_word" s__law_path_word f fd) : Fg P w K mg base CX0 1 f fd ["_law_path_here"] (spPw K) := by
  refine fg_of F sc__law_path_word (fun vs H Q E h => ?_) (fun cdv A outer s H vs Q E hr h => ⟨_, (PSs.nox (pss_one (ps_ret (pe_ifExp (pt_cmpR (u_eq (K := K) hr) (pv 0) (pe_tup pa_nil) (nomark _)) pe_str (pe_bm PySem.F.plainAttrs_str PySem.F.slot_str_join PySem.F.type_str_join mt_join pe_str (pa_cons (pe_lc (own := [("_law_name_here", 1)]) rfl sc__law_path_word.nd (pi_seq (K := K) (pv 0)) (blkOk_by (own := [("_law_name_here", 1)]) (N := ["_law_path_here", "_law_name_here"]) (sc := defScope s__law_path_word) (by decide +kernel)) (fun _ _ _ _ _ => (pg_name (i := 1) sc__law_path_word.nd rfl (by first | exact Or.inl rfl | exact Or.inr rfl))) (fun _ _ _ _ _ => pts_nil) (fun _ _ _ _ _ => (pe_op L2.op_add_str pe_str (pv 1)))) pa_nil)))))), ?_⟩)
  · obtain ⟨a, p, rfl, _⟩ := h
    rfl
  · obtain ⟨a, p, rfl, ha, g, hl, q⟩ := h
    refine ⟨_, rfl, by show 0 ≤ sizeLine; decide, fun e ne => ?_⟩
    have y := Evl.Ex.new (o := .tup ([] : List V)) ne
    have ha := y _ _ ha
    refine eq_unit g ha upd_same ⟨_, rfl, ?_⟩
    generalize upd H e (.tup ([] : List V)) = H1 at y ha ⊢
    by_cases z : p = []
    · rw [decide_eq_true z]
      subst z
      refine iteT ?_
      have : wordS (.path []) = "/" := (path_slash (p := []) (fun _ z => nomatch z)).mpr rfl
      rw [this] at q
      exact q _ y
    · rw [decide_eq_false z]
      refine iteF ⟨rfl, ?_⟩
      refine seq_var (t := true) rfl (Sv.tup ha) fun J wk D hD => ?_
      refine lc_pureVS (us := p.map fun x => V.str ("/" ++ x)) wk (fun H' ex => Sv.tup (ex _ _ ha)) (by simp) (by rw [List.length_map]; omega) hD (fun _ => rfl) ?_ ?_
      · intro i x u H' Q' hx hu ex k
        rw [List.getElem?_map] at hx hu
        obtain ⟨t, ht, rfl⟩ := Option.map_eq_some_iff.mp hx
        rw [ht] at hu
        obtain rfl := (Option.some.inj hu).symm
        refine ⟨_, rfl, _, _, rfl, rfl, ?_, k _ (Evl.Ex.refl _)⟩
        have := (g t (List.mem_of_getElem? ht)).2.1
        have l3 : ("/" : Str).length = 1 := rfl
        have l4 : t.length = t.cps.size := rfl
        rw [sizeLine_eq]
        omega
      · intro H' ex h3
        refine ⟨"", D, p.map (fun x => "/" ++ x), rfl, rfl, .inl (SqL.of (by rw [h3, List.map_map]; rfl)), ?_, ?_⟩
        · have := join_le "" (p.map (fun x => "/" ++ x)) (m := 9) fun t ht => by
            obtain ⟨x, hx, rfl⟩ := List.mem_map.mp ht
            rw [PySem.strLen_append]
            have := (g x hx).2.1
            have l3 : ("/" : Str).length = 1 := rfl
            have l4 : x.length = x.cps.size := rfl
            omega
          rw [List.length_map] at this
          show ((p.map (fun x => ("/" : Str) ++ x)).map (·.length)).sum + (p.map (fun x => ("/" : Str) ++ x)).length * 0 ≤ _
          omega
        · rw [path_join z]
          exact q _ (y.trans ex)
end
end K19
/-! a method of a text within a comprehension: the frame told -/
namespace VB
open PySem PySem.Spec PyProof.Rows L2 BM
section
variable {X : Cx} {K : PySem.W.Frag}
theorem pe_bmK {T id : String} {name : Str} {o e : Expr} {es : List Expr} {apos cpos : Pos} {to : TE} {t : TA} {r : V → List V → Hp → VK → Prop} (pa : PlainAttrs T) (slot : Slot T name id) (hty : typeOf (.builtin id) = pure (.type "method_descriptor")) (hm : MtR X id r) (ho : PE X o to) (ha : PA X (e :: es) t) (hK : X.K = K := by rfl)
    (hbase : attributeBase o name X.env (eval o X.env) = eval o X.env := by rfl)
    (hfew : ((backTo cpos (starEach (e :: es) X.env)).all (fun x => !x.1) && (backToKw cpos (keywordEach [] X.env)).all (fun x => x.1.isSome)
      && decide ((e :: es).length + ([] : List Keyword).length + (if ([] : List Keyword).isEmpty then 0 else 1) < 30)) = true := by rfl)
    (hline : (apos.endLine == cpos.line) = true := by rfl) (hs : starEach (e :: es) X.env = (false, eval e X.env) :: starEach es X.env := by rfl) (hplain : (backTo cpos (starEach es X.env)).any (·.1) = false := by rfl) :
    PE X (.Call (.Attribute o name apos) (e :: es) [] cpos) (tBM K T r to t) := by
  subst hK
  exact pe_bm pa slot hty hm ho ha hbase hfew hline hs hplain
def rJoinM (K : PySem.W.Frag) : V → List V → Hp → VK → Prop := fun x xs H Q => ∃ a p, ∃ ys : List Str, x = .str a ∧ xs = [.ref p] ∧ (SqL K H p (ys.map V.str) ∨ SqT K H p (ys.map V.str)) ∧ (ys.map (·.length)).sum + ys.length * a.length ≤ 16777216 ∧ Q (.str (Txt.join a ys)) H
theorem mt_joinK (hK : X.K = K := by rfl) : MtR X "str.join" (rJoinM K) := by
  subst hK
  exact mt_join
end
end VB
namespace VB
open PySem PySem.Spec PyProof.Rows L2 BM
section
variable {X : Cx} {K : PySem.W.Frag}
/-- ints, lists, tuples (empty ones too), texts -/
def rAddX (K : PySem.W.Frag) : R2 := fun x y H Q => rAddA K x y H Q ∨ (∃ i j, x = .str i ∧ y = .str j ∧ i.length + j.length ≤ sizeLine ∧ Q (.str (i ++ j)) H)
theorem u_addX (hK : X.K = K := by rfl) : OpR X (binaryOp .Add) (rAddX K) := by
  subst hK
  exact (u_addA rfl).or L2.op_add_str
variable {H : Hp} {a b : Addr} {xs ys : List V} {Q : VK}
theorem cat_x (h1 : H a = some (.tup xs)) (h2 : H b = some (.tup ys)) (z : xs.length + ys.length ≤ 1000) (q : ∀ p H', Evl.Ex H H' → H' p = some (.tup (xs ++ ys)) → Q (.ref p) H') : rAddX K (.ref a) (.ref b) H Q := by
  refine .inl (.inr ⟨a, b, xs, ys, rfl, rfl, SqT.of h1, SqT.of h2, Nat.le_trans z (by decide), fun e => ?_, fun _ e => ?_, fun _ _ p np => q p _ (Evl.Ex.new np) upd_same⟩)
  · subst e
    exact q b H (Evl.Ex.refl _) h2
  · subst e
    exact q a H (Evl.Ex.refl _) (by rw [h1, List.append_nil])
theorem sl_x {lo hi : Option Int} (h : H a = some (.tup xs)) (nw : ¬ (HT.sIx xs.length 0 lo = 0 ∧ HT.sIx xs.length xs.length hi = xs.length)) (q : ∀ p H', Evl.Ex H H' → H' p = some (.tup (cutV xs lo hi)) → Q (.ref p) H') : rSlU K (.ref a) lo hi H Q :=
  .inr (.inl ⟨a, _, rfl, SqT.of h, nw, fun p np => q p _ (Evl.Ex.new np) upd_same⟩)
theorem cutn {xs : List V} {j : Nat} : cutV xs none (some (j : Int)) = xs.take j := by
  unfold cutV
  have e0 : HT.sIx xs.length 0 none = 0 := rfl
  rw [HT.sIx_nat, e0, List.drop_zero, Nat.sub_zero]
  by_cases hj : j ≤ xs.length
  · rw [Nat.min_eq_left hj]
  · rw [Nat.min_eq_right (by omega), List.take_of_length_le (Nat.le_refl _), List.take_of_length_le (by omega)]
theorem cutd {xs : List V} {i : Nat} : cutV xs (some (i : Int)) none = xs.drop i := by
  unfold cutV
  have e0 : HT.sIx xs.length xs.length none = xs.length := rfl
  rw [HT.sIx_nat, e0]
  by_cases hi : i ≤ xs.length
  · rw [Nat.min_eq_left hi, List.take_of_length_le (by rw [List.length_drop]; exact Nat.le_refl _)]
  · rw [Nat.min_eq_right (by omega), List.drop_of_length_le (Nat.le_refl _), List.drop_of_length_le (by omega)]
    simp
theorem sx_m1 (n d : Nat) : HT.sIx n d (some (-1)) = n - 1 := by
  have h := HT.clip_eq (-1) n d
  rw [if_pos (by decide)] at h
  omega
theorem cut_m1 {xs : List V} : cutV xs none (some (-1)) = xs.dropLast := by
  unfold cutV
  have e0 : HT.sIx xs.length 0 none = 0 := rfl
  rw [sx_m1, e0, List.drop_zero, Nat.sub_zero, List.dropLast_eq_take]
theorem nwd {n i : Nat} {hi : Option Int} (h : 1 ≤ i) (hn : 1 ≤ n) : ¬ (HT.sIx n 0 (some (i : Int)) = 0 ∧ HT.sIx n n hi = n) := fun z => by
  have := z.1
  rw [HT.sIx_nat] at this
  omega
theorem nwn {n j : Nat} {lo : Option Int} (h : j < n) : ¬ (HT.sIx n 0 lo = 0 ∧ HT.sIx n n (some (j : Int)) = n) := fun z => by
  have := z.2
  rw [HT.sIx_nat] at this
  omega
theorem nwm {n : Nat} {lo : Option Int} (h : 1 ≤ n) : ¬ (HT.sIx n 0 lo = 0 ∧ HT.sIx n n (some (-1)) = n) := fun z => by
  have := z.2
  rw [sx_m1] at this
  omega
end
end VB
/-! the law's words and lines of steps -/
namespace K19
open PySem PySem.Spec PyProof.Rows L2 VB BM
def Stp.wds : Stp → List Str
  | .one d => d.w :: d.ps.map wordS
  | _ => ["sync"]
theorem k9 : ∀ i, i < 9 → inV (V.str (tabW.getD i "")) [V.str "sync", V.str "keep", V.str "let"] = decide (7 ≤ i) ∧ (tabW.getD i "" = "write" ↔ i = 2) ∧ (tabW.getD i "" = "cut" ↔ i = 3) := by decide +kernel
section
variable {P : Program} {w : World} {K : PySem.W.Frag} {mg : Str → Option Value} {base : Heap} {f : Addr} {fd : FuncData}
def spWords (K : PySem.W.Frag) : Sp := fun vs H Q _ => ∃ (v : V) (s : Stp), vs = [v] ∧ StpT H v s ∧ s.Good ∧ (∀ ds, s ≠ .all ds) ∧ ∀ (l : Addr) (H' : Hp), Evl.Ex H H' → H' l = some (.lst (s.wds.map V.str)) → Q (.ref l) H'
theorem ok_words (T : Txt K mg) (F : FnP K "_law_words" s__law_words f fd) (C__law_runs : Cal P w K mg base CX0 1 "_law_runs" ["_law_octets"] (spLRuns K)) (C__law_run_word : Cal P w K mg base CX0 1 "_law_run_word" ["_law_run"] (spRw K)) (C__law_path_word : Cal P w K mg base CX0 1 "_law_path_word" ["_law_path_here"] (spPw K)) :
    Fg P w K mg base CX0 2 f fd ["_law_step_here"] (spWords K) := by
  refine fg_of F sc__law_words (fun vs H Q E h => ?_) (fun cdv A outer s H vs Q E hr h => ⟨_, (PSs.nox (pss_cons (ps_set (i := 1) sc__law_words.nd rfl (by first | exact Or.inl rfl | exact Or.inr rfl) (pe_ix (u_ix (K := K)) (pv 0) pe_int (fun _ _ => rfl)))
  (pss_cons (ps_if (pt_cmpR (u_in (K := K)) (pv 1) (pe_lst (pa_cons pe_str (pa_cons pe_str (pa_cons pe_str pa_nil)))) (by rfl))
  (pss_one (ps_ret (pe_callTy (u_list (K := K)) (by rfl) T.f_list (by decide +kernel) (pa_cons (pv 0) pa_nil)))) pss_nil)
  (pss_cons (ps_if (pt_cmpR (u_eq (K := K) hr) (pv 1) pe_str (nomark _))
  (pss_cons (ps_set (i := 2) sc__law_words.nd rfl (by first | exact Or.inl rfl | exact Or.inr rfl) (pe_bm PySem.F.plainAttrs_str PySem.F.slot_str_join PySem.F.type_str_join mt_join pe_str (pa_cons (pe_lc (own := [("_law_run", 3)]) rfl sc__law_words.nd (pi_seq (K := K) (pe_cal C__law_runs hr.le pass0 (pa_cons (pe_ix (u_ix (K := K)) (pv 0) pe_int (fun _ _ => rfl)) pa_nil))) (blkOk_by (own := [("_law_run", 3)]) (N := ["_law_step_here", "_law_kind", "_law_runs_here", "_law_run", "_law_path_here"]) (sc := defScope s__law_words) (by decide +kernel)) (fun _ _ _ _ _ => (pg_name (i := 3) sc__law_words.nd rfl (by first | exact Or.inl rfl | exact Or.inr rfl))) (fun _ _ _ _ _ => pts_nil) (fun _ _ _ _ _ => (pe_cal C__law_run_word hr.le pass0 (pa_cons (pv 3) pa_nil)))) pa_nil)))
  (pss_one (ps_ret (pe_lst (pa_cons (pv 1) (pa_cons (pe_cal C__law_path_word hr.le pass0 (pa_cons (pe_ix (u_ix (K := K)) (pv 0) pe_int (fun _ _ => rfl)) pa_nil)) (pa_cons (pe_callTy call_str_int (by rfl) T.f_str (by decide +kernel) (pa_cons (pe_ix (u_ix (K := K)) (pv 0) pe_int (fun _ _ => rfl)) pa_nil)) (pa_cons (pv 2) pa_nil)))))))) pss_nil)
  (pss_cons (ps_if (pt_cmpR (u_eq (K := K) hr) (pv 1) pe_str (nomark _))
  (pss_one (ps_ret (pe_lst (pa_cons (pv 1) (pa_cons (pe_cal C__law_path_word hr.le pass0 (pa_cons (pe_ix (u_ix (K := K)) (pv 0) pe_int (fun _ _ => rfl)) pa_nil)) (pa_cons (pe_callTy call_str_int (by rfl) T.f_str (by decide +kernel) (pa_cons (pe_ix (u_ix (K := K)) (pv 0) pe_int (fun _ _ => rfl)) pa_nil)) pa_nil)))))) pss_nil)
  (pss_one (ps_ret (pe_op (u_add (K := K)) (pe_lst (pa_cons (pv 1) pa_nil)) (pe_lc (own := [("_law_path_here", 4)]) rfl sc__law_words.nd (pi_seq (K := K) (pe_slice (u_sl (K := K)) (pv 0) (po_some pe_int) po_none)) (blkOk_by (own := [("_law_path_here", 4)]) (N := ["_law_step_here", "_law_kind", "_law_runs_here", "_law_run", "_law_path_here"]) (sc := defScope s__law_words) (by decide +kernel)) (fun _ _ _ _ _ => (pg_name (i := 4) sc__law_words.nd rfl (by first | exact Or.inl rfl | exact Or.inr rfl))) (fun _ _ _ _ _ => pts_nil) (fun _ _ _ _ _ => (pe_cal C__law_path_word hr.le pass0 (pa_cons (pv 4) pa_nil)))))))))))), ?_⟩)
  · obtain ⟨v, s, rfl, _⟩ := h
    rfl
  · obtain ⟨v, s, rfl, at_, g, no, q⟩ := h
    refine ⟨_, rfl, ?_⟩
    cases s with
    | all ds => exact absurd rfl (no ds)
    | sync =>
      obtain ⟨a, rfl, ha⟩ := at_
      refine Sv.ix (x := V.str "sync") (Sv.tup ha) (atI_nat (j := 0) rfl) ?_
      refine ⟨_, rfl, by show 3 ≤ sizeLine; decide, fun l nl => ⟨l, _, rfl, .inl (SqL.of upd_same), rfl, rfl, _, rfl, ?_⟩⟩
      have y := Evl.Ex.new (o := .lst [V.str "sync", .str "keep", .str "let"]) nl
      refine iteT ⟨_, rfl, a, _, rfl, .inr (SqT.of (y _ _ ha)), fun l2 nl2 => q l2 _ (y.trans (Evl.Ex.new nl2)) upd_same⟩
    | one d =>
      obtain ⟨a, vs, rfl, ha, PP⟩ := at_
      refine Sv.ix (x := V.str d.w) (Sv.tup ha) (atI_nat (j := 0) rfl) ?_
      obtain ⟨kn, kw, kc⟩ := k9 d.i g.i9
      refine ⟨_, rfl, by show 3 ≤ sizeLine; decide, fun l nl => ⟨l, _, rfl, .inl (SqL.of upd_same), rfl, rfl, _, rfl, ?_⟩⟩
      rw [show (if false = true then !inV (V.str d.w) [V.str "sync", V.str "keep", V.str "let"] else inV (V.str d.w) [V.str "sync", V.str "keep", V.str "let"]) = decide (7 ≤ d.i) from kn]
      have y := Evl.Ex.new (o := .lst [V.str "sync", .str "keep", .str "let"]) nl
      have ha := y _ _ ha
      have PP := px_mono (fun _ _ z => z.ex y) PP
      generalize upd H l (.lst [V.str "sync", .str "keep", .str "let"]) = H1 at y ha PP ⊢
      have gd := g.gd
      by_cases hp : ¬ (7 ≤ d.i ∨ d.i = 2 ∨ d.i = 3)
      · have hps : ∀ x ∈ d.ps, ∃ p, x = Pt.path p := by
          rcases dd_cases g with ⟨p, n, os, rfl⟩ | ⟨p, n, rfl⟩ | ⟨i, p, p', hi, rfl⟩ | ⟨i, p, hi, rfl⟩ | ⟨i, x, hi, rfl⟩
          · exact absurd (.inr (.inl rfl)) hp
          · exact absurd (.inr (.inr rfl)) hp
          · intro x hx
            rcases List.mem_cons.mp hx with rfl | hx
            · exact ⟨_, rfl⟩
            · rw [List.mem_singleton.mp hx]
              exact ⟨_, rfl⟩
          · intro x hx
            rw [List.mem_singleton.mp hx]
            exact ⟨_, rfl⟩
          · exact absurd (.inl (show 7 ≤ i by omega)) hp
        rw [decide_eq_false (show ¬ 7 ≤ d.i by omega)]
        refine iteF ⟨_, rfl, .inl ⟨rfl, _, rfl, ?_⟩⟩
        rw [dks, decide_eq_false (show ¬ d.w = "write" from fun z => by have := kw.mp z; omega)]
        refine iteF ⟨_, rfl, .inl ⟨rfl, _, rfl, ?_⟩⟩
        rw [dks, decide_eq_false (show ¬ d.w = "cut" from fun z => by have := kc.mp z; omega)]
        have lv := px_len PP
        have lk : d.ps.length ≤ 3 := by
          have := (tabK_len d.i g.i9).2
          rw [← g.kd, List.length_map] at this
          exact this
        refine iteF ⟨_, rfl, by show 1 ≤ sizeLine; decide, fun s0 n0 => ?_⟩
        have e0 := Evl.Ex.new (o := .lst [V.str d.w]) n0
        have h0 := upd_same (H := H1) (a := s0) (o := .lst [V.str d.w])
        have ha := e0 _ _ ha
        have PP := px_mono (fun _ _ z => z.ex e0) PP
        have y := y.trans e0
        generalize upd H1 s0 (.lst [V.str d.w]) = H2 at y ha PP h0 ⊢
        refine .inr ⟨_, rfl, 1, rfl, .inr (.inl ⟨a, _, rfl, SqT.of ha, fun z => sx_ne (i := 1) (by decide) (by rw [List.length_cons]; omega) z.1, fun s1 n1 => ⟨s1, rfl, ⟨_, SqT.of upd_same⟩, fun D hD => ?_⟩⟩)⟩
        have ec : cutV (V.str d.w :: vs) (some 1) none = vs := cut1
        rw [ec] at hD ⊢
        have e1 := Evl.Ex.new (o := .tup vs) n1
        have h1 := upd_same (H := H2) (a := s1) (o := .tup vs)
        have PP := px_mono (fun _ _ z => z.ex e1) PP
        have h0 := e1 _ _ h0
        have y := y.trans e1
        generalize upd H2 s1 (.tup vs) = H3 at y PP h0 h1 hD ⊢
        refine lc_pureVS (us := d.ps.map fun p => V.str (wordS p)) (walk_tup (K := K) (a := s1) (xs := vs)) (fun H' ex => SqT.of (ex _ _ h1)) (by rw [List.length_map, lv]) (by omega) hD (fun _ => rfl) ?_ ?_
        · intro i x u H' Q' hx hu ex k
          obtain ⟨t, ht, pa⟩ := pr_at PP hx
          rw [List.getElem?_map, ht] at hu
          obtain rfl := (Option.some.inj hu).symm
          have mt := List.mem_of_getElem? ht
          obtain ⟨p, rfl⟩ := hps t mt
          obtain ⟨b, rfl, hb⟩ := pa
          obtain ⟨gp, gl⟩ := gd _ mt
          exact ⟨_, rfl, b, p, rfl, ex _ _ hb, gp, gl, k⟩
        · intro H4 ex h4
          refine cat_l (ex _ _ h0) h4 (by rw [List.length_map]; show 1 + _ ≤ 1000; omega) fun s2 H5 n5 e5 h5 => ?_
          refine q s2 H5 ((y.trans ex).trans e5) ?_
          rw [h5]
          show _ = some (HO.lst (List.map V.str (d.w :: d.ps.map wordS)))
          rw [List.map_cons, List.map_map]
          rfl
      have hp : 7 ≤ d.i ∨ d.i = 2 ∨ d.i = 3 := Classical.byContradiction hp
      rcases dd_cases g with ⟨p, n, os, rfl⟩ | ⟨p, n, rfl⟩ | ⟨i, p, p', hi, rfl⟩ | ⟨i, p, hi, rfl⟩ | ⟨i, x, hi, rfl⟩
      · obtain ⟨v1, v2, v3, rfl, p1, p2, p3⟩ : ∃ v1 v2 v3, vs = [v1, v2, v3] ∧ PtT H1 v1 (.path p) ∧ PtT H1 v2 (.size n) ∧ PtT H1 v3 (.octs os) := by
          cases PP with | cons h t => cases t with | cons h2 t => cases t with | cons h3 t => cases t; exact ⟨_, _, _, rfl, h, h2, h3⟩
        obtain ⟨a1, rfl, h1⟩ := p1
        obtain rfl : v2 = .int n := p2
        obtain ⟨a3, rfl, h3⟩ := p3
        obtain ⟨gp, gl⟩ := gd (.path p) (by simp)
        obtain ⟨n0, n96⟩ := gd (.size n) (by simp)
        obtain ⟨oo, o1, o48⟩ := gd (.octs os) (by simp)
        refine iteF ⟨_, rfl, .inl ⟨rfl, _, rfl, ?_⟩⟩
        rw [dks, decide_eq_true (show (⟨2, [.path p, .size n, .octs os]⟩ : Dd).w = "write" from rfl)]
        refine iteT ⟨rfl, .inl ⟨_, rfl, Sv.ix (x := V.ref a3) (Sv.tup ha) (atI_nat (j := 3) rfl) ⟨a3, os, rfl, h3, by omega, fun L as H2 e2 hL PL => ⟨L, rfl, ⟨_, SqL.of hL⟩, fun D hD => ?_⟩⟩⟩⟩
        have la := px_len PL
        have rl := (run_bd os).1
        refine lc_pureVS (us := (runsL os).map fun r => V.str (runW r)) (walk_list (K := K) (a := L) (xs := as.map V.ref)) (fun H' ex => SqL.of (ex _ _ hL)) (by rw [List.length_map, List.length_map, la]) (by rw [List.length_map]; omega) hD (fun _ => rfl) ?_ ?_
        · intro i x u H' Q' hx hu ex k
          rw [List.getElem?_map] at hx hu
          obtain ⟨b, hb, rfl⟩ := Option.map_eq_some_iff.mp hx
          obtain ⟨r, hr', ra⟩ := pr_at PL hb
          rw [hr'] at hu
          obtain rfl := (Option.some.inj hu).symm
          have mr := run_good oo (List.mem_of_getElem? hr')
          exact ⟨_, rfl, b, r, rfl, ex _ _ ra, mr.1, mr.2.1, by omega, by omega, k _ (Evl.Ex.refl _)⟩
        · intro H3 ex h3'
          have bl := join_le "," ((runsL os).map runW) (m := 60) fun t ht => by
            obtain ⟨r, hr', rfl⟩ := List.mem_map.mp ht
            have mr := run_good oo hr'
            exact runw_len mr.1 mr.2.1 (by omega) (by omega)
          rw [List.length_map] at bl
          have E := e2.trans ex
          refine ⟨",", D, (runsL os).map runW, rfl, rfl, .inl (SqL.of (by rw [h3', List.map_map]; rfl)), ?_, ?_⟩
          · show (((runsL os).map runW).map (·.length)).sum + ((runsL os).map runW).length * 1 ≤ _
            rw [List.length_map]
            omega
          · refine ⟨_, rfl, _, rfl, Sv.ix (x := V.ref a1) (Sv.tup (E _ _ ha)) (atI_nat (j := 1) rfl) ⟨a1, p, rfl, E _ _ h1, gp, gl, fun H4 e4 => ?_⟩⟩
            refine ⟨_, rfl, Sv.ix (x := V.int n) (Sv.tup (e4 _ _ (E _ _ ha))) (atI_nat (j := 2) rfl) ⟨n, rfl, (tx_len n0 (by omega)).2, _, rfl, by show 4 ≤ sizeLine; decide, fun l2 nl2 => ?_⟩⟩
            exact q l2 _ (((y.trans E).trans e4).trans (Evl.Ex.new nl2)) upd_same
      · obtain ⟨v1, v2, rfl, p1, p2⟩ : ∃ v1 v2, vs = [v1, v2] ∧ PtT H1 v1 (.path p) ∧ PtT H1 v2 (.size n) := by
          cases PP with | cons h t => cases t with | cons h2 t => cases t; exact ⟨_, _, rfl, h, h2⟩
        obtain ⟨a1, rfl, h1⟩ := p1
        obtain rfl : v2 = .int n := p2
        obtain ⟨gp, gl⟩ := gd (.path p) (by simp)
        obtain ⟨n0, n96⟩ := gd (.size n) (by simp)
        refine iteF ⟨_, rfl, .inl ⟨rfl, _, rfl, ?_⟩⟩
        rw [dks, decide_eq_false (show ¬ (⟨3, [.path p, .size n]⟩ : Dd).w = "write" from fun z => absurd (kw.mp z) (show ¬ (3 : Nat) = 2 by decide))]
        refine iteF ⟨_, rfl, .inl ⟨rfl, _, rfl, ?_⟩⟩
        rw [dks, decide_eq_true (show (⟨3, [.path p, .size n]⟩ : Dd).w = "cut" from rfl)]
        refine iteT ⟨_, rfl, _, rfl, Sv.ix (x := V.ref a1) (Sv.tup ha) (atI_nat (j := 1) rfl) ⟨a1, p, rfl, h1, gp, gl, fun H4 e4 => ?_⟩⟩
        refine ⟨_, rfl, Sv.ix (x := V.int n) (Sv.tup (e4 _ _ ha)) (atI_nat (j := 2) rfl) ⟨n, rfl, (tx_len n0 (by omega)).2, by show 3 ≤ sizeLine; decide, fun l2 nl2 => ?_⟩⟩
        exact q l2 _ ((y.trans e4).trans (Evl.Ex.new nl2)) upd_same
      · have hp : 7 ≤ i ∨ i = 2 ∨ i = 3 := hp
        omega
      · have hp : 7 ≤ i ∨ i = 2 ∨ i = 3 := hp
        omega
      · obtain ⟨v1, rfl, p1⟩ : ∃ v1, vs = [v1] ∧ PtT H1 v1 (.name x) := by
          cases PP with | cons h t => cases t; exact ⟨_, rfl, h⟩
        obtain rfl : v1 = .str x := p1
        rw [decide_eq_true (show 7 ≤ (⟨i, [.name x]⟩ : Dd).i from (show 7 ≤ i by omega))]
        exact iteT ⟨_, rfl, a, _, rfl, .inr (SqT.of ha), fun l2 nl2 => q l2 _ (y.trans (Evl.Ex.new nl2)) upd_same⟩
def spLLine (K : PySem.W.Frag) : Sp := fun vs H Q _ => ∃ (v : V) (s : Stp), vs = [v] ∧ StpT H v s ∧ s.Good ∧ RV (.str (lineS s)) H Q
theorem ok_lline (T : Txt K mg) (F : FnP K "_law_line" s__law_line f fd) (C__law_words : Cal P w K mg base CX0 2 "_law_words" ["_law_step_here"] (spWords K)) :
    Fg P w K mg base CX0 3 f fd ["_law_step_here"] (spLLine K) := by
  refine fg_of F sc__law_line (fun vs H Q E h => ?_) (fun cdv A outer s H vs Q E hr h => ⟨_, (PSs.nox (pss_cons (ps_if (pt_cmpR (u_eq (K := K) hr) (pe_ix (u_ix (K := K)) (pv 0) pe_int (fun _ _ => rfl)) pe_str (nomark _))
  (pss_one (ps_ret (pe_op L2.op_add_str pe_str (pe_bmK (K := K) PySem.F.plainAttrs_str PySem.F.slot_str_join PySem.F.type_str_join (mt_joinK (K := K)) pe_str (pa_cons (pe_lc (own := [("_law_deed", 1)]) rfl sc__law_line.nd (pi_seq (K := K) (pe_ix (u_ix (K := K)) (pv 0) pe_int (fun _ _ => rfl))) (blkOk_by (own := [("_law_deed", 1)]) (N := ["_law_step_here", "_law_deed"]) (sc := defScope s__law_line) (by decide +kernel)) (fun _ _ _ _ _ => (pg_name (i := 1) sc__law_line.nd rfl (by first | exact Or.inl rfl | exact Or.inr rfl))) (fun _ _ _ _ _ => pts_nil) (fun _ _ _ _ _ => (pe_bmK (K := K) PySem.F.plainAttrs_str PySem.F.slot_str_join PySem.F.type_str_join (mt_joinK (K := K)) pe_str (pa_cons (pe_cal C__law_words hr.le pass0 (pa_cons (pv 1) pa_nil)) pa_nil)))) pa_nil))))) pss_nil)
  (pss_one (ps_ret (pe_bmK (K := K) PySem.F.plainAttrs_str PySem.F.slot_str_join PySem.F.type_str_join (mt_joinK (K := K)) pe_str (pa_cons (pe_cal C__law_words hr.le pass0 (pa_cons (pv 0) pa_nil)) pa_nil)))))), ?_⟩)
  · obtain ⟨v, s, rfl, _⟩ := h
    rfl
  · obtain ⟨v, s, rfl, at_, g, q⟩ := h
    have dsum : ∀ d : Dd, d.Good → ((d.w :: d.ps.map wordS).map (·.length)).sum + (d.w :: d.ps.map wordS).length * 1 ≤ 16777216 := fun d g => by
      have bl := join_le " " (d.w :: d.ps.map wordS) (m := 4000) (List.forall_mem_cons.mpr ⟨w_len d.i g.i9, fun t ht => by
        obtain ⟨p, hp, rfl⟩ := List.mem_map.mp ht
        exact word_len (g.gd p hp)⟩)
      have lk : d.ps.length ≤ 3 := by
        have := (tabK_len d.i g.i9).2
        rw [← g.kd, List.length_map] at this
        exact this
      rw [List.length_cons, List.length_map] at bl ⊢
      omega
    cases s with
    | sync =>
      have at2 := at_
      obtain ⟨a, rfl, ha⟩ := at_
      refine ⟨_, rfl, Sv.ix (x := V.str "sync") (Sv.tup ha) (atI_nat (j := 0) rfl) (.inl ⟨rfl, _, rfl, ?_⟩)⟩
      rw [decide_eq_false (show ¬ (V.str "sync" = V.str "all") from fun z => absurd (V.str.inj z) (by decide))]
      refine iteF ⟨rfl, _, rfl, _, .sync, rfl, at2, g, (fun _ z => nomatch z), fun l H1 e1 h1 => ?_⟩
      refine ⟨" ", l, ["sync"], rfl, rfl, .inl (SqL.of h1), by decide, ?_⟩
      exact q _ e1
    | one d =>
      have at2 := at_
      obtain ⟨a, vs, rfl, ha, PP⟩ := at_
      have wa := w_all d.i g.i9
      refine ⟨_, rfl, Sv.ix (x := V.str d.w) (Sv.tup ha) (atI_nat (j := 0) rfl) (.inl ⟨rfl, _, rfl, ?_⟩)⟩
      rw [decide_eq_false (show ¬ (V.str d.w = V.str "all") from fun z => wa.1 (V.str.inj z))]
      refine iteF ⟨rfl, _, rfl, _, .one d, rfl, at2, g, (fun _ z => nomatch z), fun l H1 e1 h1 => ?_⟩
      exact ⟨" ", l, d.w :: d.ps.map wordS, rfl, rfl, .inl (SqL.of h1), dsum d g, q _ e1⟩
    | all ds =>
      obtain ⟨a, b, vs, rfl, ha, hb, PP⟩ := at_
      refine ⟨_, rfl, Sv.ix (x := V.str "all") (Sv.tup ha) (atI_nat (j := 0) rfl) (.inl ⟨rfl, _, rfl, ?_⟩)⟩
      rw [decide_eq_true rfl]
      refine iteT ⟨rfl, .inr ⟨_, rfl, Sv.ix (x := V.ref b) (Sv.tup ha) (atI_nat (j := 1) rfl) ⟨b, rfl, ⟨_, SqT.of hb⟩, fun D hD => ?_⟩⟩⟩
      have lv := px_len PP
      have l4 := g.2.1
      refine lc_pureVS (us := ds.map fun d => V.str (lineD d)) (walk_tup (K := K) (a := b) (xs := vs)) (fun H' ex => SqT.of (ex _ _ hb)) (by rw [List.length_map, lv]) (by omega) hD (fun _ => rfl) ?_ ?_
      · intro i x u H' Q' hx hu ex k
        obtain ⟨d, hd, pa⟩ := pr_at PP hx
        rw [List.getElem?_map, hd] at hu
        obtain rfl := (Option.some.inj hu).symm
        have gd := (g.2.2 d (List.mem_of_getElem? hd)).1
        refine ⟨rfl, _, rfl, x, .one d, rfl, pa.ex ex, gd, (fun _ z => nomatch z), fun l H1 e1 h1 => ?_⟩
        exact ⟨" ", l, d.w :: d.ps.map wordS, rfl, rfl, .inl (SqL.of h1), dsum d gd, k _ e1⟩
      · intro H4 ex h4
        have bl := join_le "; " (ds.map lineD) (m := 20000) fun t ht => by
          obtain ⟨d, hd, rfl⟩ := List.mem_map.mp ht
          exact lineD_len (g.2.2 d hd).1
        rw [List.length_map] at bl
        have e : (Txt.join "; " (ds.map lineD)).length = ((ds.map lineD).map (·.length)).sum + ((ds.map lineD).length - 1) * 2 := size_glued "; " _
        rw [List.length_map (as := ds)] at e
        refine ⟨"; ", D, ds.map lineD, rfl, rfl, .inl (SqL.of (by rw [h4, List.map_map]; rfl)), ?_, _, _, rfl, rfl, ?_, q _ ex⟩
        · show ((ds.map lineD).map (·.length)).sum + (ds.map lineD).length * 2 ≤ _
          rw [List.length_map (as := ds)]
          omega
        · show 5 + (Txt.join "; " (ds.map lineD)).length ≤ _
          rw [sizeLine_eq]
          omega
end
end K19
/-! values made one by one by a comprehension, by any relation that keeps them -/
namespace VB
open PySem PySem.Spec PyProof.Rows L2 BM
section
variable {α : Type} {At : Hp → V → α → Prop} {J : It} {n : Nat} {G : Hp → Prop} {Y : Nat → Hp → V → Hp → Prop} {g : TG} {tt : TT} {te : TE} {vs : List Nat} {σ : L2.St} {H1 : Hp} {D : Addr} {Qd : Hp → Prop}
/-- the items are told by a list -/
theorem lc_newR (R : Hp → Hp → Prop) (mono : ∀ {H H' : Hp} {v : V} {d : α}, At H v d → R H H' → At H' v d) (rex : ∀ {H H' : Hp}, Evl.Ex H H' → R H H') (rup : ∀ {H : Hp} {l : List V} {o : HO}, H D = some (.lst l) → R H (upd H D o)) (w : Walk J n G Y) (ds : List α) (hl : ds.length = n) (hz : n ≤ 60000) (hD : H1 D = none) (hG : ∀ H, Evl.Ex H1 H → G H)
    (hs : ∀ i x H H' d (Qk : VK) (Nx : Hp → Prop), ds[i]? = some d → Evl.Ex H1 H → (∃ us, H D = some (.lst us)) → Y i H x H' → (∀ y H4, Evl.Ex H H4 → At H4 y d → Qk y H4) → g x (wipe σ vs) H' fun σ2 H2 => wipe σ2 vs = wipe σ vs ∧ tt σ2 H2 fun b H3 => if b = true then te σ2 H3 Qk else Nx H3)
    (hd : ∀ H vs, Evl.Ex H1 H → H D = some (.lst vs) → Paired (At H) vs ds → Qd H) :
    ∃ W : Nat → Nat → Hp → Prop, (∃ m, W 0 m (upd H1 D (.lst []))) ∧ ∀ i m H, W i m H →
      (J.stop i H ∧ Qd H) ∨ (J.go i H ∧ ∃ Nx : Hp → Prop, (∀ H', Nx H' → ∃ m', m' < m ∧ W (i + 1) m' H') ∧ ∀ x H', J.yld i H x H' → g x (wipe σ vs) H' fun σ2 H2 => wipe σ2 vs = wipe σ vs ∧ tt σ2 H2 fun b H3 =>
        if b = true then te σ2 H3 fun y H4 => ∃ acc, H4 D = some (.lst acc) ∧ acc.length < sizeLine ∧ Nx (upd H4 D (.lst (acc ++ [y]))) else Nx H3) := by
  refine lc_it w (fun i H => i ≤ n ∧ Evl.Ex H1 H ∧ ∃ us, H D = some (.lst us) ∧ Paired (At H) us (ds.take i)) ⟨Nat.zero_le _, Evl.Ex.new hD, [], upd_same, .nil⟩ (fun i H _ h => hG H h.2.1) ?_ ?_
  · rintro i x H H' hi ⟨_, e, us, hu, pu⟩ y
    obtain ⟨d, hd'⟩ : ∃ d, ds[i]? = some d := ⟨ds[i], by simp [hl ▸ hi]⟩
    refine hs i x H H' d _ _ hd' e ⟨us, hu⟩ y fun v H4 e4 a => ?_
    have h4 := e4 _ _ hu
    have lu := px_len pu
    rw [List.length_take] at lu
    refine ⟨us, h4, Evl.sz_lt (by omega), hi, Evl.Ex.mut (e.trans e4) hD, us ++ [v], upd_same, ?_⟩
    have tk : ds.take (i + 1) = ds.take i ++ [d] := by rw [List.take_add_one, hd']; rfl
    rw [tk]
    exact (px_mono (fun _ _ z => mono (mono z (rex e4)) (rup h4)) pu).snoc (mono a (rup h4))
  · rintro H ⟨_, e, us, hu, pu⟩
    rw [List.take_of_length_le (by omega)] at pu
    exact hd H us e hu pu
/-- the items are drawn -/
theorem lc_drawR {bx : Addr} (R : Hp → Hp → Prop) (mono : ∀ {H H' : Hp} {v : V} {d : α}, At H v d → R H H' → At H' v d) (rexb : ∀ {H H' : Hp} {m : Int}, Exb bx H H' → Box H bx m → R H H') (rup : ∀ {H : Hp} {l : List V} {o : HO}, H D = some (.lst l) → R H (upd H D o)) (w : Walk J n G Y) {c k : Int} (Gd : Nat → α → Prop) (hz : n ≤ 60000) (hD : H1 D = none) (B : Box H1 bx c) (hG : ∀ H, Exb bx H1 H → G H)
    (hs : ∀ i x H H' (Qk : VK) (Nx : Hp → Prop), i < n → Exb bx H1 H → Box H bx (c + k * (i : Int)) → (∃ us, H D = some (.lst us)) → Y i H x H' → (∀ y H4 d, Gd i d → Exb bx H H4 → Box H4 bx (c + k * (i : Int) + k) → At H4 y d → Qk y H4) → g x (wipe σ vs) H' fun σ2 H2 => wipe σ2 vs = wipe σ vs ∧ tt σ2 H2 fun b H3 => if b = true then te σ2 H3 Qk else Nx H3)
    (hd : ∀ H vs ds, ds.length = n → (∀ i d, ds[i]? = some d → Gd i d) → Exb bx H1 H → Box H bx (c + k * (n : Int)) → H D = some (.lst vs) → Paired (At H) vs ds → Qd H) :
    ∃ W : Nat → Nat → Hp → Prop, (∃ m, W 0 m (upd H1 D (.lst []))) ∧ ∀ i m H, W i m H →
      (J.stop i H ∧ Qd H) ∨ (J.go i H ∧ ∃ Nx : Hp → Prop, (∀ H', Nx H' → ∃ m', m' < m ∧ W (i + 1) m' H') ∧ ∀ x H', J.yld i H x H' → g x (wipe σ vs) H' fun σ2 H2 => wipe σ2 vs = wipe σ vs ∧ tt σ2 H2 fun b H3 =>
        if b = true then te σ2 H3 fun y H4 => ∃ acc, H4 D = some (.lst acc) ∧ acc.length < sizeLine ∧ Nx (upd H4 D (.lst (acc ++ [y]))) else Nx H3) := by
  have Db : D ≠ bx := B.at hD
  refine lc_it w (fun i H => i ≤ n ∧ Exb bx H1 H ∧ Box H bx (c + k * (i : Int)) ∧ ∃ us ds, ds.length = i ∧ (∀ i d, ds[i]? = some d → Gd i d) ∧ H D = some (.lst us) ∧ Paired (At H) us ds) ⟨Nat.zero_le _, Exb.new hD, by rw [show c + k * ((0 : Nat) : Int) = c by simp]; exact B.ex (Evl.Ex.new hD), [], [], rfl, (fun _ _ z => by simp at z), upd_same, .nil⟩ (fun i H _ h => hG H h.2.1) ?_ ?_
  · rintro i x H H' hi ⟨_, e, Bi, us, ds, ld, gd, hu, pu⟩ y
    refine hs i x H H' _ _ hi e Bi ⟨us, hu⟩ y fun v H4 d g4 e4 B4 a => ?_
    have h4 := e4 _ _ Db hu
    have lu := px_len pu
    refine ⟨us, h4, Evl.sz_lt (by omega), hi, exb_back (e.trans e4) hD, ?_, us ++ [v], ds ++ [d], by rw [List.length_append, ld]; rfl, ?_, upd_same, ?_⟩
    · rw [show c + k * ((i + 1 : Nat) : Int) = c + k * (i : Int) + k by rw [Int.natCast_succ, Int.mul_add, Int.mul_one, Int.add_assoc]]
      exact box_back B4 Db
    · intro j z hz'
      by_cases hj : j < i
      · rw [List.getElem?_append_left (by omega)] at hz'
        exact gd j z hz'
      · rw [List.getElem?_append_right (by omega)] at hz'
        have : j - ds.length = 0 := by
          by_cases h0 : j - ds.length = 0
          · exact h0
          · rw [List.getElem?_eq_none (by rw [List.length_singleton]; omega)] at hz'
            cases hz'
        rw [this] at hz'
        cases hz'
        rw [show j = i by omega]
        exact g4
    · exact (px_mono (fun _ _ z => mono (mono z (rexb e4 Bi)) (rup h4)) pu).snoc (mono a (rup h4))
  · rintro H ⟨_, e, Bn, us, ds, ld, gd, hu, pu⟩
    exact hd H us ds ld gd e Bn hu pu
end
end VB
/-! steps as data -/
namespace K19
open PySem PySem.Spec PyProof.Rows L2 VB BM
def ptD : Pt → PyData
  | .path p => .tuple (p.map .str)
  | .size n => .int n
  | .octs os => .tuple (os.map .int)
  | .name x => .str x
def ddD (d : Dd) : PyData := .tuple (.str d.w :: d.ps.map ptD)
def stpD : Stp → PyData
  | .one d => ddD d
  | .all ds => .tuple [.str "all", .tuple (ds.map ddD)]
  | .sync => .tuple [.str "sync"]
section
variable {K : PySem.W.Frag} {H H' : Hp}
theorem dp_pt {v : V} {p : Pt} (h : PtT H v p) : Dp K H v (ptD p) := by
  cases p with
  | path p => obtain ⟨a, rfl, h⟩ := h; exact .tup (SqT.of h) (dp_strs p)
  | size n => obtain rfl : v = .int n := h; exact .int n
  | octs os => obtain ⟨a, rfl, h⟩ := h; exact .tup (SqT.of h) (dpAll_ints os)
  | name x => obtain rfl : v = .str x := h; exact .str x
theorem dp_all {α : Type} {R : V → α → Prop} {D : α → PyData} (h : ∀ v d, R v d → Dp K H v (D d)) : ∀ {vs : List V} {ds : List α}, Paired R vs ds → DpAll K H vs (ds.map D)
  | _, _, .nil => .nil
  | _, _, .cons r t => .cons (h _ _ r) (dp_all h t)
theorem dp_dd {v : V} {d : Dd} (h : DdT H v d) : Dp K H v (ddD d) := by
  obtain ⟨a, vs, rfl, ha, p⟩ := h
  exact .tup (SqT.of ha) (.cons (.str _) (dp_all (fun _ _ z => dp_pt z) p))
theorem dp_stp {v : V} {s : Stp} (h : StpT H v s) : Dp K H v (stpD s) := by
  cases s with
  | one d => exact dp_dd h
  | sync => obtain ⟨a, rfl, ha⟩ := h; exact .tup (SqT.of ha) (.cons (.str _) .nil)
  | all ds =>
    obtain ⟨a, b, vs, rfl, ha, hb, p⟩ := h
    exact .tup (SqT.of ha) (.cons (.str _) (.cons (.tup (SqT.of hb) (dp_all (fun _ _ z => dp_dd z) p)) .nil))
end
open TL in
theorem nm_repr {x : Str} (h : Nm x) : (reprText x).length = x.length + 2 := by
  have prn : ∀ c, c < 123 → 97 ≤ c → Builtin.Str.reprChar 39 c = [c] := by decide +kernel
  have hq : reprQuote x = 39 := by
    unfold reprQuote
    have : x.cps.contains 39 = false := by
      rw [Array.contains_eq_any_beq]
      rw [Array.any_eq_false]
      intro i hi
      have := h.2.2 x.cps[i] (by simp)
      simp
      omega
    rw [this]
    rfl
  rw [len_tl, len_tl x]
  unfold reprText
  rw [hq]
  have go : ∀ (l : List Nat) (acc : Array Nat), (∀ c ∈ l, 97 ≤ c ∧ c ≤ 122) → (l.foldl (fun out c => out ++ (Builtin.Str.reprChar 39 c).toArray) acc).toList = acc.toList ++ l := by
    intro l
    induction l with
    | nil => intro acc _; simp
    | cons c l ih =>
      intro acc hc
      have hc0 := hc c (List.mem_cons_self ..)
      rw [List.foldl_cons, ih _ fun z hz => hc z (List.mem_cons_of_mem _ hz), prn c (by omega) hc0.1]
      simp
  show ((Array.push (x.cps.foldl (fun out c => out ++ (Builtin.Str.reprChar 39 c).toArray) #[39]) 39).toList).length = _
  rw [Array.toList_push, ← Array.foldl_toList, go _ _ h.2.2]
  simp
theorem sh_nm {x : Str} (h : Nm x) : Sh (.str x) 0 10 := by
  refine ⟨by simp only [PyData.showable], by simp only [PyData.depth]; exact Nat.le_refl _, ?_⟩
  simp only [PyData.shown]
  have := nm_repr h
  have := h.2.1
  have e : x.length = x.cps.size := rfl
  omega
theorem w_nm : ∀ i, i < 9 → Nm (tabW.getD i "") := by unfold Nm; decide +kernel
theorem s_nm : Nm "all" ∧ Nm "sync" := by unfold Nm; decide +kernel
theorem sh_int255 {n : Int} (h0 : 0 ≤ n) (h1 : n ≤ 255) : Sh (.int n) 0 10 := (sh_int ⟨h0, by omega, log_small h0 (by omega)⟩).le
theorem sh_octs {os : List Int} (h : Oct os) (hl : os.length ≤ 48) : Sh (.tuple (os.map .int)) 1 600 ∧ Sh (.list (os.map .int)) 1 600 := by
  have a : ∀ d ∈ os.map PyData.int, Sh d 0 10 := fun d hd => by
    obtain ⟨n, hn, rfl⟩ := List.mem_map.mp hd
    exact sh_int255 (h n hn).1 (h n hn).2
  exact ⟨(sh_tup a (n := 48) (by rw [List.length_map]; exact hl)).le, (sh_list a (n := 48) (by rw [List.length_map]; exact hl)).le⟩
theorem sh_pt {p : Pt} (g : p.Good) : Sh (ptD p) 1 600 := by
  cases p with
  | path p => exact (sh_tup (b := 10) (fun d hd => by
      obtain ⟨x, hx, rfl⟩ := List.mem_map.mp hd
      exact sh_nm (g.1 x hx)) (n := 40) (by rw [List.length_map]; exact g.2)).le
  | size n => exact (sh_int255 g.1 (by have := g.2; omega)).le
  | octs os => exact (sh_octs g.1 g.2.2).1
  | name x => exact (sh_nm g).le
theorem dd_len {d : Dd} (g : d.Good) : d.ps.length ≤ 3 := by
  have := (tabK_len d.i g.i9).2
  rw [← g.kd, List.length_map] at this
  exact this
/-- parts shown by D -/
theorem sh_dd' {d : Dd} (g : d.Good) {ds : List PyData} (hl : ds.length ≤ 3) (h : ∀ z ∈ ds, Sh z 1 600) : Sh (.tuple (.str d.w :: ds)) 2 2500 :=
  (sh_tup (h := 1) (b := 600) (n := 4) (fun z hz => by
    rcases List.mem_cons.mp hz with rfl | hz
    · exact (sh_nm (w_nm d.i g.i9)).le
    · exact h z hz) (by rw [List.length_cons]; omega)).le
theorem sh_dd {d : Dd} (g : d.Good) : Sh (ddD d) 2 2500 := sh_dd' g (by rw [List.length_map]; exact dd_len g) fun z hz => by
  obtain ⟨p, hp, rfl⟩ := List.mem_map.mp hz
  exact sh_pt (g.gd p hp)
theorem sh_all {ds : List PyData} (hl : ds.length ≤ 4) (h : ∀ z ∈ ds, Sh z 2 2500) : Sh (.tuple [.str "all", .tuple ds]) 4 21000 :=
  (sh_tup (ds := [.str "all", .tuple ds]) (h := 3) (b := 10100) (n := 2) (fun z hz => by
    rcases List.mem_cons.mp hz with rfl | hz
    · exact (sh_nm s_nm.1).le
    · rw [List.mem_singleton.mp hz]
      exact (sh_tup h (n := 4) hl).le) (Nat.le_refl 2)).le
theorem sh_stp {s : Stp} (g : s.Good) : Sh (stpD s) 4 21000 := by
  cases s with
  | one d => exact (sh_dd g).le
  | sync => exact (sh_tup (h := 0) (b := 10) (n := 1) (fun z hz => by rw [List.mem_singleton.mp hz]; exact sh_nm s_nm.2) (by decide)).le
  | all ds =>
    refine sh_all (by rw [List.length_map]; exact g.2.1) fun z hz => ?_
    obtain ⟨d, hd, rfl⟩ := List.mem_map.mp hz
    exact sh_dd (g.2.2 d hd).1
/-! laid -/
theorem can_ints (os : List Int) : (PyData.tuple (os.map .int)).canLay0 = true := canAll_of fun d hd => by
  obtain ⟨x, _, rfl⟩ := List.mem_map.mp hd
  rfl
theorem can_pt {p : Pt} (g : p.Good) : (ptD p).canLay0 = true := by
  cases p with
  | path p => exact can_strs g.1
  | size n => rfl
  | octs os => exact can_ints os
  | name x => exact can_str g
theorem can_dd {d : Dd} (g : d.Good) : (ddD d).canLay0 = true := canAll_of fun z hz => by
  rcases List.mem_cons.mp hz with rfl | hz
  · exact can_str (w_nm d.i g.i9)
  · obtain ⟨p, hp, rfl⟩ := List.mem_map.mp hz
    exact can_pt (g.gd p hp)
theorem can_stp {s : Stp} (g : s.Good) : (stpD s).canLay0 = true := by
  cases s with
  | one d => exact can_dd g
  | sync => exact canAll_of fun z hz => by rw [List.mem_singleton.mp hz]; exact can_str s_nm.2
  | all ds =>
    refine canAll_of fun z hz => ?_
    rcases List.mem_cons.mp hz with rfl | hz
    · exact can_str s_nm.1
    · rw [List.mem_singleton.mp hz]
      refine canAll_of fun z hz => ?_
      obtain ⟨d, hd, rfl⟩ := List.mem_map.mp hz
      exact can_dd (g.2.2 d hd).1
theorem shp_stp {s : Stp} (g : s.Good) : SeqAt.shaped (stpD s) = true := shp_of (can_stp g) (Nat.le_trans (sh_stp g).dep (by decide))
/-! equal data -/
theorem ev_str (a b : Str) : PyData.eqv (.str a) (.str b) = decide (a = b) := by
  simp only [PyData.eqv]
  by_cases h : a = b <;> simp [h]
theorem ev_cons (x y : PyData) (xs ys : List PyData) : PyData.eqvAll (x :: xs) (y :: ys) = (PyData.eqv x y && PyData.eqvAll xs ys) := by simp only [PyData.eqvAll]
theorem ev_strs : ∀ p q : List Str, PyData.eqvAll (p.map .str) (q.map .str) = true → p = q
  | [], [], _ => rfl
  | [], _ :: _, h => by simp [PyData.eqvAll] at h
  | _ :: _, [], h => by simp [PyData.eqvAll] at h
  | x :: p, y :: q, h => by
    rw [List.map_cons, List.map_cons, ev_cons, ev_str, Bool.and_eq_true, decide_eq_true_eq] at h
    rw [h.1, ev_strs p q h.2]
theorem ev_pt {p q : Pt} (k : p.kd = q.kd) (h : PyData.eqv (ptD p) (ptD q) = true) : p = q := by
  cases p with
  | path p => cases q with
    | path q => exact congrArg _ (ev_strs p q (by simpa only [ptD, PyData.eqv] using h))
    | size q => exact absurd (show ("path" : Str) = "size" from k) (by decide)
    | octs q => exact absurd (show ("path" : Str) = "octets" from k) (by decide)
    | name q => exact absurd (show ("path" : Str) = "name" from k) (by decide)
  | size p => cases q with
    | path q => exact absurd (show ("size" : Str) = "path" from k) (by decide)
    | size q => simp only [ptD, PyData.eqv] at h; simpa using h
    | octs q => exact absurd (show ("size" : Str) = "octets" from k) (by decide)
    | name q => exact absurd (show ("size" : Str) = "name" from k) (by decide)
  | octs p => cases q with
    | path q => exact absurd (show ("octets" : Str) = "path" from k) (by decide)
    | size q => exact absurd (show ("octets" : Str) = "size" from k) (by decide)
    | octs q =>
      have : decide (p = q) = true := by rw [← eqvAll_ints]; simpa only [ptD, PyData.eqv] using h
      exact congrArg _ (of_decide_eq_true this)
    | name q => exact absurd (show ("octets" : Str) = "name" from k) (by decide)
  | name p => cases q with
    | path q => exact absurd (show ("name" : Str) = "path" from k) (by decide)
    | size q => exact absurd (show ("name" : Str) = "size" from k) (by decide)
    | octs q => exact absurd (show ("name" : Str) = "octets" from k) (by decide)
    | name q =>
      have h : PyData.eqv (.str p) (.str q) = true := h
      rw [ev_str] at h
      exact congrArg _ (of_decide_eq_true h)
theorem ev_pts : ∀ {ps qs : List Pt}, ps.map Pt.kd = qs.map Pt.kd → PyData.eqvAll (ps.map ptD) (qs.map ptD) = true → ps = qs
  | [], [], _, _ => rfl
  | [], _ :: _, _, h => by simp [PyData.eqvAll] at h
  | _ :: _, [], _, h => by simp [PyData.eqvAll] at h
  | p :: ps, q :: qs, k, h => by
    rw [List.map_cons, List.map_cons, ev_cons, Bool.and_eq_true] at h
    rw [List.map_cons, List.map_cons] at k
    rw [ev_pt (List.cons.inj k).1 h.1, ev_pts (List.cons.inj k).2 h.2]
theorem w_inj : ∀ i, i < 9 → ∀ j, j < 9 → tabW.getD i "" = tabW.getD j "" → i = j := by decide +kernel
theorem ev_dd {d e : Dd} (g : d.Good) (g' : e.Good) (h : PyData.eqv (ddD d) (ddD e) = true) : d = e := by
  have h : PyData.eqvAll (.str d.w :: d.ps.map ptD) (.str e.w :: e.ps.map ptD) = true := by simpa only [ddD, PyData.eqv] using h
  rw [ev_cons, ev_str, Bool.and_eq_true, decide_eq_true_eq] at h
  have hi := w_inj d.i g.i9 e.i g'.i9 h.1
  have hp := ev_pts (by rw [g.kd, g'.kd, hi]) h.2
  obtain ⟨i, ps⟩ := d
  obtain ⟨j, qs⟩ := e
  have hi : i = j := hi
  have hp : ps = qs := hp
  rw [hi, hp]
theorem ev_dds : ∀ {ds es : List Dd}, (∀ d ∈ ds, d.Good) → (∀ d ∈ es, d.Good) → PyData.eqvAll (ds.map ddD) (es.map ddD) = true → ds = es
  | [], [], _, _, _ => rfl
  | [], _ :: _, _, _, h => by simp [PyData.eqvAll] at h
  | _ :: _, [], _, _, h => by simp [PyData.eqvAll] at h
  | d :: ds, e :: es, g, g', h => by
    rw [List.map_cons, List.map_cons, ev_cons, Bool.and_eq_true] at h
    rw [ev_dd (g d (List.mem_cons_self ..)) (g' e (List.mem_cons_self ..)) h.1, ev_dds (fun z hz => g z (List.mem_cons_of_mem _ hz)) (fun z hz => g' z (List.mem_cons_of_mem _ hz)) h.2]
def Stp.w0 : Stp → Str
  | .one d => d.w
  | .all _ => "all"
  | .sync => "sync"
def Stp.rest : Stp → List PyData
  | .one d => d.ps.map ptD
  | .all ds => [.tuple (ds.map ddD)]
  | .sync => []
theorem stpD_eq (s : Stp) : stpD s = .tuple (.str s.w0 :: s.rest) := by cases s <;> rfl
theorem ev_stp {s t : Stp} (g : s.Good) (g' : t.Good) (h : PyData.eqv (stpD s) (stpD t) = true) : s = t := by
  have hw : s.w0 = t.w0 ∧ PyData.eqvAll s.rest t.rest = true := by
    rw [stpD_eq, stpD_eq] at h
    have h : PyData.eqvAll (.str s.w0 :: s.rest) (.str t.w0 :: t.rest) = true := by simpa only [PyData.eqv] using h
    rw [ev_cons, ev_str, Bool.and_eq_true, decide_eq_true_eq] at h
    exact h
  cases s with
  | one d => cases t with
    | one e => exact congrArg _ (ev_dd g g' h)
    | all es => exact absurd hw.1 (w_all d.i g.i9).1
    | sync => exact absurd hw.1 (w_all d.i g.i9).2
  | all ds => cases t with
    | one e => exact absurd hw.1.symm (w_all e.i g'.i9).1
    | all es =>
      have h2 : PyData.eqvAll [.tuple (ds.map ddD)] [.tuple (es.map ddD)] = true := hw.2
      rw [ev_cons, Bool.and_eq_true] at h2
      have h3 : PyData.eqvAll (ds.map ddD) (es.map ddD) = true := by simpa only [PyData.eqv] using h2.1
      exact congrArg _ (ev_dds (fun z hz => (g.2.2 z hz).1) (fun z hz => (g'.2.2 z hz).1) h3)
    | sync => exact absurd (show ("all" : Str) = "sync" from hw.1) (by decide)
  | sync => cases t with
    | one e => exact absurd hw.1.symm (w_all e.i g'.i9).2
    | all es => exact absurd (show ("sync" : Str) = "all" from hw.1) (by decide)
    | sync => rfl
end K19
/-! tuple(reversed(a tuple)) -/
namespace RT
open PySem PySem.Spec PyProof.Rows L2
theorem nolen_rt : typeLookup (.type "reversed") "__len__" = pure none := by rw [typeLookup_type, builtinLookup_eq_fast]; kernel_rfl
theorem hint_rt : typeLookup (.type "reversed") "__length_hint__" = pure (some (.builtin "reversed.__length_hint__")) := by rw [typeLookup_type, builtinLookup_eq_fast]; kernel_rfl
theorem slot_rt_hint : Slot "reversed" "__length_hint__" "reversed.__length_hint__" :=
  .of (owner := "reversed") (n := "__length_hint__") (by rw [typeLookup_type, builtinLookup_eq_fast]; kernel_rfl) (by decide +kernel) (by decide +kernel) (by decide +kernel)
    (by first | exact .inl (by decide +kernel) | exact .inr (by decide +kernel)) (by rw [isSubtype_type]; kernel_rfl)
theorem entry_rt_hint : entryFor table "reversed.__length_hint__" = some Builtin.«reversed.__length_hint__» := entryFor_of_tree (by kernel_rfl)
theorem args_rt_hint (a : Value) : argsOk "reversed.__length_hint__" ⟨[a], []⟩ := by
  unfold argsOk; rw [signature?_of (id := "reversed.__length_hint__") (n := "__length_hint__".toList.reverse) (o := ['d', 'e', 's', 'r', 'e', 'v', 'e', 'r']) (by kernel_rfl) owner_rt]; kernel_rfl
section
variable {prog : Program} {w : World} {A : Around} {E : Value → Shared → Prop} {s : Shared}
theorem hint_call {it t : Addr} {items : Array Value} {Q : Value → Shared → Prop} (hit : IsRt s.heap it t ((items.size : Int) - 1)) (ht : IsTup s.heap t items)
    (hlen : ∀ (A : Around) (E : Value → Shared → Prop) (Q : Value → Shared → Prop), Q (.int items.size (s.toks + 1)) { s with toks := s.toks + 1 + 1 } → wpAny (model prog w) A (call (.builtin "len") [.ref t]) Q E s)
    (h : ∀ tk tk', Q (.int (items.size : Int) tk) { s with toks := tk' }) : wpAny (model prog w) A (call (.builtin "reversed.__length_hint__") [.ref it]) Q E s := by
  obtain ⟨o, ho, hc, hd⟩ := id hit
  refine wpAny_call_entry slot_rt_hint hit.typeIs entry_rt_hint ?_ (args_rt_hint _)
  unfold Builtin.«reversed.__length_hint__»
  refine wpAny_bind (wpAny_of_eq (a := Value.ref it) rfl ?_)
  try dsimp only
  refine wpAny_bind (wpAny_field ho hd (x := .ref t) rfl ?_)
  try dsimp only
  rw [if_neg (show ¬ ((Value.ref t == Value.none) = true) from Bool.false_ne_true)]
  refine wpAny_bind (hlen _ _ _ ?_)
  refine wpAny_bind (wpAny_of_eq (a := some ((items.size : Nat) : Int)) rfl ?_)
  try dsimp only
  refine wpAny_bind (wpAny_field (s := { s with toks := s.toks + 1 + 1 }) ho hd (x := rawInt ((items.size : Int) - 1)) rfl ?_)
  show wpAny _ _ (if ((items.size : Nat) : Int) < (items.size : Int) - 1 + 1 then _ else _) _ _ _
  rw [if_neg (by omega)]
  rw [show (items.size : Int) - 1 + 1 = (items.size : Int) by omega]
  unfold retInt
  refine wpAny_bind (wpAny_mkInt ?_)
  exact wpAny_pure ⟨_, rfl, h _ _⟩
end
theorem tup_keep {h h' : Heap} {t : Addr} {items : Array Value} (x : IsTup h t items) (e : ∀ o, h.get? t = some o → h'.get? t = some o) : IsTup h' t items := by
  obtain ⟨o, ho, r⟩ := x
  exact ⟨o, e _ ho, r⟩
theorem walks_rt {prog : Program} {w : World} {A : Around} (hh : A.handled = none) (I t : Addr) (hne : t ≠ I) (items : Array Value) (hsz : items.size ≤ sizeLine) :
    Walks prog w A I [I, t] [I] items.size (fun i v => items[items.size - 1 - i]? = some v) (fun i h => i ≤ items.size ∧ IsRt h I t ((items.size : Int) - 1 - (i : Int)) ∧ IsTup h t items) where
  sub := fun b hb => by simp at hb; simp [hb]
  frame := fun _ _ _ x hk => ⟨x.1, x.2.1.at fun o e => hk I (by simp) o e, tup_keep x.2.2 fun o e => hk t (by simp) o e⟩
  item := fun i s Q E hi x hQ => by
    have e : (items.size : Int) - 1 - (i : Int) = ((items.size - 1 - i : Nat) : Int) := by omega
    have hit := x.2.1
    rw [e] at hit
    have hx : items[items.size - 1 - i]? = some (items[items.size - 1 - i]'(by omega)) := Array.getElem?_eq_getElem (by omega)
    refine next_rt_item hit x.2.2 hx hsz fun h' hit' hs' => ?_
    have e2 : ((items.size - 1 - i : Nat) : Int) - 1 = (items.size : Int) - 1 - ((i + 1 : Nat) : Int) := by omega
    rw [e2] at hit'
    exact hQ _ h' _ hx ⟨hi, hit', tup_keep x.2.2 fun o eo => (hs'.2 t hne).trans eo⟩ fun b o hb eo => hs'.extBut b o (fun h => hb (by simp [h])) eo
  done := fun s Q E x hQ => by
    have e : (items.size : Int) - 1 - (items.size : Int) = -1 := by omega
    have hit := x.2.1
    rw [e] at hit
    exact next_rt_end hh hit fun h' he' => hQ h' s.toks fun b o hb eo => he' b o (fun h => hb (by simp [h])) eo
  self := fun _ _ _ _ x hQ => iter_rt x.2.1 hQ
section
variable {prog : Program} {w : World} {A : Around} {E : Value → Shared → Prop} {s : Shared}
theorem collect_rt {it l : Addr} {items : Array Value} {Q : List Value → Shared → Prop} (hh : A.handled = none) (hit : IsRt s.heap it l ((items.size : Int) - 1)) (hl : IsTup s.heap l items) (hne : l ≠ it) (hpos : 0 < items.size) (hn : items.size ≤ sizeLine)
    (hQ : ∀ (h' : Heap) (tk : Nat) (acc : Array Value), (∀ b o, b ≠ it → s.heap.get? b = some o → h'.get? b = some o) → ItemsOf (fun i v => items[items.size - 1 - i]? = some v) acc items.size → Q acc.toList { s with heap := h', toks := tk }) :
    wpAny (model prog w) A (collect (.ref it)) Q E s := by
  have W := (walks_rt (prog := prog) (w := w) (A := A.in1) hh it l hne items hn).toS
  obtain ⟨oi, hoi, _⟩ := id hit
  obtain ⟨ol, hol, _⟩ := id hl
  have hSi : s.heap.objs.size ≠ it := Nat.ne_of_gt (Heap.lt_size hoi)
  have hSl : s.heap.objs.size ≠ l := Nat.ne_of_gt (Heap.lt_size hol)
  have hSf : s.heap.objs.size ∉ [it, l] := by simp only [List.mem_cons, List.not_mem_nil, or_false, not_or]; exact ⟨hSi, hSl⟩
  unfold collect
  refine wpAny_bind (wpAny_runValue (codeAny_builtin F.entry_proto_collect ?_))
  rw [Around.under_plainId F.plain_proto_collect _]
  show wpAny _ A.in1 (newList [] >>= fun l' => again (.builtin "list.__iadd__" ⟨[l', .ref it], []⟩)) _ _ s
  refine wpAny_bind (wpAny_newObj_type ?_)
  refine wpAny_pure ⟨plainId_quiet F.plain_list_iadd _, codeAny_builtin F.entry_list_iadd ?_⟩
  rw [Around.under_plainId F.plain_list_iadd _]
  have hS₁ : (s.heap.push { cls := .type "list", data := .seq ([] : List Value).toArray }).get? s.heap.objs.size = some { cls := .type "list", data := .seq ([] : List Value).toArray } := Heap.get?_push_size _ rfl
  have hit1 : IsRt (s.heap.push { cls := .type "list", data := .seq ([] : List Value).toArray }) it l ((items.size : Int) - 1) := hit.at fun o e => Heap.get?_push_of_some _ e
  have hl1 : IsTup (s.heap.push { cls := .type "list", data := .seq ([] : List Value).toArray }) l items := tup_keep hl fun o e => Heap.get?_push_of_some _ e
  have hT : ({ s with heap := s.heap.push { cls := .type "list", data := .seq ([] : List Value).toArray } } : Shared).TypeIs (.ref it) "reversed" := IsRt.typeIs (s := { s with heap := s.heap.push { cls := .type "list", data := .seq ([] : List Value).toArray } }) hit1
  have h1 : Builtin.List.listSameRef (.ref s.heap.objs.size) (.ref it) = false := by simp [Builtin.List.listSameRef, hSi]
  show wpAny _ A.in1 (Builtin.List.listExtendWith (.ref s.heap.objs.size) (.ref it) (.ref s.heap.objs.size)) _ _ _
  unfold Builtin.List.listExtendWith
  refine wpAny_bind (wpAny_typeOf hT ?_)
  rw [if_neg (by rw [h1]; decide)]
  refine wpAny_bind (iter_rt (s := { s with heap := s.heap.push { cls := .type "list", data := .seq ([] : List Value).toArray } }) hit1 ?_)
  refine wpAny_bind (wpAny_holding ?_)
  unfold Builtin.List.listLengthHint
  refine wpAny_bind (wpAny_specialOf hT nolen_rt ?_)
  show wpAny _ A.in1 (specialOf (Value.ref it) (Str.ofString "__length_hint__") >>= _) _ _ _
  refine wpAny_bind (wpAny_specialOf hT hint_rt ?_)
  generalize hid : ("reversed.__length_hint__" : String) = id0
  wp_delta
  rw [show splitId id0 = some ("reversed", "__length_hint__") from by subst hid; decide +kernel]
  subst hid
  refine wpAny_bind (wpAny_isInstance (b := true) hT (by rw [isSubtype_type]; kernel_rfl) ?_)
  try dsimp only
  rw [if_neg (show ¬ ((!true) = true) from Bool.false_ne_true)]
  rw [if_neg (by decide +kernel)]
  refine wpAny_bind (wpAny_rule ?_)
  refine wpAny_bind (wpAny_of_eq (slot_rt_hint.bind _) ?_)
  refine wpAny_bind (wpAny_attempt (hint_call (s := { s with heap := s.heap.push { cls := .type "list", data := .seq ([] : List Value).toArray } }) hit1 hl1 (fun A E Q k => len_tuple (s := { s with heap := s.heap.push { cls := .type "list", data := .seq ([] : List Value).toArray } }) hl1 (by have := line63; omega) k) fun tk tk' => ?_))
  have hai : asInt? (Value.int ((items.size : Nat) : Int) tk) = pure (some ((items.size : Nat) : Int)) := rfl
  simp only [hai, pure_bind]
  have hb := line63
  have hfit : Builtin.List.listFitsIndex ((items.size : Nat) : Int) = true := by
    unfold Builtin.List.listFitsIndex
    exact Bool.and_eq_true_iff.mpr ⟨decide_eq_true (by omega), decide_eq_true (by omega)⟩
  rw [if_neg (by rw [hfit]; exact Bool.false_ne_true)]
  rw [if_neg (by omega)]
  have htl : Builtin.List.listTooLong ((items.size : Nat) : Int).toNat = false := by
    rw [Int.toNat_natCast]
    exact decide_eq_false (Nat.not_lt.mpr hn)
  rw [if_neg (by rw [htl]; exact Bool.false_ne_true)]
  refine wpAny_pure ?_
  have hne0 : (((items.size : Nat) : Int) != 0) = true := by rw [bne_iff_ne]; omega
  rw [hne0, Bool.true_or, if_pos rfl]
  refine wpAny_bind (wpAny_rule ?_)
  unfold Builtin.List.listTouch
  show wpAny _ _ ((updateSeq s.heap.objs.size (fun a => a.push .none) >>= fun _ => updateSeq s.heap.objs.size (fun a => a.pop)) >>= _) _ _ _
  have S2 := Heap.get?_update_self (Obj.mapSeq (fun a : Array Value => a.push .none)) hS₁ rfl
  have S3 := Heap.get?_update_self (Obj.mapSeq (fun a : Array Value => a.pop)) S2 rfl
  have S4 : (((s.heap.push { cls := .type "list", data := .seq ([] : List Value).toArray }).update s.heap.objs.size (Obj.mapSeq (fun a : Array Value => a.push .none))).update s.heap.objs.size (Obj.mapSeq (fun a : Array Value => a.pop))).get? s.heap.objs.size = some { cls := .type "list", dict := none, data := .seq #[] 2, slots := #[] } := S3
  have rest : ∀ b o, b ≠ s.heap.objs.size → (s.heap.push { cls := .type "list", data := .seq ([] : List Value).toArray }).get? b = some o → (((s.heap.push { cls := .type "list", data := .seq ([] : List Value).toArray }).update s.heap.objs.size (Obj.mapSeq (fun a : Array Value => a.push .none))).update s.heap.objs.size (Obj.mapSeq (fun a : Array Value => a.pop))).get? b = some o :=
    fun b o hb e => (Heap.get?_update_other _ _ (Ne.symm hb)).trans ((Heap.get?_update_other _ _ (Ne.symm hb)).trans e)
  have hit2 := hit1.at fun o e => rest it o (Ne.symm hSi) e
  have hl2 := tup_keep hl1 fun o e => rest l o (Ne.symm hSl) e
  refine wpAny_bind (wpAny_bind (wpAny_updateSeq hS₁ rfl ?_ (hz := Nat.zero_le _) (_hz' := Nat.succ_le_succ (Nat.zero_le _))))
  refine wpAny_updateSeq (s := { s with heap := (s.heap.push { cls := .type "list", data := .seq ([] : List Value).toArray }).update s.heap.objs.size (Obj.mapSeq (fun a : Array Value => a.push .none)), toks := tk' }) (xs := #[Value.none]) (n := 1) S2 rfl ?_ (hz := (by decide : 1 ≤ sizeLine)) (_hz' := Nat.zero_le _)
  have e0 : ((items.size : Nat) : Int) - 1 - ((0 : Nat) : Int) = (items.size : Int) - 1 := by omega
  refine wpAny_pure ⟨plainId_quiet F.plain_extend_loop _, codeAny_extend_loopS W hn _ hSf _ items.size 0 _ _ _ rfl (Nat.zero_le _) ⟨Nat.zero_le _, by rw [e0]; exact hit2, hl2⟩ S4 (ItemsOf.nil _) fun s' acc' c' hm hS' hacc => ?_⟩
  show wpAny _ A (load s.heap.objs.size >>= _) _ _ s'
  refine wpAny_bind (wpAny_load hS' ?_)
  refine wpAny_pure ?_
  rw [Moved.eq_with hm]
  refine hQ s'.heap s'.toks acc' (fun b o hb e => hm.heap b o (fun hmem => ?_) (rest b o (fun z => by have := Heap.lt_size e; rw [z] at this; exact absurd this (Nat.lt_irrefl _)) (Heap.get?_push_of_some _ e))) hacc
  rcases List.mem_cons.mp hmem with e' | hmem
  · exact absurd (Heap.lt_size e) (by rw [e']; exact Nat.lt_irrefl _)
  · exact hb (List.mem_singleton.mp hmem)
theorem code_tuple_new_rt {it l : Addr} {items : Array Value} {Q₁ : Value → Shared → Prop} (hh : A.handled = none) (hit : IsRt s.heap it l ((items.size : Int) - 1)) (hl : IsTup s.heap l items) (hne : l ≠ it) (hpos : 0 < items.size) (hn : items.size ≤ sizeLine)
    (h : ∀ (h' : Heap) (tk : Nat) (acc : Array Value), (∀ b o, b ≠ it → s.heap.get? b = some o → h'.get? b = some o) → ItemsOf (fun i v => items[items.size - 1 - i]? = some v) acc items.size →
      Q₁ (.ref h'.objs.size) { s with heap := h'.push { cls := .type "tuple", data := .seq acc }, toks := tk }) :
    codeAny (model prog w) A (.call (.builtin "tuple.__new__") ⟨[.type "tuple", .ref it], []⟩) (wants Q₁ E) s := by
  refine codeAny_of_tree ?_
  show wpAny _ A.in1 (do checkBuiltinCall "tuple.__new__" ⟨[.type "tuple", .ref it], []⟩; again (.builtin "tuple.__new__" ⟨[.type "tuple", .ref it], []⟩)) _ _ s
  refine wpAny_bind (wpAny_of_eq (F.newCall_tuple_1 _) (wpAny_pure ⟨plainId_quiet F.plain_tuple_new _, codeAny_builtin F.entry_tuple_new ?_⟩))
  rw [Around.under_plainId F.plain_tuple_new _]
  have hsub := sub_tuple_self
  have hinit := init_tuple_lookup
  have hmh := madeHere_tuple
  have hTI : s.TypeIs (.ref it) "reversed" := hit.typeIs
  have hh1 : A.in1.handled = none := hh
  wp_walk using wpAny_typeOf hTI, collect_rt (A := A.in1) hh1 hit hl hne hpos hn
  intro h' tk acc hk hacc
  show wpAny _ _ (Builtin.Tuple.tupleExact acc.toList.toArray >>= fun v => ret v) _ _ _
  unfold Builtin.Tuple.tupleExact
  refine wpAny_bind (wpAny_newObj_type ?_ (by show acc.toList.toArray.size ≤ sizeLine; simp only [Array.toArray_toList]; rw [hacc.1]; exact hn))
  refine wpAny_pure ?_
  have e : acc.toList.toArray = acc := by simp
  rw [e]
  exact h h' tk acc hk hacc
theorem call_tuple_rt {it l : Addr} {items : Array Value} {Q : Value → Shared → Prop} (hh : A.handled = none) (hit : IsRt s.heap it l ((items.size : Int) - 1)) (hl : IsTup s.heap l items) (hne : l ≠ it) (hpos : 0 < items.size) (hn : items.size ≤ sizeLine)
    (hQ : ∀ (h' : Heap) (tk : Nat) (acc : Array Value), (∀ b o, b ≠ it → s.heap.get? b = some o → h'.get? b = some o) → ItemsOf (fun i v => items[items.size - 1 - i]? = some v) acc items.size →
      Q (.ref h'.objs.size) { s with heap := h'.push { cls := .type "tuple", data := .seq acc }, toks := tk }) :
    wpAny (model prog w) A (call (.type "tuple") [.ref it]) Q E s := by
  refine callType_codes (Q₁ := fun obj s₁ => s₁.TypeIs obj "tuple" ∧ Q obj s₁) F.called_tuple (F.typeCall_tuple_1 _) F.entry_object_init
    (code_tuple_new_rt (A := A.in1) hh hit hl hne hpos hn fun h' tk acc hk hacc => ⟨⟨_, Heap.get?_push_size _ rfl, rfl⟩, hQ h' tk acc hk hacc⟩) fun obj s₁ h₁ => ?_
  exact ⟨h₁.1, F.args_object_init_2 obj _, object_init_meets F.called_tuple.init.lookup F.called_tuple.made (by decide) prog w A.in1 _ s₁ ⟨h₁.1, rfl, h₁.2⟩⟩
end
def tTupRevT (K : PySem.W.Frag) (te : TE) : TE := fun σ H Q => te σ H fun v H1 => ∃ (a : Addr) (xs : List V), v = .ref a ∧ SqT K H1 a xs ∧ xs ≠ [] ∧ ∀ q, H1 q = none → Q (.ref q) (upd H1 q (.tup xs.reverse))
section
variable {X : Cx} {K : PySem.W.Frag}
theorem pe_tupRevT {e : Expr} {te : TE} {p p2 pos pos2 : Pos} (hc : X.calm = true) (hg : Gl X "tuple") (hm : X.mg "tuple" = none) (hg2 : Gl X "reversed") (hm2 : X.mg "reversed" = none) (he : PE X e te) (hK : X.K = K := by rfl)
    (hs : starEach [e] X.env = (false, eval e X.env) :: starEach [] X.env := by rfl)
    (hs2 : starEach [.Call (.Name "reversed" p2) [e] [] pos2] X.env = (false, eval (.Call (.Name "reversed" p2) [e] [] pos2) X.env) :: starEach [] X.env := by rfl) :
    PE X (.Call (.Name "tuple" p) [.Call (.Name "reversed" p2) [e] [] pos2] [] pos) (tTupRevT K te) := by
  subst hK
  refine ⟨fun pins s σ H Q I h => ?_⟩
  refine Call_ (ld_blt I hg hm boot_tuple (PyProof.Rows.callWith_type1 (args_cons (Call_ (ld_blt I hg2 hm2 PyProof.Rows.boot_reversed (PyProof.Rows.callWith_type1 (args_cons (thn (he.run pins s σ H _ I h) fun u s1 ⟨v, H1, I1, r1, q1⟩ => args_nil ?_) hs) hs rfl))) hs2) hs2 rfl))
  obtain ⟨a, xs, ev, hq, hx, q⟩ := q1
  subst ev
  obtain rfl : u = Value.ref a := r1
  obtain ⟨its, rv, p', hz⟩ := I1.tuple hq
  have hn := line63
  have hl := rv.length
  refine call_reversed_tup p' (fun A E Q k => len_tuple p' (by simp only [List.size_toArray] <;> omega) k) (args_nil ?_)
  have k0 : ∀ b o, s1.heap.get? b = some o → (s1.heap.push (rtObj a ((its.toArray.size : Int) - 1))).get? b = some o := fun b o e => Heap.get?_push_of_some _ e
  have I2 : Inv X pins σ H1 { s1 with heap := s1.heap.push (rtObj a ((its.toArray.size : Int) - 1)), toks := s1.toks + 1 + 1 } := I1.kept (t' := s1.toks + 1 + 1) k0
  obtain ⟨f0, f1, f2, f3, f4, f5⟩ := I1.fpOk (H' := H1) (b := s1.heap.objs.size) (Nat.le_refl _) (I1.hok.fresh (Nat.le_refl _))
  obtain ⟨ol, hol, _⟩ := id p'
  have hne : a ≠ s1.heap.objs.size := Nat.ne_of_lt (Heap.lt_size hol)
  have hn : its.toArray.size ≤ sizeLine := by rw [List.size_toArray, ← rv.length]; exact hz
  refine call_tuple_rt (s := { s1 with heap := s1.heap.push (rtObj a ((its.toArray.size : Int) - 1)), toks := s1.toks + 1 + 1 }) (I1.ok.hd hc) ⟨_, Heap.get?_push_size _ rfl, rfl, rfl⟩ (tup_keep p' fun o e => k0 a o e) hne (by rw [List.size_toArray, ← rv.length]; exact List.length_pos_iff.mpr hx) hn fun h' tk acc hk hi => ?_
  have I3 : Inv X pins σ H1 { s1 with heap := h', toks := tk } := I2.turned (t' := tk) (fun b o hb e => hk b o hb e) f0 f1 f3 f4 f5
  refine ⟨.ref h'.objs.size, upd H1 h'.objs.size (.tup xs.reverse), I3.laid (t' := tk) (fun c o e => Heap.get?_push_of_some _ e) (Nat.le_refl _) (show ObjOk X.prog X.w _ _ _ (.tup xs.reverse) from ⟨by rw [List.length_reverse]; exact hz, acc.toList, vals_rev rv hi, ?_⟩), rfl, q _ (I3.hok.fresh (Nat.le_refl _))⟩
  rw [Array.toArray_toList]
  exact IsTup.new _ _
end
end RT
/-! near steps -/
namespace K19
open PySem PySem.Spec PyProof.Rows L2 VB BM
section
variable {P : Program} {w : World} {K : PySem.W.Frag} {mg : Str → Option Value} {base : Heap} {f : Addr} {fd : FuncData}
theorem eq_sync {H : Hp} {v : V} {e : Addr} {s : Stp} {Q : VK} (h : StpT H v s) (g : s.Good) (he : H e = some (.tup [.str "sync"])) (q : Q (.bl s.isS) H) : rEqU K v (.ref e) H Q := by
  refine .inr ⟨stpD s, stpD .sync, dp_stp h, dp_stp (s := .sync) ⟨e, rfl, he⟩, shp_stp g, shp_stp (s := .sync) trivial, ?_⟩
  have ev : PyData.eqv (stpD s) (stpD .sync) = s.isS := by
    cases h : PyData.eqv (stpD s) (stpD .sync) with
    | true =>
      rw [ev_stp g (t := .sync) trivial h]
      rfl
    | false =>
      cases s with
      | sync => rw [SeqAt.eqv_refl _ (can_stp (s := .sync) trivial)] at h; cases h
      | one d => rfl
      | all ds => rfl
  rw [ev]
  exact q
/-- path != () -/
theorem ne_unit {H : Hp} {a e : Addr} {p : List Str} {Q : VK} (g : ∀ x ∈ p, Nm x) (h : H a = some (.tup (p.map V.str))) (he : H e = some (.tup [])) (q : Q (.bl (!decide (p = []))) H) : rNeU K (.ref a) (.ref e) H Q := by
  refine .inr ⟨.tuple (p.map .str), .tuple [], .tup (SqT.of h) (dp_strs p), .tup (SqT.of he) .nil, shp_of (can_strs g) (Nat.le_trans (dep_strs p) (by decide)), shp_of rfl (by decide), ?_⟩
  have ev : PyData.eqv (.tuple (p.map PyData.str)) (.tuple []) = decide (p = []) := by
    cases p with
    | nil => simp [PyData.eqv, PyData.eqvAll]
    | cons r rs => simp [PyData.eqv, PyData.eqvAll]
  rw [ev]
  exact q
theorem good_p {i : Nat} {p p' : List Str} {rp : List Pt} (g : (⟨i, .path p :: rp⟩ : Dd).Good) (hp : ∀ x ∈ p', Nm x) (hl : p'.length ≤ 40) : (⟨i, .path p' :: rp⟩ : Dd).Good :=
  ⟨g.i9, g.kd, fun x hx => by
    rcases List.mem_cons.mp hx with rfl | hx
    · exact ⟨hp, hl⟩
    · exact g.gd x (List.mem_cons_of_mem _ hx)⟩
theorem good_s {i : Nat} {p : Pt} {n n' : Int} {rp : List Pt} (g : (⟨i, p :: .size n :: rp⟩ : Dd).Good) (h0 : 0 ≤ n') (h1 : n' ≤ 96) : (⟨i, p :: .size n' :: rp⟩ : Dd).Good :=
  ⟨g.i9, g.kd, fun x hx => by
    rcases List.mem_cons.mp hx with rfl | hx
    · exact g.gd _ (List.mem_cons_self ..)
    · rcases List.mem_cons.mp hx with rfl | hx
      · exact ⟨h0, h1⟩
      · exact g.gd x (List.mem_cons_of_mem _ (List.mem_cons_of_mem _ hx))⟩
theorem path_first {d : Dd} (g : d.Good) (h : d.i < 7) : ∃ i p rp, d = ⟨i, .path p :: rp⟩ := by
  rcases dd_cases g with ⟨p, n, os, rfl⟩ | ⟨p, n, rfl⟩ | ⟨i, p, p', hi, rfl⟩ | ⟨i, p, hi, rfl⟩ | ⟨i, x, hi, rfl⟩
  · exact ⟨_, _, _, rfl⟩
  · exact ⟨_, _, _, rfl⟩
  · exact ⟨_, _, _, rfl⟩
  · exact ⟨_, _, _, rfl⟩
  · have h : i < 7 := h
    omega
theorem k9k : ∀ i, i < 9 → inV (V.str (tabW.getD i "")) [V.str "keep", V.str "let"] = decide (7 ≤ i) ∧ inV (V.str (tabW.getD i "")) [V.str "write", V.str "cut"] = decide (i = 2 ∨ i = 3) ∧ (tabW.getD i "" = "write" ↔ i = 2) ∧ (tabW.getD i "" = "keep" ↔ i = 7) := by decide +kernel
open TL in
theorem nm_x {x : Str} (h : Nm x) : Nm (cutS x none (some 7) ++ "x") := by
  have e : (cutS x none (some 7) ++ "x" : Str).cps.toList = ((tl x).drop 0).take (min 7 x.length - 0) ++ [120] := by
    have a : tl (cutS x none (some 7) ++ "x" : Str) = tl (cutS x none (some 7)) ++ tl ("x" : Str) := tl_append _ _
    have b : tl ("x" : Str) = [120] := by decide +kernel
    rw [b] at a
    have c : HT.sIx x.length x.length (some 7) = min 7 x.length := HT.sIx_nat _ _ 7
    rw [← c]
    exact a
  have ls : (cutS x none (some 7) ++ "x" : Str).cps.size = (cutS x none (some 7) ++ "x" : Str).cps.toList.length := by simp
  unfold Nm
  rw [ls, e]
  refine ⟨by rw [List.length_append]; exact Nat.le_add_left _ _, ?_, fun c hc => ?_⟩
  · rw [List.length_append, List.length_take]
    show _ + 1 ≤ 8
    omega
  · rcases List.mem_append.mp hc with hc | hc
    · exact h.2.2 c (List.mem_of_mem_drop (List.mem_of_mem_take hc))
    · rw [List.mem_singleton.mp hc]
      omega
theorem px_rev {α β : Type} {R : α → β → Prop} : ∀ {xs : List α} {ys : List β}, Paired R xs ys → Paired R xs.reverse ys.reverse
  | _, _, .nil => .nil
  | _, _, .cons r t => by
    rw [List.reverse_cons, List.reverse_cons]
    exact (px_rev t).snoc r
theorem px_take {α β : Type} {R : α → β → Prop} : ∀ (n : Nat) {xs : List α} {ys : List β}, Paired R xs ys → Paired R (xs.take n) (ys.take n)
  | 0, _, _, _ => .nil
  | n + 1, _, _, .nil => .nil
  | n + 1, _, _, .cons r t => .cons r (px_take n t)
theorem px_drop {α β : Type} {R : α → β → Prop} : ∀ (n : Nat) {xs : List α} {ys : List β}, Paired R xs ys → Paired R (xs.drop n) (ys.drop n)
  | 0, _, _, p => p
  | n + 1, _, _, .nil => .nil
  | n + 1, _, _, .cons r t => px_drop n t
def bnd : Bool → Int
  | true => 60000000
  | false => 60000100
def stp : Bool → Int
  | true => 20
  | false => 10
theorem bnd_le (b : Bool) : bnd b ≤ 60000100 ∧ 10 ≤ stp b := by cases b <;> decide
/-- b: deeds together too -/
def spNear (b : Bool) : Sp := fun vs H Q _ => ∃ (bx : Addr) (c : Int) (v : V) (s : Stp), vs = [.ref bx, v] ∧ Box H bx c ∧ c < bnd b ∧ StpT H v s ∧ s.Good ∧ s.Sm ∧ (b = false → ∃ d, s = .one d ∧ d.i < 7) ∧
  ∀ (v' : V) (s' : Stp) (H' : Hp), s'.Good → (b = false → ∃ d, s' = .one d ∧ d.i < 7) → StpT H' v' s' → Exb bx H H' → Box H' bx (c + stp b) → Q v' H'
theorem ok_near (b : Bool) {k : Nat} {sp : Sp} (hk : 1 ≤ k) (hsp : b = true → sp = spNear false) (T : Txt K mg) (F : FnP K "_law_near" s__law_near f fd) (C__law_take : Cal P w K mg base CX0 1 "_law_take" ["_law_box_here", "_law_many"] spTake) (C__law_near : Cal P w K mg base CX0 k "_law_near" ["_law_box_here", "_law_step_here"] sp) :
    Fg P w K mg base CX0 (k + 1) f fd ["_law_box_here", "_law_step_here"] (spNear b) := by
  refine fg_of F sc__law_near (fun vs H Q E h => ?_) (fun cdv A outer s0 H vs Q E hr h => ⟨_, (PSs.nox (pss_cons (ps_set (i := 2) sc__law_near.nd rfl (by first | exact Or.inl rfl | exact Or.inr rfl) (pe_cal C__law_take hr.le pass0 (pa_cons (pv 0) (pa_cons pe_int pa_nil))))
  (pss_cons (ps_if (PW.pt (pw_or (pt_cmpR (u_eq (K := K) hr) (pv 2) pe_int (nomark _)) (pw_or1 (pt_cmpR (u_eq (K := K) hr) (pv 1) (pe_tup (pa_cons pe_str pa_nil)) (nomark _)))))
  (pss_one (ps_ret (pv 1))) pss_nil)
  (pss_cons (ps_if (pt_cmpR (u_eq (K := K) hr) (pe_ix (u_ix (K := K)) (pv 1) pe_int (fun _ _ => rfl)) pe_str (nomark _))
  (pss_cons (ps_set (i := 3) sc__law_near.nd rfl (by first | exact Or.inl rfl | exact Or.inr rfl) (pe_cal C__law_take hr.le pass0 (pa_cons (pv 0) (pa_cons (pe_callB (u_len (K := K)) (by rfl) T.f_len (by decide +kernel) (pa_cons (pe_ix (u_ix (K := K)) (pv 1) pe_int (fun _ _ => rfl)) pa_nil)) pa_nil))))
  (pss_cons (ps_set (i := 4) sc__law_near.nd rfl (by first | exact Or.inl rfl | exact Or.inr rfl) (pe_cal C__law_near hr.le pass0 (pa_cons (pv 0) (pa_cons (pe_ix (u_ix (K := K)) (pe_ix (u_ix (K := K)) (pv 1) pe_int (fun _ _ => rfl)) (pv 3) (fun _ _ => rfl)) pa_nil))))
  (pss_one (ps_ret (pe_ifExp (pt_cmpR op_lt (pv 2) pe_int (nomark _)) (pe_tup (pa_cons pe_str (pa_cons (pe_op (u_addX (K := K)) (pe_op (u_addX (K := K)) (pe_slice (u_sl (K := K)) (pe_ix (u_ix (K := K)) (pv 1) pe_int (fun _ _ => rfl)) po_none (po_some (pv 3))) (pe_tup (pa_cons (pv 4) pa_nil))) (pe_slice (u_sl (K := K)) (pe_ix (u_ix (K := K)) (pv 1) pe_int (fun _ _ => rfl)) (po_some (pe_op (u_addX (K := K)) (pv 3) pe_int)) po_none)) pa_nil))) (pe_tup (pa_cons pe_str (pa_cons (RT.pe_tupRevT (K := K) rfl rfl T.f_tuple rfl T.f_reversed (pe_ix (u_ix (K := K)) (pv 1) pe_int (fun _ _ => rfl))) pa_nil)))))))) pss_nil)
  (pss_cons (ps_if (pt_cmpR (u_in (K := K)) (pe_ix (u_ix (K := K)) (pv 1) pe_int (fun _ _ => rfl)) (pe_lst (pa_cons pe_str (pa_cons pe_str pa_nil))) (by rfl))
  (pss_one (ps_ret (pe_ifExp (pt_cmpR (u_eq (K := K) hr) (pv 2) pe_int (nomark _)) (pe_tup (pa_cons (pe_ifExp (pt_cmpR (u_eq (K := K) hr) (pe_ix (u_ix (K := K)) (pv 1) pe_int (fun _ _ => rfl)) pe_str (nomark _)) pe_str pe_str) (pa_cons (pe_ix (u_ix (K := K)) (pv 1) pe_int (fun _ _ => rfl)) pa_nil))) (pe_tup (pa_cons (pe_ix (u_ix (K := K)) (pv 1) pe_int (fun _ _ => rfl)) (pa_cons (pe_op (u_addX (K := K)) (pe_slice (u_sl (K := K)) (pe_ix (u_ix (K := K)) (pv 1) pe_int (fun _ _ => rfl)) po_none (po_some pe_int)) pe_str) pa_nil)))))) pss_nil)
  (pss_cons (ps_if (PW.pt (pw_and (pt_cmpR (u_eq (K := K) hr) (pv 2) pe_int (nomark _)) (pw_and1 (pt_cmpR (u_ne (K := K) hr) (pe_ix (u_ix (K := K)) (pv 1) pe_int (fun _ _ => rfl)) (pe_tup pa_nil) (nomark _)))))
  (pss_one (ps_ret (pe_op (u_addX (K := K)) (pe_tup (pa_cons (pe_ix (u_ix (K := K)) (pv 1) pe_int (fun _ _ => rfl)) (pa_cons (pe_slice (u_sl (K := K)) (pe_ix (u_ix (K := K)) (pv 1) pe_int (fun _ _ => rfl)) po_none (po_some (pe_un un_neg pe_int))) pa_nil))) (pe_slice (u_sl (K := K)) (pv 1) (po_some pe_int) po_none)))) pss_nil)
  (pss_cons (ps_if (PW.pt (pw_and (pt_cmpR (u_eq (K := K) hr) (pv 2) pe_int (nomark _)) (pw_and1 (pt_cmpR (u_eq (K := K) hr) (pe_ix (u_ix (K := K)) (pv 1) pe_int (fun _ _ => rfl)) pe_str (nomark _)))))
  (pss_one (ps_ret (pe_op (u_addX (K := K)) (pe_slice (u_sl (K := K)) (pv 1) po_none (po_some pe_int)) (pe_tup (pa_cons (pe_op (u_addX (K := K)) (pe_slice (u_sl (K := K)) (pe_ix (u_ix (K := K)) (pv 1) pe_int (fun _ _ => rfl)) po_none (po_some (pe_un un_neg pe_int))) (pe_tup (pa_cons (pe_op u_mod (pe_callTy call_int1 (by rfl) T.f_int (by decide +kernel) (pa_cons (pe_op (u_addX (K := K)) (pe_ix (u_ix (K := K)) (pe_ix (u_ix (K := K)) (pv 1) pe_int (fun _ _ => rfl)) (pe_un un_neg pe_int) (fun _ _ => rfl)) pe_int) pa_nil)) pe_int) pa_nil))) pa_nil))))) pss_nil)
  (pss_cons (ps_if (PW.pt (pw_and (pt_cmpR (u_eq (K := K) hr) (pv 2) pe_int (nomark _)) (pw_and1 (pt_cmpR (u_in (K := K)) (pe_ix (u_ix (K := K)) (pv 1) pe_int (fun _ _ => rfl)) (pe_lst (pa_cons pe_str (pa_cons pe_str pa_nil))) (by rfl)))))
  (pss_one (ps_ret (pe_op (u_addX (K := K)) (pe_op (u_addX (K := K)) (pe_slice (u_sl (K := K)) (pv 1) po_none (po_some pe_int)) (pe_tup (pa_cons (pe_op u_mod (pe_callTy call_int1 (by rfl) T.f_int (by decide +kernel) (pa_cons (pe_op (u_addX (K := K)) (pe_ix (u_ix (K := K)) (pv 1) pe_int (fun _ _ => rfl)) pe_int) pa_nil)) pe_int) pa_nil))) (pe_slice (u_sl (K := K)) (pv 1) (po_some pe_int) po_none)))) pss_nil)
  (pss_one (ps_ret (pe_op (u_addX (K := K)) (pe_tup (pa_cons (pe_ix (u_ix (K := K)) (pv 1) pe_int (fun _ _ => rfl)) (pa_cons (pe_op (u_addX (K := K)) (pe_ix (u_ix (K := K)) (pv 1) pe_int (fun _ _ => rfl)) (pe_tup (pa_cons pe_str pa_nil))) pa_nil))) (pe_slice (u_sl (K := K)) (pv 1) (po_some pe_int) po_none)))))))))))), ?_⟩)
  · obtain ⟨bx, c, v, s, rfl, _⟩ := h
    rfl
  · obtain ⟨bx, c, v, s, rfl, B, hc, at_, g, sm, one, q⟩ := h
    obtain ⟨b1, b2⟩ := bnd_le b
    refine ⟨_, rfl, bx, 4, c, rfl, B, by decide, by decide, by omega, fun r H1 r0 r4 e1 B1 => ?_⟩
    have at_ := at_.tx (.exb e1 B)
    refine ⟨_, rfl, .inl ⟨rfl, _, rfl, ?_⟩⟩
    rw [dki]
    by_cases w0 : r = 0
    · rw [decide_eq_true w0]
      exact iteT (iteT ⟨_, rfl, q v s H1 g one at_ e1 (B1.le (by omega))⟩)
    rw [decide_eq_false w0]
    refine iteF ⟨_, rfl, by show 1 ≤ sizeLine; decide, fun e ne => ?_⟩
    have ye := Evl.Ex.new (o := .tup [V.str "sync"]) ne
    have at_ := at_.ex ye
    refine eq_sync at_ g upd_same ⟨_, rfl, ?_⟩
    have e1 := e1.trans (Exb.of ye)
    have B1 := B1.ex ye
    generalize upd H1 e (.tup [V.str "sync"]) = H2 at e1 B1 at_ ⊢
    cases s with
    | sync => exact iteT ⟨_, rfl, q v .sync H2 g one at_ e1 (B1.le (by omega))⟩
    | all ds =>
      obtain rfl : b = true := by
        cases b with
        | true => rfl
        | false =>
          obtain ⟨d, e, _⟩ := one rfl
          cases e
      obtain rfl := hsp rfl
      have hc : c < 60000000 := hc
      have hst : stp true = 20 := rfl
      have hsf : stp false = 10 := rfl
      rw [hst] at q
      obtain ⟨a, tb, vs, rfl, ha, hb, PP⟩ := at_
      have lv := px_len PP
      obtain ⟨g2, g4, gd⟩ := g
      refine iteF ⟨_, rfl, Sv.ix (x := V.str "all") (Sv.tup ha) (atI_nat (j := 0) rfl) (.inl ⟨rfl, _, rfl, ?_⟩)⟩
      rw [decide_eq_true rfl]
      refine iteT ⟨_, rfl, _, rfl, Sv.ix (x := V.ref tb) (Sv.tup ha) (atI_nat (j := 1) rfl) ⟨_, _, rfl, (Sv.tup (K := K) hb).len, bx, _, c + 1, rfl, B1, by omega, by omega, by omega, fun k H3 k0 kl e3 B3 => ?_⟩⟩
      obtain ⟨j, rfl⟩ : ∃ j : Nat, k = j := ⟨k.toNat, by omega⟩
      have hj : j < vs.length := by omega
      have t3 := TEx.exb e3 B1
      have ha := t3 _ _ ha
      have hb := t3 _ _ hb
      have PP := px_mono (fun _ _ z => z.tx t3) PP
      have hv : vs[j]? = some vs[j] := List.getElem?_eq_getElem hj
      obtain ⟨d, hd, da⟩ := pr_at PP hv
      have md := List.mem_of_getElem? hd
      refine ⟨_, rfl, _, rfl, Sv.ix (x := V.ref tb) (Sv.tup ha) (atI_nat (j := 1) rfl) ⟨_, rfl, Sv.ix (x := vs[j]) (Sv.tup hb) (atI_nat hv) ⟨bx, c + 2, vs[j], .one d, rfl, B3.le (by omega), (show c + 2 < 60000100 by omega), da, (gd d md).1, sm d md, fun _ => ⟨d, rfl, (gd d md).2⟩, fun v' s' H4 g' one' at' e4 B4 => ?_⟩⟩⟩
      obtain ⟨d', rfl, i7'⟩ := one' rfl
      have at' : DdT H4 v' d' := at'
      have t4 := TEx.exb e4 B3
      have ha := t4 _ _ ha
      have hb := t4 _ _ hb
      have PP := px_mono (fun _ _ z => z.tx t4) PP
      have E4 := (e1.trans e3).trans e4
      refine ⟨_, rfl, _, _, rfl, rfl, _, rfl, ?_⟩
      by_cases w3 : r < 3
      · rw [decide_eq_true w3]
        refine iteT ⟨_, rfl, Sv.ix (x := V.ref tb) (Sv.tup ha) (atI_nat (j := 1) rfl) ⟨_, rfl, (j : Int), rfl, sl_x hb (nwn hj) fun s1 G1 f1 h1 => ?_⟩⟩
        rw [cutn] at h1
        refine ⟨_, rfl, by show 1 ≤ sizeLine; decide, fun t nt => ?_⟩
        have yt := Evl.Ex.new (o := .tup [v']) nt
        refine cat_x (ys := [v']) (yt _ _ h1) upd_same (by rw [List.length_take]; show _ + 1 ≤ 1000; omega) fun u G2 f2 h2 => ?_
        have F2 := (f1.trans yt).trans f2
        refine ⟨_, rfl, Sv.ix (x := V.ref tb) (Sv.tup (F2 _ _ ha)) (atI_nat (j := 1) rfl) ⟨_, rfl, .inl (.inl (.inl ⟨_, _, rfl, rfl, _, rfl, ?_⟩))⟩⟩
        rw [show (j : Int) + 1 = ((j + 1 : Nat) : Int) by omega]
        refine sl_x (F2 _ _ hb) (nwd (i := j + 1) (by omega) (by omega)) fun s2 G3 f3 h3 => ?_
        rw [cutd] at h3
        refine cat_x (f3 _ _ h2) h3 (by rw [List.length_append, List.length_take, List.length_drop]; show _ + 1 + _ ≤ 1000; omega) fun z G4 f4 h4 => ?_
        refine ⟨by show 2 ≤ sizeLine; decide, fun x nx => ?_⟩
        have yx := Evl.Ex.new (o := .tup [V.str "all", .ref z]) nx
        have F := ((F2.trans f3).trans f4).trans yx
        have PN := pr_app ((px_take j PP).snoc at') (px_drop (j + 1) PP)
        refine q _ (.all (ds.take j ++ [d'] ++ ds.drop (j + 1))) _ ⟨?_, ?_, fun e he => ?_⟩ (fun z => absurd z (by decide)) ⟨x, z, _, rfl, upd_same, yx _ _ h4, px_mono (fun _ _ z => z.ex F) PN⟩ (E4.trans (Exb.of F)) ((B4.ex F).le ?_)
        · rw [List.length_append, List.length_append, List.length_take, List.length_drop]
          show 2 ≤ _ + 1 + _
          omega
        · rw [List.length_append, List.length_append, List.length_take, List.length_drop]
          show _ + 1 + _ ≤ 4
          omega
        · rcases List.mem_append.mp he with he | he
          · rcases List.mem_append.mp he with he | he
            · exact gd e (List.mem_of_mem_take he)
            · rw [List.mem_singleton.mp he]
              exact ⟨g', i7'⟩
          · exact gd e (List.mem_of_mem_drop he)
        · omega
      · rw [decide_eq_false w3]
        refine iteF ⟨_, rfl, Sv.ix (x := V.ref tb) (Sv.tup ha) (atI_nat (j := 1) rfl) ⟨tb, vs, rfl, SqT.of hb, fun z => by rw [z] at hj; exact absurd hj (by simp), fun z nz => ?_⟩⟩
        have yz := Evl.Ex.new (o := .tup vs.reverse) nz
        refine ⟨by show 2 ≤ sizeLine; decide, fun x nx => ?_⟩
        have yx := Evl.Ex.new (o := .tup [V.str "all", .ref z]) nx
        have F := yz.trans yx
        exact q _ (.all ds.reverse) _ ⟨by rw [List.length_reverse]; exact g2, by rw [List.length_reverse]; exact g4, fun e he => gd e (List.mem_reverse.mp he)⟩ (fun z => absurd z (by decide)) ⟨x, z, _, rfl, upd_same, yx _ _ upd_same, px_rev (px_mono (fun _ _ z => z.ex F) PP)⟩ (E4.trans (Exb.of F)) ((B4.ex F).le (by omega))
    | one d =>
      obtain ⟨a, vs, rfl, ha, PP⟩ := at_
      obtain ⟨kk, kc, kw, k7⟩ := k9k d.i g.i9
      have ex : ∀ {G : Hp}, Evl.Ex H2 G → Exb bx H G := fun e => e1.trans (Exb.of e)
      have bxx : ∀ {G : Hp}, Evl.Ex H2 G → Box G bx (c + stp b) := fun e => (B1.ex e).le (by omega)
      refine iteF ⟨_, rfl, Sv.ix (x := V.str d.w) (Sv.tup ha) (atI_nat (j := 0) rfl) (.inl ⟨rfl, _, rfl, ?_⟩)⟩
      rw [dks, decide_eq_false (show ¬ d.w = "all" from (w_all d.i g.i9).1)]
      refine iteF ⟨_, rfl, Sv.ix (x := V.str d.w) (Sv.tup ha) (atI_nat (j := 0) rfl) ⟨by show 2 ≤ sizeLine; decide, fun l nl => ⟨l, _, rfl, .inl (SqL.of upd_same), rfl, rfl, _, rfl, ?_⟩⟩⟩
      rw [show (if false = true then !inV (V.str d.w) [V.str "keep", V.str "let"] else inV (V.str d.w) [V.str "keep", V.str "let"]) = decide (7 ≤ d.i) from kk]
      have yl := Evl.Ex.new (o := .lst [V.str "keep", .str "let"]) nl
      have e1 := e1.trans (Exb.of yl)
      have B1 := B1.ex yl
      have ha := yl _ _ ha
      have PP := px_mono (fun _ _ z => z.ex yl) PP
      clear ex bxx
      generalize upd H2 l (.lst [V.str "keep", .str "let"]) = H3 at e1 B1 ha PP ⊢
      have ex : ∀ {G : Hp}, Evl.Ex H3 G → Exb bx H G := fun e => e1.trans (Exb.of e)
      have bxx : ∀ {G : Hp}, Evl.Ex H3 G → Box G bx (c + stp b) := fun e => (B1.ex e).le (by omega)
      by_cases h7 : 7 ≤ d.i
      · rw [decide_eq_true h7]
        have bt : b = false → False := fun z => by
          obtain ⟨d', e, h⟩ := one z
          cases e
          omega
        rcases dd_cases g with ⟨p, n, os, rfl⟩ | ⟨p, n, rfl⟩ | ⟨i, p, p', hi, rfl⟩ | ⟨i, p, hi, rfl⟩ | ⟨i, x, hi, rfl⟩
        · exact absurd h7 (by show ¬ 7 ≤ 2; decide)
        · exact absurd h7 (by show ¬ 7 ≤ 3; decide)
        · exact absurd h7 (by show ¬ 7 ≤ i; omega)
        · exact absurd h7 (by show ¬ 7 ≤ i; omega)
        have nx : Nm x := g.gd (.name x) (List.mem_singleton_self _)
        obtain ⟨v1, rfl, p1⟩ : ∃ v1, vs = [v1] ∧ PtT H3 v1 (.name x) := by
          cases PP with | cons h t => cases t; exact ⟨_, rfl, h⟩
        obtain rfl : v1 = .str x := p1
        refine iteT ⟨_, rfl, .inl ⟨rfl, _, rfl, ?_⟩⟩
        rw [dki]
        by_cases w1 : r = 1
        · rw [decide_eq_true w1]
          refine iteT ⟨_, rfl, Sv.ix (x := V.str (tabW.getD i "")) (Sv.tup ha) (atI_nat (j := 0) rfl) (.inl ⟨rfl, _, rfl, ?_⟩)⟩
          rw [dks]
          have fin : ∀ j, (j = 7 ∨ j = 8) → ∀ t, H3 t = none → Q (.ref t) (upd H3 t (.tup [.str (tabW.getD j ""), .str x])) := fun j hj t nt => by
            have xt := Evl.Ex.new (o := .tup [.str (tabW.getD j ""), V.str x]) nt
            exact q _ (.one ⟨j, [.name x]⟩) _ (good_n hj nx) (fun z => (bt z).elim) ⟨t, _, rfl, upd_same, .cons rfl .nil⟩ (ex xt) (bxx xt)
          by_cases i7 : i = 7
          · rw [decide_eq_true (show (⟨i, [.name x]⟩ : Dd).w = "keep" from k7.mpr i7)]
            exact iteT ⟨_, rfl, Sv.ix (x := V.str x) (Sv.tup ha) (atI_nat (j := 1) rfl) ⟨by show 2 ≤ sizeLine; decide, fun t nt => fin 8 (.inr rfl) t nt⟩⟩
          · rw [decide_eq_false (show ¬ (⟨i, [.name x]⟩ : Dd).w = "keep" from fun z => i7 (k7.mp z))]
            exact iteF ⟨_, rfl, Sv.ix (x := V.str x) (Sv.tup ha) (atI_nat (j := 1) rfl) ⟨by show 2 ≤ sizeLine; decide, fun t nt => fin 7 (.inl rfl) t nt⟩⟩
        · rw [decide_eq_false w1]
          refine iteF ⟨_, rfl, Sv.ix (x := V.str (tabW.getD i "")) (Sv.tup ha) (atI_nat (j := 0) rfl) ⟨_, rfl, Sv.ix (x := V.str x) (Sv.tup ha) (atI_nat (j := 1) rfl) ⟨7, rfl, .inr (.inr ⟨x, rfl, ?_, ?_⟩)⟩⟩⟩
          · exact Nat.le_trans (show x.cps.size ≤ 8 from nx.2.1) (by decide)
          · have nn := nm_x nx
            refine .inr ⟨_, _, rfl, rfl, ?_, by show 2 ≤ sizeLine; decide, fun t nt => ?_⟩
            · rw [← PySem.strLen_append, sizeLine_eq]
              have := nn.2.1
              have e : (cutS x none (some 7) ++ "x" : Str).length = (cutS x none (some 7) ++ "x" : Str).cps.size := rfl
              omega
            · have xt := Evl.Ex.new (o := .tup [.str (tabW.getD i ""), V.str (cutS x none (some 7) ++ "x")]) nt
              exact q _ (.one ⟨i, [.name (cutS x none (some 7) ++ "x")]⟩) _ (good_n hi nn) (fun z => (bt z).elim) ⟨t, _, rfl, upd_same, .cons rfl .nil⟩ (ex xt) (bxx xt)
      · rw [decide_eq_false h7]
        obtain ⟨i, p, rp, rfl⟩ := path_first g (by omega)
        have i7 : i < 7 := by have : ¬ 7 ≤ i := h7; omega
        have pl : p.length ≤ 9 := sm p (List.mem_cons_self ..)
        obtain ⟨gp, _⟩ := g.gd (.path p) (List.mem_cons_self ..)
        obtain ⟨pa, vr, rfl, hpa, PR⟩ : ∃ pa vr, vs = .ref pa :: vr ∧ H3 pa = some (.tup (p.map V.str)) ∧ Paired (PtT H3) vr rp := by
          cases PP with | cons h t => obtain ⟨pa, rfl, h⟩ := h; exact ⟨pa, _, rfl, h, t⟩
        have lr := px_len PR
        have l3 := dd_len g
        have l3 : (Pt.path p :: rp).length ≤ 3 := l3
        rw [List.length_cons] at l3
        have fin : ∀ (p' : List Str) (y t : Addr) (G : Hp), Evl.Ex H3 G → (∀ x ∈ p', Nm x) → p'.length ≤ 40 → G y = some (.tup (p'.map V.str)) → G t = some (.tup [.str (tabW.getD i ""), .ref y]) →
            (tSl (rSlU K) (tVar 1) (tPart (tC (V.int 2))) tNoPart) [some (.ref bx), some (.ref a), some (.int r), none, none] G (fun y' H => rAddX K (.ref t) y' H Q) := by
          intro p' y t G eG hp' hl' hy ht
          refine ⟨_, rfl, 2, rfl, sl_x (eG _ _ ha) (nwd (i := 2) (by decide) (by rw [List.length_cons]; omega)) fun s G2 e2 h2 => ?_⟩
          rw [show (2 : Int) = ((2 : Nat) : Int) from rfl, cutd] at h2
          have h2 : G2 s = some (.tup vr) := h2
          refine cat_x (e2 _ _ ht) h2 (by show 2 + _ ≤ 1000; omega) fun u G3 e3 h3 => ?_
          have E := (eG.trans e2).trans e3
          exact q _ (.one ⟨i, .path p' :: rp⟩) G3 (good_p g hp' hl') (fun _ => ⟨_, rfl, i7⟩) ⟨u, .ref y :: vr, rfl, h3, .cons ⟨y, rfl, (e2.trans e3) _ _ hy⟩ (px_mono (fun _ _ z => z.ex E) PR)⟩ (ex E) (bxx E)
        have last : ∀ G, Evl.Ex H3 G → (tRet (tOp (rAddX K) (tTup (tCons (tOp (rIx K) (tVar 1) (tC (V.int 0))) (tCons (tOp (rAddX K) (tOp (rIx K) (tVar 1) (tC (V.int 1))) (tTup (tCons (tC (V.str "a")) tNil))) tNil))) (tSl (rSlU K) (tVar 1) (tPart (tC (V.int 2))) tNoPart))) { nx := fun x H' => Q V.non H', rt := Q } [some (.ref bx), some (.ref a), some (.int r), none, none] G := by
          intro G eG
          refine ⟨_, rfl, Sv.ix (x := V.str (tabW.getD i "")) (Sv.tup (eG _ _ ha)) (atI_nat (j := 0) rfl) ⟨_, rfl, Sv.ix (x := V.ref pa) (Sv.tup (eG _ _ ha)) (atI_nat (j := 1) rfl) ⟨by show 1 ≤ sizeLine; decide, fun t nt => ?_⟩⟩⟩
          have yt := Evl.Ex.new (o := .tup [V.str "a"]) nt
          refine cat_x (ys := [V.str "a"]) ((eG.trans yt) _ _ hpa) upd_same (by rw [List.length_map]; show _ + 1 ≤ 1000; omega) fun y G2 e2 h2 => ?_
          refine ⟨by show 2 ≤ sizeLine; decide, fun u nu => ?_⟩
          have yu := Evl.Ex.new (o := .tup [V.str (tabW.getD i ""), .ref y]) nu
          refine fin (p ++ [("a" : Str)]) y u _ (((eG.trans yt).trans e2).trans yu) (fun x hx => ?_) (by rw [List.length_append]; show _ + 1 ≤ 40; omega) (yu _ _ (by rw [h2, List.map_append]; rfl)) upd_same
          rcases List.mem_append.mp hx with hx | hx
          · exact gp x hx
          · rw [List.mem_singleton.mp hx]
            unfold Nm
            decide +kernel
        refine iteF ⟨_, rfl, .inl ⟨rfl, _, rfl, ?_⟩⟩
        rw [dki]
        by_cases w1 : r = 1
        · rw [decide_eq_true w1]
          refine iteT ⟨_, rfl, Sv.ix (x := V.ref pa) (Sv.tup ha) (atI_nat (j := 1) rfl) ⟨by show 0 ≤ sizeLine; decide, fun e ne => ?_⟩⟩
          have ye := Evl.Ex.new (o := .tup ([] : List V)) ne
          refine ne_unit gp (ye _ _ hpa) upd_same ⟨_, rfl, ?_⟩
          generalize upd H3 e (.tup ([] : List V)) = H4 at ye ⊢
          by_cases z : p = []
          · rw [decide_eq_true z]
            refine iteF ⟨_, rfl, .inl ⟨rfl, _, rfl, ?_⟩⟩
            rw [dki, decide_eq_false (by omega)]
            refine iteF (iteF ⟨_, rfl, .inl ⟨rfl, _, rfl, ?_⟩⟩)
            rw [dki, decide_eq_false (by omega)]
            exact iteF (iteF (last H4 ye))
          · rw [decide_eq_false z]
            have pp : 1 ≤ p.length := List.length_pos_iff.mpr z
            refine iteT ⟨_, rfl, Sv.ix (x := V.str (tabW.getD i "")) (Sv.tup (ye _ _ ha)) (atI_nat (j := 0) rfl) ⟨_, rfl, Sv.ix (x := V.ref pa) (Sv.tup (ye _ _ ha)) (atI_nat (j := 1) rfl) ⟨1, rfl, -1, rfl, sl_x (ye _ _ hpa) (nwm (by rw [List.length_map]; exact pp)) fun y G2 e2 h2 => ?_⟩⟩⟩
            rw [cut_m1, ← List.map_dropLast] at h2
            refine ⟨by show 2 ≤ sizeLine; decide, fun u nu => ?_⟩
            have yu := Evl.Ex.new (o := .tup [V.str (tabW.getD i ""), .ref y]) nu
            exact fin p.dropLast y u _ ((ye.trans e2).trans yu) (fun x hx => gp x ((List.dropLast_sublist _).subset hx)) (by rw [List.length_dropLast]; omega) (yu _ _ h2) upd_same
        rw [decide_eq_false w1]
        refine iteF (iteF ⟨_, rfl, .inl ⟨rfl, _, rfl, ?_⟩⟩)
        rw [dki]
        by_cases w2 : r = 2
        · rw [decide_eq_true w2]
          refine iteT ⟨_, rfl, Sv.ix (x := V.str (tabW.getD i "")) (Sv.tup ha) (atI_nat (j := 0) rfl) (.inl ⟨rfl, _, rfl, ?_⟩)⟩
          rw [dks]
          by_cases i2 : i = 2
          · rw [decide_eq_true (show (⟨i, .path p :: rp⟩ : Dd).w = "write" from kw.mpr i2)]
            subst i2
            obtain ⟨n, os, rfl⟩ : ∃ n os, rp = [.size n, .octs os] := by
              rcases dd_cases g with ⟨p', n, os, e⟩ | ⟨p', n, e⟩ | ⟨i, p', p2, hi, e⟩ | ⟨i, p', hi, e⟩ | ⟨i, x, hi, e⟩ <;> cases e
              · exact ⟨n, os, rfl⟩
              · omega
              · omega
            obtain ⟨oa, rfl, hoa⟩ : ∃ oa, vr = [.int n, .ref oa] ∧ H3 oa = some (.tup (IV os)) := by
              cases PR with | cons h t => cases t with | cons h2 t => cases t; obtain ⟨oa, rfl, h2⟩ := h2; obtain rfl := h; exact ⟨oa, rfl, h2⟩
            obtain ⟨n0, n96⟩ := g.gd (.size n) (by simp)
            obtain ⟨oo, o1, o48⟩ := g.gd (.octs os) (by simp)
            obtain ⟨init, z, rfl⟩ : ∃ init z, os = init ++ [z] := by
              rcases snoc_or os with h | h
              · rw [h] at o1
                exact absurd o1 (by decide)
              · exact h
            have zr := oo z (by simp)
            have n256 : (0 : Int) < 256 := by decide
            refine iteT ⟨_, rfl, 3, rfl, sl_x ha (nwn (j := 3) (by simp)) fun s1 G1 f1 h1 => ?_⟩
            rw [show (3 : Int) = ((3 : Nat) : Int) from rfl, cutn] at h1
            refine ⟨_, rfl, Sv.ix (x := V.ref oa) (Sv.tup (f1 _ _ ha)) (atI_nat (j := 3) rfl) ⟨1, rfl, -1, rfl, sl_x (f1 _ _ hoa) (nwm (by rw [iv_len]; exact o1)) fun y G2 f2 h2 => ?_⟩⟩
            rw [cut_m1, iv_app] at h2
            have h2 : G2 y = some (.tup (IV init)) := by rw [h2]; exact congrArg (fun x => some (HO.tup x)) List.dropLast_concat
            have E2 := f1.trans f2
            have hz : atI (IV (init ++ [z])) (-1) = some (.int z) := by rw [iv_app]; exact at_last
            refine ⟨_, rfl, Sv.ix (x := V.ref oa) (Sv.tup (E2 _ _ ha)) (atI_nat (j := 3) rfl) ⟨1, rfl, Sv.ix (x := V.int z) (Sv.tup (E2 _ _ hoa)) hz (.inl (.inl (.inl ⟨_, _, rfl, rfl, .inl ⟨_, rfl, _, _, rfl, rfl, n256, by show 1 ≤ sizeLine; decide, fun t nt => ?_⟩⟩)))⟩⟩
            have yt := Evl.Ex.new (o := .tup [V.int ((z + 1) % 256)]) nt
            refine cat_x (ys := IV [(z + 1) % 256]) (yt _ _ h2) upd_same (by rw [iv_len]; rw [List.length_append] at o48; show _ + 1 ≤ 1000; simp at o48; omega) fun u G3 f3 h3 => ?_
            refine ⟨by show 1 ≤ sizeLine; decide, fun x nx => ?_⟩
            have yx := Evl.Ex.new (o := .tup [V.ref u]) nx
            have E4 := ((E2.trans yt).trans f3).trans yx
            refine cat_x (ys := [V.ref u]) (((f2.trans yt).trans (f3.trans yx)) _ _ h1) upd_same (by simp) fun v G5 f5 h5 => ?_
            have E5 := E4.trans f5
            have hm : 0 ≤ (z + 1) % 256 ∧ (z + 1) % 256 ≤ 255 := ⟨Int.emod_nonneg _ (by decide), by have := Int.emod_lt_of_pos (z + 1) n256; omega⟩
            refine q _ (.one ⟨2, [.path p, .size n, .octs (init ++ [(z + 1) % 256])]⟩) G5 (good_w gp (by omega) n0 n96 (oct_snoc (fun w hw => oo w (by simp [hw])) hm.1 hm.2) (by simp) (by simpa using o48)) (fun _ => ⟨_, rfl, (by decide : 2 < 7)⟩) ⟨v, [.ref pa, .int n, .ref u], rfl, h5, .cons ⟨pa, rfl, E5 _ _ hpa⟩ (.cons rfl (.cons ⟨u, rfl, (yx.trans f5) _ _ (by rw [h3, ← iv_app])⟩ .nil))⟩ (ex E5) (bxx E5)
          · rw [decide_eq_false (show ¬ (⟨i, .path p :: rp⟩ : Dd).w = "write" from fun z => i2 (kw.mp z))]
            refine iteF ⟨_, rfl, .inl ⟨rfl, _, rfl, ?_⟩⟩
            rw [dki, decide_eq_false (by omega)]
            exact iteF (iteF (last H3 (Evl.Ex.refl _)))
        rw [decide_eq_false w2]
        refine iteF (iteF ⟨_, rfl, .inl ⟨rfl, _, rfl, ?_⟩⟩)
        have w3 : r = 3 := by omega
        rw [dki, decide_eq_true w3]
        refine iteT ⟨_, rfl, Sv.ix (x := V.str (tabW.getD i "")) (Sv.tup ha) (atI_nat (j := 0) rfl) ⟨by show 2 ≤ sizeLine; decide, fun l2 nl2 => ⟨l2, _, rfl, .inl (SqL.of upd_same), rfl, rfl, _, rfl, ?_⟩⟩⟩
        have kc' : inV (V.str (tabW.getD i "")) [V.str "write", V.str "cut"] = decide (i = 2 ∨ i = 3) := kc
        rw [show (if false = true then !inV (V.str (⟨i, .path p :: rp⟩ : Dd).w) [V.str "write", V.str "cut"] else inV (V.str (⟨i, .path p :: rp⟩ : Dd).w) [V.str "write", V.str "cut"]) = decide (i = 2 ∨ i = 3) from kc']
        have y2 := Evl.Ex.new (o := .lst [V.str "write", .str "cut"]) nl2
        generalize upd H3 l2 (.lst [V.str "write", .str "cut"]) = H4 at y2 ⊢
        by_cases i23 : i = 2 ∨ i = 3
        · rw [decide_eq_true i23]
          obtain ⟨n, rr, rfl⟩ : ∃ n rr, rp = .size n :: rr := by
            rcases dd_cases g with ⟨p', n, os, e⟩ | ⟨p', n, e⟩ | ⟨i, p', p2, hi, e⟩ | ⟨i, p', hi, e⟩ | ⟨i, x, hi, e⟩ <;> cases e
            · exact ⟨n, _, rfl⟩
            · exact ⟨n, _, rfl⟩
            · omega
            · omega
          obtain ⟨vt, rfl, PT⟩ : ∃ vt, vr = .int n :: vt ∧ Paired (PtT H3) vt rr := by
            cases PR with | cons h t => obtain rfl := h; exact ⟨_, rfl, t⟩
          have lt := px_len PT
          obtain ⟨n0, n96⟩ := g.gd (.size n) (by simp)
          rw [List.length_cons] at l3
          have n97 : (0 : Int) < 97 := by decide
          refine iteT ⟨_, rfl, 2, rfl, sl_x (y2 _ _ ha) (nwn (j := 2) (by rw [List.length_cons, List.length_cons, List.length_cons]; omega)) fun s1 G1 f1 h1 => ?_⟩
          rw [show (2 : Int) = ((2 : Nat) : Int) from rfl, cutn] at h1
          have E1 := y2.trans f1
          refine ⟨_, rfl, Sv.ix (x := V.int n) (Sv.tup (E1 _ _ ha)) (atI_nat (j := 2) rfl) (.inl (.inl (.inl ⟨_, _, rfl, rfl, .inl ⟨_, rfl, _, _, rfl, rfl, n97, by show 1 ≤ sizeLine; decide, fun t nt => ?_⟩⟩)))⟩
          have yt := Evl.Ex.new (o := .tup [V.int ((n + 1) % 97)]) nt
          refine cat_x (ys := [V.int ((n + 1) % 97)]) (yt _ _ h1) upd_same (by simp) fun u G3 f3 h3 => ?_
          have E3 := (E1.trans yt).trans f3
          refine ⟨_, rfl, 3, rfl, sl_x (E3 _ _ ha) (nwd (i := 3) (by decide) (by rw [List.length_cons]; omega)) fun s2 G4 f4 h4 => ?_⟩
          rw [show (3 : Int) = ((3 : Nat) : Int) from rfl, cutd] at h4
          have h4 : G4 s2 = some (.tup vt) := h4
          refine cat_x (f4 _ _ h3) h4 (by show 3 + _ ≤ 1000; omega) fun v G5 f5 h5 => ?_
          have E5 := (E3.trans f4).trans f5
          have hm : 0 ≤ (n + 1) % 97 ∧ (n + 1) % 97 ≤ 96 := ⟨Int.emod_nonneg _ (by decide), by have := Int.emod_lt_of_pos (n + 1) n97; omega⟩
          exact q _ (.one ⟨i, .path p :: .size ((n + 1) % 97) :: rr⟩) G5 (good_s g hm.1 hm.2) (fun _ => ⟨_, rfl, i7⟩) ⟨v, .ref pa :: .int ((n + 1) % 97) :: vt, rfl, h5, .cons ⟨pa, rfl, E5 _ _ hpa⟩ (.cons rfl (px_mono (fun _ _ z => z.ex E5) PT))⟩ (ex E5) (bxx E5)
        · rw [decide_eq_false i23]
          exact iteF (last H4 y2)
end
end K19
/-! the ends -/
namespace VB
open PySem PySem.Spec PyProof.Rows L2
theorem vals_getD {zs : List V} {ws : List Value} (h : Vals zs ws) : ∀ i : Nat, RelV (zs.getD i .non) (ws.getD i .none) := by
  induction h with
  | nil =>
    intro i
    exact rfl
  | cons r _ ih =>
    intro i
    cases i with
    | zero => exact r
    | succ i => exact ih i
theorem kb_of {K : PySem.W.Frag} {x qual : Str} {params : Arguments} {body : List Stmt} {scope : Scope} {kws : List (Str × V)} {f : Addr} {fd : FuncData} {ps ks : List Str} {n : Nat}
    {g : List Value → List Value → List Value} {gV : List V → List V → List V} (F : FunD K x qual params body scope [] kws f fd)
    (hrel : ∀ {vs : List V} {us : List Value} {zs : List V} {ws : List Value}, Vals vs us → Vals zs ws → Vals (gV vs zs) (g us ws))
    (h : ∀ (kV doc pm : Value) (an : Option Addr) (cdv ct : Value) (us ws : List Value), us.length = n → ws.length = ks.length → bindArgs (PySem.W.fnOf x qual params body scope .none kV doc pm an cdv ct) ⟨us, ks.zip ws⟩ = pure (ps.zip (g us ws))) :
    KBn K fd ps n ks g gV := by
  obtain ⟨oc, od, dV, kV, doc, pm, an, cdv, ct, osl, rfl, lk, hcd, hD, hK⟩ := F.ex
  rcases hD with ⟨_, rfl⟩ | ⟨e, _⟩
  · exact ⟨fun s us ws _ l1 l2 => .of_eq (h kV doc pm an cdv ct us ws l1 l2), fun r1 r2 => hrel r1 r2⟩
  · exact absurd rfl e
end VB
/-! handed steps, told and read back by the law -/
namespace K19
open PySem PySem.Spec PyProof.Rows L2 VB BM
/-- octets in a tuple, or in a list at such a place -/
def PtN (N : Addr → Prop) (H : Hp) (v : V) : Pt → Prop
  | .octs os => ∃ a : Addr, v = .ref a ∧ (H a = some (.tup (IV os)) ∨ (N a ∧ H a = some (.lst (IV os))))
  | .path p => ∃ a : Addr, v = .ref a ∧ H a = some (.tup (p.map V.str))
  | .size n => v = .int n
  | .name x => v = .str x
def NEx (N : Addr → Prop) (H H' : Hp) : Prop := TEx H H' ∧ ∀ a xs, N a → H a = some (.lst xs) → H' a = some (.lst xs)
theorem NEx.of {N : Addr → Prop} {H H' : Hp} (e : Evl.Ex H H') : NEx N H H' := ⟨.of e, fun a xs _ h => e _ _ h⟩
theorem PtN.nx {N : Addr → Prop} {H H' : Hp} {v : V} {p : Pt} (h : PtN N H v p) (e : NEx N H H') : PtN N H' v p := by
  cases p with
  | path p => obtain ⟨a, h1, h2⟩ := h; exact ⟨a, h1, e.1 _ _ h2⟩
  | size n => exact h
  | octs os =>
    obtain ⟨a, h1, h2⟩ := h
    refine ⟨a, h1, ?_⟩
    rcases h2 with h2 | ⟨n, h2⟩
    · exact .inl (e.1 _ _ h2)
    · exact .inr ⟨n, e.2 _ _ n h2⟩
  | name x => exact h
theorem PtN.weak {N M : Addr → Prop} {H : Hp} {v : V} {p : Pt} (h : PtN N H v p) (w : ∀ a xs, N a → H a = some (.lst xs) → M a) : PtN M H v p := by
  cases p with
  | path p => exact h
  | size n => exact h
  | octs os =>
    obtain ⟨a, h1, h2⟩ := h
    refine ⟨a, h1, ?_⟩
    rcases h2 with h2 | ⟨n, h2⟩
    · exact .inl h2
    · exact .inr ⟨w _ _ n h2, h2⟩
  | name x => exact h
theorem PtT.n {N : Addr → Prop} {H : Hp} {v : V} {p : Pt} (h : PtT H v p) : PtN N H v p := by
  cases p with
  | path p => exact h
  | size n => exact h
  | octs os => obtain ⟨a, h1, h2⟩ := h; exact ⟨a, h1, .inl h2⟩
  | name x => exact h
theorem PtN.at {N : Addr → Prop} {H : Hp} {v : V} {p : Pt} (h : PtN N H v p) : PtAt H v p := by
  cases p with
  | path p => exact h
  | size n => exact h
  | octs os => obtain ⟨a, h1, h2⟩ := h; exact ⟨a, h1, h2.imp id And.right⟩
  | name x => exact h
def DdN (N : Addr → Prop) (H : Hp) (v : V) (d : Dd) : Prop := ∃ (a : Addr) (vs : List V), v = .ref a ∧ H a = some (.tup (.str d.w :: vs)) ∧ Paired (PtN N H) vs d.ps
theorem DdN.nx {N : Addr → Prop} {H H' : Hp} {v : V} {d : Dd} (h : DdN N H v d) (e : NEx N H H') : DdN N H' v d := by
  obtain ⟨a, vs, h1, h2, h3⟩ := h
  exact ⟨a, vs, h1, e.1 _ _ h2, px_mono (fun _ _ z => z.nx e) h3⟩
theorem DdN.weak {N M : Addr → Prop} {H : Hp} {v : V} {d : Dd} (h : DdN N H v d) (w : ∀ a xs, N a → H a = some (.lst xs) → M a) : DdN M H v d := by
  obtain ⟨a, vs, h1, h2, h3⟩ := h
  exact ⟨a, vs, h1, h2, px_mono (fun _ _ z => z.weak w) h3⟩
theorem DdT.n {N : Addr → Prop} {H : Hp} {v : V} {d : Dd} (h : DdT H v d) : DdN N H v d := by
  obtain ⟨a, vs, h1, h2, h3⟩ := h
  exact ⟨a, vs, h1, h2, px_mono (fun _ _ z => z.n) h3⟩
theorem DdN.at {N : Addr → Prop} {H : Hp} {v : V} {d : Dd} (h : DdN N H v d) : DdAt H v d := by
  obtain ⟨a, vs, h1, h2, h3⟩ := h
  exact ⟨a, vs, h1, h2, px_mono (fun _ _ z => z.at) h3⟩
def StpN (N : Addr → Prop) (H : Hp) (v : V) : Stp → Prop
  | .one d => DdN N H v d
  | .all ds => ∃ (a b : Addr) (vs : List V), v = .ref a ∧ H a = some (.tup [.str "all", .ref b]) ∧ H b = some (.tup vs) ∧ Paired (DdN N H) vs ds
  | .sync => ∃ a : Addr, v = .ref a ∧ H a = some (.tup [.str "sync"])
theorem StpN.nx {N : Addr → Prop} {H H' : Hp} {v : V} {s : Stp} (h : StpN N H v s) (e : NEx N H H') : StpN N H' v s := by
  cases s with
  | one d => exact DdN.nx h e
  | all ds =>
    obtain ⟨a, b, vs, h1, h2, h3, h4⟩ := h
    exact ⟨a, b, vs, h1, e.1 _ _ h2, e.1 _ _ h3, px_mono (fun _ _ z => z.nx e) h4⟩
  | sync => obtain ⟨a, h1, h2⟩ := h; exact ⟨a, h1, e.1 _ _ h2⟩
theorem StpN.weak {N M : Addr → Prop} {H : Hp} {v : V} {s : Stp} (h : StpN N H v s) (w : ∀ a xs, N a → H a = some (.lst xs) → M a) : StpN M H v s := by
  cases s with
  | one d => exact DdN.weak h w
  | all ds =>
    obtain ⟨a, b, vs, h1, h2, h3, h4⟩ := h
    exact ⟨a, b, vs, h1, h2, h3, px_mono (fun _ _ z => z.weak w) h4⟩
  | sync => exact h
theorem StpT.n {N : Addr → Prop} {H : Hp} {v : V} {s : Stp} (h : StpT H v s) : StpN N H v s := by
  cases s with
  | one d => exact DdT.n h
  | all ds =>
    obtain ⟨a, b, vs, h1, h2, h3, h4⟩ := h
    exact ⟨a, b, vs, h1, h2, h3, px_mono (fun _ _ z => z.n) h4⟩
  | sync => exact h
theorem StpN.at {N : Addr → Prop} {H : Hp} {v : V} {s : Stp} (h : StpN N H v s) : StpAt H v s := by
  cases s with
  | one d => exact DdN.at h
  | all ds =>
    obtain ⟨a, b, vs, h1, h2, h3, h4⟩ := h
    exact ⟨a, b, vs, h1, h2, h3, px_mono (fun _ _ z => z.at) h4⟩
  | sync => exact h
section
variable {K : PySem.W.Frag} {H : Hp}
theorem at_pt {v : V} {p : Pt} (g : p.Good) (h : PtAt H v p) : ∃ d, Dp K H v d ∧ Sh d 1 600 := by
  cases p with
  | path p => exact ⟨_, dp_pt (p := .path p) h, sh_pt g⟩
  | size n => exact ⟨_, dp_pt (p := .size n) h, sh_pt g⟩
  | name x => exact ⟨_, dp_pt (p := .name x) h, sh_pt g⟩
  | octs os =>
    obtain ⟨a, rfl, h⟩ := h
    rcases h with h | h
    · exact ⟨_, .tup (SqT.of h) (dpAll_ints os), (sh_octs g.1 g.2.2).1⟩
    · exact ⟨_, .lst (SqL.of h) (dpAll_ints os), (sh_octs g.1 g.2.2).2⟩
theorem at_all {α : Type} {R : V → α → Prop} {b n : Nat} : ∀ {vs : List V} {ds : List α}, Paired R vs ds → (∀ v d, d ∈ ds → R v d → ∃ z, Dp K H v z ∧ Sh z b n) → ∃ zs : List PyData, DpAll K H vs zs ∧ zs.length = vs.length ∧ ∀ z ∈ zs, Sh z b n
  | _, _, .nil, _ => ⟨[], .nil, rfl, fun _ z => nomatch z⟩
  | _, _, .cons r t, h => by
    obtain ⟨z, dz, sz⟩ := h _ _ (List.mem_cons_self ..) r
    obtain ⟨zs, dzs, lz, szs⟩ := at_all t fun v d hd => h v d (List.mem_cons_of_mem _ hd)
    exact ⟨z :: zs, .cons dz dzs, by rw [List.length_cons, List.length_cons, lz], fun y hy => by
      rcases List.mem_cons.mp hy with rfl | hy
      · exact sz
      · exact szs y hy⟩
theorem at_dd {v : V} {d : Dd} (g : d.Good) (h : DdAt H v d) : ∃ z, Dp K H v z ∧ Sh z 2 2500 := by
  obtain ⟨a, vs, rfl, ha, p⟩ := h
  obtain ⟨zs, dz, lz, sz⟩ := at_all (K := K) (H := H) p fun v x hx r => at_pt (g.gd x hx) r
  have := px_len p
  have := dd_len g
  exact ⟨.tuple (.str d.w :: zs), .tup (SqT.of ha) (.cons (.str _) dz), sh_dd' g (by omega) sz⟩
theorem at_stp {v : V} {s : Stp} (g : s.Good) (h : StpAt H v s) : ∃ z, Dp K H v z ∧ Sh z 4 21000 := by
  cases s with
  | one d =>
    obtain ⟨z, dz, sz⟩ := at_dd (K := K) g h
    exact ⟨z, dz, sz.le⟩
  | sync => exact ⟨_, dp_stp (s := .sync) h, sh_stp g⟩
  | all ds =>
    obtain ⟨a, b, vs, rfl, ha, hb, p⟩ := h
    obtain ⟨zs, dz, lz, sz⟩ := at_all (K := K) (H := H) p fun v x hx r => at_dd (g.2.2 x hx).1 r
    have := px_len p
    exact ⟨.tuple [.str "all", .tuple zs], .tup (SqT.of ha) (.cons (.str _) (.cons (.tup (SqT.of hb) dz) .nil)), sh_all (by have := g.2.1; omega) sz⟩
end
section
variable {P : Program} {w : World} {K : PySem.W.Frag} {mg : Str → Option Value} {base : Heap} {f : Addr} {fd : FuncData}
def spHanded (b : Bool) : Sp := fun vs H Q _ => ∃ (v : V) (i : Int) (s : Stp), vs = [v, .int i] ∧ StpT H v s ∧ s.Good ∧ (b = false → ∃ d, s = .one d) ∧ ∀ (v' : V) (H' : Hp), Evl.Ex H H' → StpN (fun a => H a = none) H' v' s → Q v' H'
theorem ok_handed (b : Bool) {k : Nat} {sp : Sp} (hsp : b = true → sp = spHanded false) (T : Txt K mg) (F : FnP K "_law_handed" s__law_handed f fd) (C__law_handed : Cal P w K mg base CX0 k "_law_handed" ["_law_step_here", "_law_way"] sp) :
    Fg P w K mg base CX0 (k + 1) f fd ["_law_step_here", "_law_way"] (spHanded b) := by
  refine fg_of F sc__law_handed (fun vs H Q E h => ?_) (fun cdv A outer s0 H vs Q E hr h => ⟨_, (PSs.nox (pss_cons (ps_if (pt_cmpR (u_eq (K := K) hr) (pe_ix (u_ix (K := K)) (pv 0) pe_int (fun _ _ => rfl)) pe_str (nomark _))
  (pss_one (ps_ret (pe_tup (pa_cons pe_str (pa_cons (pe_callTy (u_tup (K := K)) (by rfl) T.f_tuple (by decide +kernel) (pa_cons (pe_lc (own := [("_law_deed", 2)]) rfl sc__law_handed.nd (pi_seq (K := K) (pe_ix (u_ix (K := K)) (pv 0) pe_int (fun _ _ => rfl))) (blkOk_by (own := [("_law_deed", 2)]) (N := ["_law_step_here", "_law_way", "_law_deed"]) (sc := defScope s__law_handed) (by decide +kernel)) (fun _ _ _ _ _ => (pg_name (i := 2) sc__law_handed.nd rfl (by first | exact Or.inl rfl | exact Or.inr rfl))) (fun _ _ _ _ _ => pts_nil) (fun _ _ _ _ _ => (pe_cal C__law_handed hr.le pass0 (pa_cons (pv 2) (pa_cons (pv 1) pa_nil))))) pa_nil)) pa_nil))))) pss_nil)
  (pss_one (ps_ret (pe_ifExp (PW.pt (pw_and (pt_cmpR (u_eq (K := K) hr) (pe_ix (u_ix (K := K)) (pv 0) pe_int (fun _ _ => rfl)) pe_str (nomark _)) (pw_and1 (pt_cmpR (u_eq (K := K) hr) (pv 1) pe_int (nomark _))))) (pe_op (u_addX (K := K)) (pe_slice (u_sl (K := K)) (pv 0) po_none (po_some pe_int)) (pe_tup (pa_cons (pe_callTy (u_list (K := K)) (by rfl) T.f_list (by decide +kernel) (pa_cons (pe_ix (u_ix (K := K)) (pv 0) pe_int (fun _ _ => rfl)) pa_nil)) pa_nil))) (pv 0)))))), ?_⟩)
  · obtain ⟨v, i, s, rfl, _⟩ := h
    rfl
  · obtain ⟨v, i, s, rfl, at_, g, one, q⟩ := h
    cases s with
    | sync =>
      have at2 := at_
      obtain ⟨a, rfl, ha⟩ := at_
      refine ⟨_, rfl, Sv.ix (x := V.str "sync") (Sv.tup ha) (atI_nat (j := 0) rfl) (.inl ⟨rfl, _, rfl, ?_⟩)⟩
      rw [decide_eq_false (show ¬ (V.str "sync" = V.str "all") from fun z => absurd (V.str.inj z) (by decide))]
      refine iteF ⟨_, rfl, Sv.ix (x := V.str "sync") (Sv.tup ha) (atI_nat (j := 0) rfl) (.inl ⟨rfl, _, rfl, ?_⟩)⟩
      rw [decide_eq_false (show ¬ (V.str "sync" = V.str "write") from fun z => absurd (V.str.inj z) (by decide))]
      exact iteF (iteF ⟨_, rfl, q _ _ (Evl.Ex.refl _) (at2.n (s := .sync))⟩)
    | all ds =>
      obtain rfl : b = true := by
        cases b with
        | true => rfl
        | false =>
          obtain ⟨d, e⟩ := one rfl
          cases e
      obtain rfl := hsp rfl
      obtain ⟨a, tb, vs, rfl, ha, hb, PP⟩ := at_
      have lv := px_len PP
      obtain ⟨g2, g4, gd⟩ := g
      refine ⟨_, rfl, Sv.ix (x := V.str "all") (Sv.tup ha) (atI_nat (j := 0) rfl) (.inl ⟨rfl, _, rfl, ?_⟩)⟩
      rw [decide_eq_true rfl]
      refine iteT (.inr ⟨_, rfl, Sv.ix (x := V.ref tb) (Sv.tup ha) (atI_nat (j := 1) rfl) ⟨tb, rfl, ⟨_, SqT.of hb⟩, fun D hD => ?_⟩⟩)
      refine lc_newR (At := DdN fun a => H a = none ∧ a ≠ D) (NEx fun a => H a = none ∧ a ≠ D) (fun z e => z.nx e) .of (fun h => ⟨.upd h, fun b xs n hb => by rw [upd_ne n.2]; exact hb⟩) (walk_tup (K := K) (a := tb) (xs := vs)) ds lv.symm (by omega) hD (fun H' ex => SqT.of (ex _ _ hb)) ?_ ?_
      · rintro j x G G' d R Nx hp ex ⟨us, hu⟩ ⟨rfl, hx⟩ k
        obtain ⟨d', hd', da⟩ := pr_at PP hx
        rw [hp] at hd'
        obtain rfl := Option.some.inj hd'
        refine ⟨rfl, _, rfl, _, rfl, x, i, .one d, rfl, DdT.ex da ex, (gd d (List.mem_of_getElem? hp)).1, fun _ => ⟨d, rfl⟩, fun v' H4 e4 a' => k v' H4 e4 (a'.weak (s := .one d) fun c xs n _ => ⟨?_, fun z => ?_⟩)⟩
        · cases hh : H c with
          | none => rfl
          | some o => rw [ex _ _ hh] at n; cases n
        · rw [z, hu] at n
          cases n
      · intro H3 us ex hv pv
        have lu := px_len pv
        refine ⟨D, _, rfl, .inl ⟨SqL.of hv, fun s3 n3 => ?_⟩⟩
        have y3 := Evl.Ex.new (o := .tup us) n3
        refine ⟨by show 2 ≤ sizeLine; decide, fun s4 n4 => ?_⟩
        have y4 := Evl.Ex.new (o := .tup [V.str "all", .ref s3]) n4
        exact q _ _ ((ex.trans y3).trans y4) ⟨s4, s3, us, rfl, upd_same, y4 _ _ upd_same, px_mono (fun _ _ z => (z.nx (.of (y3.trans y4))).weak fun c xs n _ => n.1) pv⟩
    | one d =>
      have at2 := at_
      obtain ⟨a, vs, rfl, ha, PP⟩ := at_
      have kw := (k9k d.i g.i9).2.2.1
      refine ⟨_, rfl, Sv.ix (x := V.str d.w) (Sv.tup ha) (atI_nat (j := 0) rfl) (.inl ⟨rfl, _, rfl, ?_⟩)⟩
      rw [dks, decide_eq_false (show ¬ d.w = "all" from (w_all d.i g.i9).1)]
      refine iteF ⟨_, rfl, Sv.ix (x := V.str d.w) (Sv.tup ha) (atI_nat (j := 0) rfl) (.inl ⟨rfl, _, rfl, ?_⟩)⟩
      rw [dks]
      by_cases i2 : d.i = 2
      · rw [decide_eq_true (show d.w = "write" from kw.mpr i2)]
        refine iteT ⟨_, rfl, .inl ⟨rfl, _, rfl, ?_⟩⟩
        rw [dki]
        by_cases i0 : i = 0
        · rw [decide_eq_true i0]
          obtain ⟨p, n, os, rfl⟩ : ∃ p n os, d = ⟨2, [.path p, .size n, .octs os]⟩ := by
            rcases dd_cases g with h | ⟨p', n, e⟩ | ⟨i, p', p2, hi, e⟩ | ⟨i, p', hi, e⟩ | ⟨i, x, hi, e⟩
            · exact h
            all_goals (rw [e] at i2; dsimp only at i2; omega)
          obtain ⟨pa, oa, rfl, hpa, hoa⟩ : ∃ pa oa, vs = [.ref pa, .int n, .ref oa] ∧ H pa = some (.tup (p.map V.str)) ∧ H oa = some (.tup (IV os)) := by
            cases PP with | cons h t => cases t with | cons h2 t => cases t with | cons h3 t => cases t; obtain ⟨pa, rfl, h⟩ := h; obtain rfl := h2; obtain ⟨oa, rfl, h3⟩ := h3; exact ⟨pa, oa, rfl, h, h3⟩
          refine iteT ⟨_, rfl, 3, rfl, sl_x ha (nwn (j := 3) (by simp)) fun s1 G1 f1 h1 => ?_⟩
          rw [show (3 : Int) = ((3 : Nat) : Int) from rfl, cutn] at h1
          refine ⟨_, rfl, Sv.ix (x := V.ref oa) (Sv.tup (f1 _ _ ha)) (atI_nat (j := 3) rfl) ⟨oa, _, rfl, .inr (SqT.of (f1 _ _ hoa)), fun l nl => ⟨by show 1 ≤ sizeLine; decide, fun t nt => ?_⟩⟩⟩
          have yl := Evl.Ex.new (o := .lst (IV os)) nl
          have yt := Evl.Ex.new (o := .tup [V.ref l]) nt
          refine cat_x (ys := [V.ref l]) ((yl.trans yt) _ _ h1) upd_same (by simp) fun u G2 f2 h2 => ?_
          have E := ((f1.trans yl).trans yt).trans f2
          refine q _ G2 E ⟨u, [.ref pa, .int n, .ref l], rfl, h2, .cons ⟨pa, rfl, E _ _ hpa⟩ (.cons rfl (.cons ⟨l, rfl, .inr ⟨?_, (yt.trans f2) _ _ upd_same⟩⟩ .nil))⟩
          show H l = none
          cases hh : H l with
          | none => rfl
          | some o => rw [f1 _ _ hh] at nl; cases nl
        · rw [decide_eq_false i0]
          exact iteF ⟨_, rfl, q _ _ (Evl.Ex.refl _) (at2.n (s := .one d))⟩
      · rw [decide_eq_false (show ¬ d.w = "write" from fun z => i2 (kw.mp z))]
        exact iteF (iteF ⟨_, rfl, q _ _ (Evl.Ex.refl _) (at2.n (s := .one d))⟩)
end
end K19
/-! lines tell steps -/
namespace K19
open PySem PySem.Spec PyProof.Rows L2 VB BM
open TL
theorem tx_inj {a b : Int} (h0 : 0 ≤ a) (h1 : 0 ≤ b) (h : (txI a : Str) = txI b) : a = b := by
  have e := congrArg tl h
  rw [txI_tl h0, txI_tl h1] at e
  have := numL_inj e
  omega
theorem runw_inj {r q : Int × Int} (h1 : 0 ≤ r.1) (h2 : 0 ≤ r.2) (k1 : 0 ≤ q.1) (k2 : 0 ≤ q.2) (h : runW r = runW q) : r = q := by
  have p : ∀ r : Int × Int, 0 ≤ r.1 → Txt.partition (runW r) "*" = if r.2 = 1 then ((txI r.1 : Str), Str.empty, Str.empty) else ((txI r.1 : Str), ("*" : Str), (txI r.2 : Str)) := fun r hr => by
    unfold runW
    split
    · exact part_one hr
    · exact part_two hr
  have e := p r h1
  rw [h, p q k1] at e
  have ne : ("*" : Str) ≠ Str.empty := by decide
  obtain ⟨a, b⟩ := r
  obtain ⟨c, d⟩ := q
  have h1 : 0 ≤ a := h1
  have h2 : 0 ≤ b := h2
  have k1 : 0 ≤ c := k1
  have k2 : 0 ≤ d := k2
  have e : (if d = 1 then ((txI c : Str), Str.empty, Str.empty) else ((txI c : Str), ("*" : Str), (txI d : Str))) = (if b = 1 then ((txI a : Str), Str.empty, Str.empty) else ((txI a : Str), ("*" : Str), (txI b : Str))) := e
  by_cases hb : b = 1
  · by_cases hd : d = 1
    · rw [if_pos hb, if_pos hd] at e
      rw [tx_inj h1 k1 (Prod.mk.inj e).1.symm, hb, hd]
    · rw [if_pos hb, if_neg hd] at e
      exact absurd (Prod.mk.inj (Prod.mk.inj e).2).1 ne
  · by_cases hd : d = 1
    · rw [if_neg hb, if_pos hd] at e
      exact absurd (Prod.mk.inj (Prod.mk.inj e).2).1.symm ne
    · rw [if_neg hb, if_neg hd] at e
      rw [tx_inj h1 k1 (Prod.mk.inj e).1.symm, tx_inj h2 k2 (Prod.mk.inj (Prod.mk.inj e).2).2.symm]
theorem map_inj {α β : Type} {f : α → β} : ∀ {xs ys : List α}, (∀ x ∈ xs, ∀ y ∈ ys, f x = f y → x = y) → xs.map f = ys.map f → xs = ys
  | [], [], _, _ => rfl
  | [], _ :: _, _, h => by cases h
  | _ :: _, [], _, h => by cases h
  | x :: xs, y :: ys, g, h => by
    rw [List.map_cons, List.map_cons] at h
    obtain ⟨h1, h2⟩ := List.cons.inj h
    rw [g x (List.mem_cons_self ..) y (List.mem_cons_self ..) h1, map_inj (fun a ha b hb => g a (List.mem_cons_of_mem _ ha) b (List.mem_cons_of_mem _ hb)) h2]
theorem app_l {a x y : Str} (h : a ++ x = a ++ y) : x = y := by
  have e := congrArg tl h
  rw [tl_append, tl_append] at e
  exact ext_tl (List.append_cancel_left e)
theorem word_inj {p q : Pt} (g : p.Good) (g' : q.Good) (k : p.kd = q.kd) (h : wordS p = wordS q) : p = q := by
  cases p with
  | path p => cases q with
    | path q =>
      have h : ("/" ++ Txt.join "/" p : Str) = "/" ++ Txt.join "/" q := h
      by_cases z : p = []
      · have e := (path_slash g.1).mpr z
        rw [h] at e
        rw [z, (path_slash g'.1).mp e]
      · have z' : q ≠ [] := fun y => by
          have e := (path_slash g'.1).mpr y
          rw [← h] at e
          exact z ((path_slash g.1).mp e)
        have e := congrArg (fun x => Txt.split x "/") (app_l h)
        rw [show Txt.split (Txt.join "/" p) "/" = p from path_split g.1 z, show Txt.split (Txt.join "/" q) "/" = q from path_split g'.1 z'] at e
        rw [e]
    | size q => exact absurd (show ("path" : Str) = "size" from k) (by decide)
    | octs q => exact absurd (show ("path" : Str) = "octets" from k) (by decide)
    | name q => exact absurd (show ("path" : Str) = "name" from k) (by decide)
  | size p => cases q with
    | path q => exact absurd (show ("size" : Str) = "path" from k) (by decide)
    | size q => exact congrArg _ (tx_inj g.1 g'.1 h)
    | octs q => exact absurd (show ("size" : Str) = "octets" from k) (by decide)
    | name q => exact absurd (show ("size" : Str) = "name" from k) (by decide)
  | octs p => cases q with
    | path q => exact absurd (show ("octets" : Str) = "path" from k) (by decide)
    | size q => exact absurd (show ("octets" : Str) = "size" from k) (by decide)
    | octs q =>
      have e := congrArg (fun x => Txt.split x ",") h
      have e1 : Txt.split (octW p) "," = Txt.split (octW q) "," := e
      rw [oct_split g.1 g.2.1, oct_split g'.1 g'.2.1] at e1
      have e2 := map_inj (fun x hx y hy hxy => by
        have a := run_good g.1 hx
        have b := run_good g'.1 hy
        exact runw_inj a.1 (by omega) b.1 (by omega) hxy) e1
      have e3 := congrArg expand e2
      rw [exp_runs, exp_runs] at e3
      rw [e3]
    | name q => exact absurd (show ("octets" : Str) = "name" from k) (by decide)
  | name p => cases q with
    | path q => exact absurd (show ("name" : Str) = "path" from k) (by decide)
    | size q => exact absurd (show ("name" : Str) = "size" from k) (by decide)
    | octs q => exact absurd (show ("name" : Str) = "octets" from k) (by decide)
    | name q => exact congrArg Pt.name h
theorem words_inj : ∀ {ps qs : List Pt}, (∀ p ∈ ps, p.Good) → (∀ p ∈ qs, p.Good) → ps.map Pt.kd = qs.map Pt.kd → ps.map wordS = qs.map wordS → ps = qs
  | [], [], _, _, _, _ => rfl
  | [], _ :: _, _, _, _, h => by cases h
  | _ :: _, [], _, _, _, h => by cases h
  | p :: ps, q :: qs, g, g', k, h => by
    rw [List.map_cons, List.map_cons] at k h
    rw [word_inj (g p (List.mem_cons_self ..)) (g' q (List.mem_cons_self ..)) (List.cons.inj k).1 (List.cons.inj h).1, words_inj (fun z hz => g z (List.mem_cons_of_mem _ hz)) (fun z hz => g' z (List.mem_cons_of_mem _ hz)) (List.cons.inj k).2 (List.cons.inj h).2]
theorem lineD_inj {d e : Dd} (g : d.Good) (g' : e.Good) (h : lineD d = lineD e) : d = e := by
  have s := lineD_split g
  rw [h, lineD_split g'] at s
  have hi := w_inj d.i g.i9 e.i g'.i9 (List.cons.inj s).1.symm
  have hp := words_inj g.gd g'.gd (by rw [g.kd, g'.kd, hi]) (List.cons.inj s).2.symm
  obtain ⟨i, ps⟩ := d
  obtain ⟨j, qs⟩ := e
  have hi : i = j := hi
  have hp : ps = qs := hp
  rw [hi, hp]
theorem line_inj {s t : Stp} (g : s.Good) (g' : t.Good) (h : lineS s = lineS t) : s = t := by
  cases s with
  | one d => cases t with
    | one e => exact congrArg _ (lineD_inj g g' h)
    | all es =>
      have a := starts_no (d := d) g
      have h : lineD d = "all: " ++ Txt.join "; " (es.map lineD) := h
      rw [h, starts_yes] at a
      cases a
    | sync => exact absurd h (not_sync g)
  | all ds => cases t with
    | one e =>
      have a := starts_no (d := e) g'
      have h : "all: " ++ Txt.join "; " (ds.map lineD) = lineD e := h
      rw [← h, starts_yes] at a
      cases a
    | all es =>
      have h : ("all: " ++ Txt.join "; " (ds.map lineD) : Str) = "all: " ++ Txt.join "; " (es.map lineD) := h
      have e := congrArg (fun x => Txt.split x "; ") (app_l h)
      have gd : ∀ d ∈ ds, d.Good := fun d hd => (g.2.2 d hd).1
      have ge : ∀ d ∈ es, d.Good := fun d hd => (g'.2.2 d hd).1
      have nd : ds ≠ [] := fun z => by have := g.1; rw [z] at this; exact absurd this (by decide)
      have ne : es ≠ [] := fun z => by have := g'.1; rw [z] at this; exact absurd this (by decide)
      have e1 : Txt.split (Txt.join "; " (ds.map lineD)) "; " = Txt.split (Txt.join "; " (es.map lineD)) "; " := e
      rw [all_split gd nd, all_split ge ne] at e1
      exact congrArg _ (map_inj (fun x hx y hy hxy => lineD_inj (gd x hx) (ge y hy) hxy) e1)
    | sync => exact absurd h (all_not_sync _)
  | sync => cases t with
    | one e => exact absurd h.symm (not_sync g')
    | all es => exact absurd h.symm (all_not_sync _)
    | sync => rfl
/-! signs of lines -/
theorem joinL_all {p : Nat → Prop} {S : List Nat} (hS : ∀ c ∈ S, p c) {ps : List (List Nat)} (h : ∀ q ∈ ps, ∀ c ∈ q, p c) : ∀ c ∈ joinL S ps, p c := fun c hc => Classical.byContradiction fun n => joinL_free (s := c) (fun z => n (hS c z)) (fun q hq z => n (h q hq c z)) hc
theorem join_all {p : Nat → Prop} {y : Str} {ts : List Str} (hy : ∀ c ∈ tl y, p c) (h : ∀ t ∈ ts, ∀ c ∈ tl t, p c) : ∀ c ∈ tl (Txt.join y ts), p c := by
  rw [join_eq, tl_join]
  exact joinL_all hy fun q hq => by
    obtain ⟨t, ht, rfl⟩ := List.mem_map.mp hq
    exact h t ht
theorem app_all {p : Nat → Prop} {x y : Str} (hx : ∀ c ∈ tl x, p c) (hy : ∀ c ∈ tl y, p c) : ∀ c ∈ tl (x ++ y), p c := by
  rw [tl_append]
  intro c hc
  rcases List.mem_append.mp hc with hc | hc
  · exact hx c hc
  · exact hy c hc
theorem runw_all {r : Int × Int} (h1 : 0 ≤ r.1) (h2 : 0 ≤ r.2) : ∀ c ∈ tl (runW r), c < 200 := by
  have a := tx_digits h1
  have b := tx_digits h2
  unfold runW
  split
  · exact fun c hc => by have := a c hc; omega
  · rw [emp_app]
    exact app_all (app_all (fun c hc => by have := a c hc; omega) (by rw [sep_tl.2.2.2.2.1]; decide)) (fun c hc => by have := b c hc; omega)
theorem word_all {p : Pt} (g : p.Good) : ∀ c ∈ tl (wordS p), c < 200 := by
  cases p with
  | path p => exact app_all (by rw [sep_tl.2.2.1]; decide) (join_all (by rw [sep_tl.2.2.1]; decide) fun t ht c hc => by have := (g.1 t ht).2.2 c hc; omega)
  | size n => exact fun c hc => by have := tx_digits g.1 c hc; omega
  | name x => exact fun c hc => by have := g.2.2 c hc; omega
  | octs os =>
    refine join_all (by rw [sep_tl.2.2.2.1]; decide) fun t ht => ?_
    obtain ⟨r, hr, rfl⟩ := List.mem_map.mp ht
    have a := run_good g.1 hr
    exact runw_all a.1 (by omega)
theorem lineD_all {d : Dd} (g : d.Good) : ∀ c ∈ tl (lineD d), c < 200 := join_all (by rw [sep_tl.1]; decide) (List.forall_mem_cons.mpr ⟨fun c hc => by have := (w_nm d.i g.i9).2.2 c hc; omega, fun t ht => by
  obtain ⟨p, hp, rfl⟩ := List.mem_map.mp ht
  exact word_all (g.gd p hp)⟩)
theorem line_all {s : Stp} (g : s.Good) : ∀ c ∈ tl (lineS s), c < 200 := by
  cases s with
  | one d => exact lineD_all g
  | sync => show ∀ c ∈ tl "sync", c < 200; rw [sep_tl.2.2.2.2.2.2]; decide
  | all ds =>
    refine app_all (by rw [sep_tl.2.2.2.2.2.1]; decide) (join_all (by rw [sep_tl.2.1]; decide) fun t ht => ?_)
    obtain ⟨d, hd, rfl⟩ := List.mem_map.mp ht
    exact lineD_all (g.2.2 d hd).1
theorem line_len {s : Stp} (g : s.Good) : (lineS s).length ≤ 100000 := by
  cases s with
  | one d => exact Nat.le_trans (lineD_len g) (by decide)
  | sync => decide
  | all ds =>
    have bl := join_le "; " (ds.map lineD) (m := 20000) fun t ht => by
      obtain ⟨d, hd, rfl⟩ := List.mem_map.mp ht
      exact lineD_len (g.2.2 d hd).1
    have e : (Txt.join "; " (ds.map lineD)).length = ((ds.map lineD).map (·.length)).sum + ((ds.map lineD).length - 1) * 2 := size_glued "; " _
    have l4 := g.2.1
    rw [List.length_map (as := ds)] at bl e
    show ("all: " ++ Txt.join "; " (ds.map lineD) : Str).length ≤ _
    rw [PySem.strLen_append]
    have : ("all: " : Str).length = 5 := by decide +kernel
    omega
theorem line_repr {s : Stp} (g : s.Good) : (reprText (lineS s)).length ≤ sizeLine := by
  have := PySem.StrLaws.reprText_len (lineS s) fun c hc => by
    have := line_all g c hc
    omega
  have := line_len g
  rw [sizeLine_eq]
  omega
section
variable {K : PySem.W.Frag} {H : Hp}
theorem Dp.ex {H' : Hp} (e : Evl.Ex H H') : ∀ (d : PyData) (v : V), Dp K H v d → Dp K H' v d := by
  intro d v h
  induction h using Dp.rec (motive_2 := fun vs ds _ => DpAll K H' vs ds) with
  | non => exact .non
  | bl b => exact .bl b
  | int i => exact .int i
  | str x => exact .str x
  | lst s _ ih => exact .lst (Evl.ex_l e s) ih
  | tup s _ ih => exact .tup (Evl.ex_t e s) ih
  | nil => exact .nil
  | cons _ _ h1 h2 => exact .cons h1 h2
/-- step == step -/
theorem eq_stps {v v' : V} {s t : Stp} {Q : VK} (h : StpT H v s) (h' : StpT H v' t) (g : s.Good) (g' : t.Good) (q : Q (.bl (decide (lineS s = lineS t))) H) : rEqU K v v' H Q := by
  refine .inr ⟨stpD s, stpD t, dp_stp h, dp_stp h', shp_stp g, shp_stp g', ?_⟩
  have ev : PyData.eqv (stpD s) (stpD t) = decide (lineS s = lineS t) := by
    cases e : PyData.eqv (stpD s) (stpD t) with
    | true => rw [ev_stp g g' e, decide_eq_true rfl]
    | false => rw [decide_eq_false fun z => by
        rw [line_inj g g' z, SeqAt.eqv_refl _ (can_stp g')] at e
        cases e]
  rw [ev]
  exact q
end
def rReprV (K : PySem.W.Frag) : List V → Hp → VK → Prop := fun xs H Q => rRepr K xs H Q ∨ (∃ x : Str, xs = [.str x] ∧ (reprText x).length ≤ sizeLine ∧ Q (.str (reprText x)) H)
theorem u_reprV {X : Cx} {K : PySem.W.Frag} {k : Nat} (hr : Rm k X.A) (hK : X.K = K := by rfl) : CallR X (.builtin "repr") (rReprV K) := by
  subst hK
  exact (call_repr hr).or call_repr_str
end K19
/-! told, back, asked -/
namespace K19
open PySem PySem.Spec PyProof.Rows L2 VB BM
section
variable {P : Program} {w : World} {K : PySem.W.Frag} {mg : Str → Option Value} {base : Heap} {f : Addr} {fd : FuncData}
def spTold (K : PySem.W.Frag) : Sp := fun vs H Q _ => ∃ (v : V) (t : Int) (s : Stp), vs = [v, .int t] ∧ StpAt H v s ∧ s.Good ∧ RV (.str (lineS s)) H Q
theorem ok_told (T : Txt K mg) (F : FnP K "_law_told" s__law_told f fd) (C_line_of : Cal P w K mg base CX0 8 "line_of" ["step"] (spLine K)) (CK_line_of_0_step : CalK P w K mg base CX0 8 "line_of" ["step"] 0 ["step"] g1 g1V (spLine K)) :
    Fg P w K mg base CX0 9 f fd ["_law_step_here", "_law_turn"] (spTold K) := by
  refine fg_of F sc__law_told (fun vs H Q E h => ?_) (fun cdv A outer s0 H vs Q E hr h => ⟨_, (PSs.nox (pss_one (ps_ret (pe_ifExp (pt_cmpR (u_eq (K := K) hr) (pe_op u_mod (pe_callTy call_int1 (by rfl) T.f_int (by decide +kernel) (pa_cons (pv 1) pa_nil)) pe_int) pe_int (nomark _)) (pe_cal C_line_of hr.le pass0 (pa_cons (pv 0) pa_nil)) (pe_calk CK_line_of_0_step hr.le pass0 (pk_cons (pv 0) pk_nil)))))), ?_⟩)
  · obtain ⟨v, t, s, rfl, _⟩ := h
    rfl
  · obtain ⟨v, t, s, rfl, at_, g, q⟩ := h
    have n2 : (0 : Int) < 2 := by decide
    refine ⟨_, rfl, .inl ⟨_, rfl, _, _, rfl, rfl, n2, .inl ⟨rfl, _, rfl, ?_⟩⟩⟩
    rw [dki]
    by_cases h : t % 2 = 0
    · rw [decide_eq_true h]
      exact iteT ⟨_, rfl, v, s, rfl, at_, g, q⟩
    · rw [decide_eq_false h]
      exact iteF ⟨_, rfl, rfl, rfl, v, s, rfl, at_, g, q⟩
def spBack (K : PySem.W.Frag) : Sp := fun vs H Q _ => ∃ (t : Int) (s : Stp), vs = [.str (lineS s), .int t] ∧ s.Good ∧ ∀ (v : V) (H' : Hp), Evl.Ex H H' → StpT H' v s → Q v H'
theorem ok_back (T : Txt K mg) (F : FnP K "_law_back" s__law_back f fd) (C_read_deed : Cal P w K mg base CX0 8 "read_deed" ["line"] (spRead K)) (CK_read_deed_0_line : CalK P w K mg base CX0 8 "read_deed" ["line"] 0 ["line"] g1 g1V (spRead K)) :
    Fg P w K mg base CX0 9 f fd ["_law_line_here", "_law_turn"] (spBack K) := by
  refine fg_of F sc__law_back (fun vs H Q E h => ?_) (fun cdv A outer s0 H vs Q E hr h => ⟨_, (PSs.nox (pss_one (ps_ret (pe_ifExp (pt_cmpR (u_eq (K := K) hr) (pe_op u_mod (pe_callTy call_int1 (by rfl) T.f_int (by decide +kernel) (pa_cons (pv 1) pa_nil)) pe_int) pe_int (nomark _)) (pe_cal C_read_deed hr.le pass0 (pa_cons (pv 0) pa_nil)) (pe_calk CK_read_deed_0_line hr.le pass0 (pk_cons (pv 0) pk_nil)))))), ?_⟩)
  · obtain ⟨t, s, rfl, _⟩ := h
    rfl
  · obtain ⟨t, s, rfl, g, q⟩ := h
    have n2 : (0 : Int) < 2 := by decide
    refine ⟨_, rfl, .inl ⟨_, rfl, _, _, rfl, rfl, n2, .inl ⟨rfl, _, rfl, ?_⟩⟩⟩
    rw [dki]
    by_cases h : t % 2 = 1
    · rw [decide_eq_true h]
      exact iteT ⟨_, rfl, s, rfl, g, q⟩
    · rw [decide_eq_false h]
      exact iteF ⟨_, rfl, rfl, rfl, s, rfl, g, q⟩
theorem stp_ref {H : Hp} {v : V} {s : Stp} (h : StpAt H v s) : ∃ a, v = .ref a := by
  cases s with
  | one d => obtain ⟨a, _, h, _⟩ := h; exact ⟨a, h⟩
  | all ds => obtain ⟨a, _, _, h, _⟩ := h; exact ⟨a, h⟩
  | sync => obtain ⟨a, h, _⟩ := h; exact ⟨a, h⟩
theorem rp_stp {H : Hp} {v : V} {s : Stp} {Q : VK} (h : StpT H v s) (g : s.Good) (q : Q (.str (stpD s).shown) H) : rReprV K [v] H Q := by
  obtain ⟨a, rfl⟩ := stp_ref h.at
  exact .inl (rp (dp_stp h) (sh_stp g) q)
def spAsked : Sp := fun vs H Q _ => ∃ (bx L : Addr) (c : Int) (us : List V) (ss : List Stp), vs = [.ref bx, .ref L] ∧ Box H bx c ∧ c < 20000000 ∧ L ≠ bx ∧ H L = some (.lst us) ∧ Paired (StpT H) us ss ∧ (∀ s ∈ ss, s.Good) ∧ ss.length ≤ 6 ∧ ∀ H' : Hp, Exb bx H H' → Box H' bx (c + 6) → Q (.bl true) H'
theorem ok_asked (T : Txt K mg) (F : FnP K "_law_asked_right" s__law_asked_right f fd) (C__law_take : Cal P w K mg base CX0 1 "_law_take" ["_law_box_here", "_law_many"] spTake) (C__law_handed : Cal P w K mg base CX0 3 "_law_handed" ["_law_step_here", "_law_way"] (spHanded true)) (C__law_line : Cal P w K mg base CX0 3 "_law_line" ["_law_step_here"] (spLLine K))
    (C__law_told : Cal P w K mg base CX0 9 "_law_told" ["_law_step_here", "_law_turn"] (spTold K)) (C__law_back : Cal P w K mg base CX0 9 "_law_back" ["_law_line_here", "_law_turn"] (spBack K)) :
    Fg P w K mg base CX0 10 f fd ["_law_box_here", "_law_steps"] spAsked := by
  refine fg_of F sc__law_asked_right (fun vs H Q E h => ?_) (fun cdv A outer s0 H vs Q E hr h => ⟨_, (PSs.nox (pss_cons (ps_setLc (i := 2) (own := [("_law_step_here", 7)]) rfl sc__law_asked_right.nd rfl rfl (sw_true rfl rfl rfl (by decide +kernel)) (pi_seq (K := K) (pv 1)) (blkOk_by (own := [("_law_step_here", 7)]) (N := ["_law_box_here", "_law_steps", "_law_handed_here", "_law_kept", "_law_turn", "_law_k", "_law_line_here", "_law_step_here"]) (sc := defScope s__law_asked_right) (by decide +kernel)) (fun _ _ _ _ _ => (pg_name (i := 7) sc__law_asked_right.nd rfl (by first | exact Or.inl rfl | exact Or.inr rfl))) (fun _ _ _ _ _ => pts_nil) (fun _ _ _ _ _ => (pe_cal C__law_handed hr.le pass0 (pa_cons (pv 7) (pa_cons (pe_cal C__law_take hr.le pass0 (pa_cons (pv 0) (pa_cons pe_int pa_nil))) pa_nil)))))
  (pss_cons (ps_set (i := 3) sc__law_asked_right.nd rfl (by first | exact Or.inl rfl | exact Or.inr rfl) (pe_callB (u_reprV (K := K) hr) (by rfl) T.f_repr (by decide +kernel) (pa_cons (pv 2) pa_nil)))
  (pss_cons (ps_for PassesOwn.never rfl (pi_range1 rfl T.f_range (pa_cons pe_int pa_nil)) (pg_name (i := 4) sc__law_asked_right.nd rfl (by first | exact Or.inl rfl | exact Or.inr rfl))
  (pss_one (ps_for PassesOwn.never rfl (pi_range1 rfl T.f_range (pa_cons (pe_callB (u_len (K := K)) (by rfl) T.f_len (by decide +kernel) (pa_cons (pv 1) pa_nil)) pa_nil)) (pg_name (i := 5) sc__law_asked_right.nd rfl (by first | exact Or.inl rfl | exact Or.inr rfl))
  (pss_cons (ps_set (i := 6) sc__law_asked_right.nd rfl (by first | exact Or.inl rfl | exact Or.inr rfl) (pe_cal C__law_line hr.le pass0 (pa_cons (pe_ix (u_ix (K := K)) (pv 1) (pv 5) (fun _ _ => rfl)) pa_nil)))
  (pss_cons (ps_if (pt_cmpR (u_ne (K := K) hr) (pe_callB (u_reprV (K := K) hr) (by rfl) T.f_repr (by decide +kernel) (pa_cons (pe_cal C__law_told hr.le pass0 (pa_cons (pe_ix (u_ix (K := K)) (pv 2) (pv 5) (fun _ _ => rfl)) (pa_cons (pe_op (u_add (K := K)) (pv 4) (pv 5)) pa_nil))) pa_nil)) (pe_callB (u_reprV (K := K) hr) (by rfl) T.f_repr (by decide +kernel) (pa_cons (pv 6) pa_nil)) (nomark _))
  (pss_one (ps_ret pe_bl)) pss_nil)
  (pss_one (ps_if (pt_cmpR (u_ne (K := K) hr) (pe_callB (u_reprV (K := K) hr) (by rfl) T.f_repr (by decide +kernel) (pa_cons (pe_cal C__law_back hr.le pass0 (pa_cons (pv 6) (pa_cons (pe_op (u_add (K := K)) (pv 4) (pv 5)) pa_nil))) pa_nil)) (pe_callB (u_reprV (K := K) hr) (by rfl) T.f_repr (by decide +kernel) (pa_cons (pe_ix (u_ix (K := K)) (pv 1) (pv 5) (fun _ _ => rfl)) pa_nil)) (nomark _))
  (pss_one (ps_ret pe_bl)) pss_nil)))))))
  (pss_one (ps_ret (pe_cmpR (u_eq (K := K) hr) (pe_callB (u_reprV (K := K) hr) (by rfl) T.f_repr (by decide +kernel) (pa_cons (pv 2) pa_nil)) (pv 3) (nomark _)))))))), ?_⟩)
  · obtain ⟨bx, L, c, us, ss, rfl, _⟩ := h
    rfl
  · obtain ⟨bx, L, c, us, ss, rfl, B, hc, lb, hL, PP, gd, l6, q⟩ := h
    have lu := px_len PP
    refine seq_var (t := false) rfl (Sv.lst hL) fun J wk D hD => ?_
    have Db : D ≠ bx := B.at hD
    have DL : D ≠ L := fun z => by rw [z, hL] at hD; cases hD
    have nb : ∀ a, H a = none → a ≠ bx := fun a h z => by
      obtain ⟨d, m, k, t, h2, _⟩ := B
      rw [z, h2] at h
      cases h
    refine lc_drawR (At := StpN fun a => H a = none ∧ a ≠ D) (NEx fun a => H a = none ∧ a ≠ D) (fun z e => z.nx e) (fun e b => ⟨.exb e b, fun a xs n h => e a _ (nb a n.1) h⟩) (fun h => ⟨.upd h, fun b xs n hb => by rw [upd_ne n.2]; exact hb⟩) wk (c := c) (k := 1) (fun i s => ss[i]? = some s) (by omega) hD B (fun H' e => Sv.lst (e _ _ lb hL)) ?_ ?_
    · rintro i x G G' R Nx hi eG BG ⟨us', hu⟩ ⟨rfl, hx⟩ k
      obtain ⟨s, hs, sa⟩ := pr_at PP hx
      refine ⟨rfl, _, rfl, _, rfl, bx, 2, _, rfl, BG, by decide, by decide, by omega, fun r G2 r0 r2 e2 B2 => ⟨x, r, s, rfl, (sa.tx (.exb eG B)).tx (.exb e2 BG), gd s (List.mem_of_getElem? hs), fun z => absurd z (by decide), fun v' G3 e3 a' => k v' G3 s hs (e2.trans (Exb.of e3)) (B2.ex e3) (a'.weak fun a xs n _ => ⟨fresh_b (eG.trans e2) B2 n, fun z => ?_⟩)⟩⟩
      have n : G2 a = none := n
      rw [z, e2 _ _ Db hu] at n
      cases n
    · intro H1 hs ds ld gd' eH BH hD1 pv
      have eds : ds = ss := by
        refine List.ext_getElem? fun i => ?_
        cases hd : ds[i]? with
        | some d => rw [gd' i d hd]
        | none =>
          rw [List.getElem?_eq_none_iff] at hd
          rw [List.getElem?_eq_none (by omega)]
      subst eds
      have hL1 := eH _ _ lb hL
      have PP1 := px_mono (fun _ _ z => StpT.tx z (.exb eH B)) PP
      obtain ⟨zs, dzs, lz, szs⟩ := at_all (K := K) (H := H1) pv fun v x hx r => at_stp (gd x hx) r.at
      have lh := px_len pv
      have shz : Sh (.list zs) 5 200000 := (sh_list szs (n := 6) (by omega)).le
      refine ⟨_, rfl, .inl (rp (.lst (SqL.of hD1) dzs) shz ?_)⟩
      refine ⟨2, rfl, by decide, by decide, for_range (lo := 0) (n := 2) (fun i σ H' => Evl.Ex H1 H' ∧ ∃ v4 v5 v6 : Option V, σ = [some (.ref bx), some (.ref L), some (.ref D), some (.str (PyData.list zs).shown), v4, v5, v6, none]) ⟨Evl.Ex.refl _, _, _, _, rfl⟩ ?_ ?_⟩
      · rintro i σ H2 hi ⟨e2, v4, v5, v6, rfl⟩
        refine ⟨_, rfl, _, _, rfl, (Sv.lst (K := K) (e2 _ _ hL1)).len, (us.length : Int), rfl, by omega, by omega, ?_⟩
        rw [Int.toNat_natCast]
        refine for_range (lo := 0) (n := us.length) (fun j σ H' => Evl.Ex H1 H' ∧ ∃ v5 v6 : Option V, σ = [some (.ref bx), some (.ref L), some (.ref D), some (.str (PyData.list zs).shown), some (.int (0 + (i : Int))), v5, v6, none]) ⟨e2, _, _, rfl⟩ ?_ ?_
        · rintro j σ H3 hj ⟨e3, v5, v6, rfl⟩
          rw [show (0 : Int) + (j : Int) = (j : Int) by omega]
          have hx : us[j]? = some us[j] := List.getElem?_eq_getElem hj
          obtain ⟨s, hs', sa⟩ := pr_at PP1 hx
          have gs := gd s (List.mem_of_getElem? hs')
          have hj' : j < hs.length := by omega
          have hy : hs[j]? = some hs[j] := List.getElem?_eq_getElem hj'
          obtain ⟨s2, hs2, ha⟩ := pr_at pv hy
          rw [hs'] at hs2
          obtain rfl := Option.some.inj hs2
          refine ⟨_, rfl, _, rfl, Sv.ix (x := us[j]) (Sv.lst (e3 _ _ hL1)) (atI_nat hx) ⟨us[j], s, rfl, sa.ex e3, gs, fun H4 e4 => ?_⟩⟩
          have E4 := e3.trans e4
          refine ⟨_, rfl, _, rfl, Sv.ix (x := hs[j]) (Sv.lst (E4 _ _ hD1)) (atI_nat hy) ⟨_, rfl, _, rfl, .inl ⟨_, _, rfl, rfl, hs[j], _, s, rfl, ha.at.ex E4, gs, fun H5 e5 => .inr ⟨_, rfl, line_repr gs, ?_⟩⟩⟩⟩
          have E5 := E4.trans e5
          refine ⟨_, rfl, .inr ⟨_, rfl, line_repr gs, .inl ⟨rfl, _, rfl, same_ne ?_⟩⟩⟩
          refine ⟨_, rfl, _, rfl, _, rfl, .inl ⟨_, _, rfl, rfl, _, s, rfl, gs, fun v H6 e6 a6 => ?_⟩⟩
          have E6 := E5.trans e6
          refine rp_stp a6 gs ?_
          refine ⟨_, rfl, _, rfl, Sv.ix (x := us[j]) (Sv.lst (E6 _ _ hL1)) (atI_nat hx) ?_⟩
          exact rp_stp (sa.ex E6) gs (.inl ⟨rfl, _, rfl, same_ne ⟨E6, _, _, rfl⟩⟩)
        · rintro σ H3 ⟨e3, v5, v6, rfl⟩
          exact ⟨e3, _, _, _, rfl⟩
      · rintro σ H2 ⟨e2, v4, v5, v6, rfl⟩
        refine ⟨_, rfl, .inl (rp (.lst (SqL.of (e2 _ _ hD1)) ?_) shz ?_)⟩
        · have := Dp.ex (K := K) e2 (.list zs) (.ref D) (.lst (SqL.of hD1) dzs)
          have go : ∀ {vs : List V} {zs : List PyData}, DpAll K H1 vs zs → DpAll K H2 vs zs := by
            intro vs zs h
            induction h using DpAll.rec (motive_1 := fun v d _ => Dp K H2 v d) with
            | non => exact .non
            | bl b => exact .bl b
            | int i => exact .int i
            | str x => exact .str x
            | lst s _ ih => exact .lst (Evl.ex_l e2 s) ih
            | tup s _ ih => exact .tup (Evl.ex_t e2 s) ih
            | nil => exact .nil
            | cons _ _ h1 h2 => exact .cons h1 h2
          exact go dzs
        · refine ⟨_, rfl, .inl ⟨rfl, ?_⟩⟩
          rw [decide_eq_true rfl]
          exact q _ (eH.trans (Exb.of e2)) ((BH.ex e2).le (by omega))
end
end K19
/-! changed, right, law -/
namespace K19
open PySem PySem.Spec PyProof.Rows L2 VB BM
theorem ixN_nat {n j : Nat} (h : j < n) : ixN n (j : Int) = some j := by
  unfold ixN
  rw [if_pos (by omega), if_pos (by omega)]
  exact congrArg some (by omega)
theorem oct_set {xs : List Int} {j : Nat} {o : Int} (h : Oct xs) (h0 : 0 ≤ o) (h1 : o ≤ 255) : Oct (xs.set j o) := fun x hx => by
  rcases List.mem_or_eq_of_mem_set hx with hx | rfl
  · exact h x hx
  · exact ⟨h0, h1⟩
section
variable {P : Program} {w : World} {K : PySem.W.Frag} {mg : Str → Option Value} {base : Heap} {f : Addr} {fd : FuncData}
def spChg : Sp := fun vs H Q _ => ∃ (bx a : Addr) (c : Int) (p : List Str) (n : Int) (os : List Int), vs = [.ref bx, .ref a] ∧ Box H bx c ∧ c < 20000000 ∧ StpT H (.ref a) (.one ⟨2, [.path p, .size n, .octs os]⟩) ∧ (⟨2, [.path p, .size n, .octs os]⟩ : Dd).Good ∧ ∀ H' : Hp, Exb bx H H' → Box H' bx (c + 40) → Q (.bl true) H'
theorem ok_chg (T : Txt K mg) (F : FnP K "_law_changed_right" s__law_changed_right f fd) (C__law_take : Cal P w K mg base CX0 1 "_law_take" ["_law_box_here", "_law_many"] spTake) (C__law_octet : Cal P w K mg base CX0 2 "_law_octet" ["_law_box_here"] spOctL) (C__law_line : Cal P w K mg base CX0 3 "_law_line" ["_law_step_here"] (spLLine K))
    (C__law_told : Cal P w K mg base CX0 9 "_law_told" ["_law_step_here", "_law_turn"] (spTold K)) :
    Fg P w K mg base CX0 10 f fd ["_law_box_here", "_law_step_here"] spChg := by
  refine fg_of F sc__law_changed_right (fun vs H Q E h => ?_) (fun cdv A outer s0 H vs Q E hr h => ⟨_, (PSs.nox (pss_cons (ps_set (i := 2) sc__law_changed_right.nd rfl (by first | exact Or.inl rfl | exact Or.inr rfl) (pe_callTy (u_list (K := K)) (by rfl) T.f_list (by decide +kernel) (pa_cons (pe_ix (u_ix (K := K)) (pv 1) pe_int (fun _ _ => rfl)) pa_nil)))
  (pss_cons (ps_set (i := 3) sc__law_changed_right.nd rfl (by first | exact Or.inl rfl | exact Or.inr rfl) (pe_tup (pa_cons (pe_ix (u_ix (K := K)) (pv 1) pe_int (fun _ _ => rfl)) (pa_cons (pe_ix (u_ix (K := K)) (pv 1) pe_int (fun _ _ => rfl)) (pa_cons (pe_ix (u_ix (K := K)) (pv 1) pe_int (fun _ _ => rfl)) (pa_cons (pv 2) pa_nil))))))
  (pss_cons (ps_for PassesOwn.never rfl (pi_range1 rfl T.f_range (pa_cons pe_int pa_nil)) (pg_name (i := 4) sc__law_changed_right.nd rfl (by first | exact Or.inl rfl | exact Or.inr rfl))
  (pss_cons (ps_if (pt_cmpR (u_ne (K := K) hr) (pe_callB (u_reprV (K := K) hr) (by rfl) T.f_repr (by decide +kernel) (pa_cons (pe_cal C__law_told hr.le pass0 (pa_cons (pv 3) (pa_cons (pv 4) pa_nil))) pa_nil)) (pe_callB (u_reprV (K := K) hr) (by rfl) T.f_repr (by decide +kernel) (pa_cons (pe_cal C__law_line hr.le pass0 (pa_cons (pe_op (u_addX (K := K)) (pe_slice (u_sl (K := K)) (pv 1) po_none (po_some pe_int)) (pe_tup (pa_cons (pe_callTy (u_tup (K := K)) (by rfl) T.f_tuple (by decide +kernel) (pa_cons (pv 2) pa_nil)) pa_nil))) pa_nil)) pa_nil)) (nomark _))
  (pss_one (ps_ret pe_bl)) pss_nil)
  (pss_one (ps_if (PW.pt (pw_and (pt_cmpR op_lt (pe_callB (u_len (K := K)) (by rfl) T.f_len (by decide +kernel) (pa_cons (pv 2) pa_nil)) pe_int (nomark _)) (pw_and1 (pt_cmpR (u_eq (K := K) hr) (pe_cal C__law_take hr.le pass0 (pa_cons (pv 0) (pa_cons pe_int pa_nil))) pe_int (nomark _)))))
  (pss_one (ps_expr (pe_bm PySem.F.plainAttrs_list PySem.F.slot_list_append PySem.F.type_list_append mt_append (pv 2) (pa_cons (pe_cal C__law_octet hr.le pass0 (pa_cons (pv 0) pa_nil)) pa_nil)))) (pss_one (ps_asg (pe_cal C__law_octet hr.le pass0 (pa_cons (pv 0) pa_nil)) (pg_sub (pv 2) (pe_cal C__law_take hr.le pass0 (pa_cons (pv 0) (pa_cons (pe_callB (u_len (K := K)) (by rfl) T.f_len (by decide +kernel) (pa_cons (pv 2) pa_nil)) pa_nil))) set_list)))))))
  (pss_one (ps_ret pe_bl)))))), ?_⟩)
  · obtain ⟨bx, a, c, p, n, os, rfl, _⟩ := h
    rfl
  · obtain ⟨bx, a, c, p, n, os, rfl, B, hc, at_, g, q⟩ := h
    obtain ⟨a', vs, ea, ha, PP⟩ := at_
    obtain rfl := V.ref.inj ea
    obtain ⟨pa, oa, rfl, hpa, hoa⟩ : ∃ pa oa, vs = [.ref pa, .int n, .ref oa] ∧ H pa = some (.tup (p.map V.str)) ∧ H oa = some (.tup (IV os)) := by
      cases PP with | cons h t => cases t with | cons h2 t => cases t with | cons h3 t => cases t; obtain ⟨pa, rfl, h⟩ := h; obtain rfl := h2; obtain ⟨oa, rfl, h3⟩ := h3; exact ⟨pa, oa, rfl, h, h3⟩
    have ha : H a = some (.tup [.str "write", .ref pa, .int n, .ref oa]) := ha
    obtain ⟨gp, gl⟩ := g.gd (.path p) (by simp)
    obtain ⟨n0, n96⟩ := g.gd (.size n) (by simp)
    obtain ⟨oo, o1, o48⟩ := g.gd (.octs os) (by simp)
    refine ⟨_, rfl, Sv.ix (x := V.ref oa) (Sv.tup ha) (atI_nat (j := 3) rfl) ⟨oa, _, rfl, .inr (SqT.of hoa), fun L nL => ?_⟩⟩
    have xL := Evl.Ex.new (o := .lst (IV os)) nL
    have hL := upd_same (H := H) (a := L) (o := .lst (IV os))
    have Lb : L ≠ bx := B.at nL
    have B1 := B.ex xL
    have e1 : Exb bx H (upd H L (.lst (IV os))) := Exb.of xL
    have t1 : TEx H (upd H L (.lst (IV os))) := .of xL
    generalize upd H L (.lst (IV os)) = H1 at hL B1 e1 t1 ⊢
    refine ⟨_, rfl, Sv.ix (x := V.str "write") (Sv.tup (t1 _ _ ha)) (atI_nat (j := 0) rfl) ⟨_, rfl, Sv.ix (x := V.ref pa) (Sv.tup (t1 _ _ ha)) (atI_nat (j := 1) rfl) ⟨_, rfl, Sv.ix (x := V.int n) (Sv.tup (t1 _ _ ha)) (atI_nat (j := 2) rfl) ⟨_, rfl, by show 4 ≤ sizeLine; decide, fun h nh => ?_⟩⟩⟩⟩
    have yh := Evl.Ex.new (o := .tup [V.str "write", .ref pa, .int n, .ref L]) nh
    have hh := upd_same (H := H1) (a := h) (o := .tup [V.str "write", .ref pa, .int n, .ref L])
    have hL := yh _ _ hL
    have B1 := B1.ex yh
    have e1 := e1.trans (Exb.of yh)
    have t1 := t1.trans (.of yh)
    generalize upd H1 h (.tup [V.str "write", .ref pa, .int n, .ref L]) = H2 at hh hL B1 e1 t1 ⊢
    refine ⟨3, rfl, by decide, by decide, for_range (lo := 0) (n := 3) (fun i σ G => i ≤ 3 ∧ Exb bx H G ∧ TEx H2 G ∧ Box G bx (c + 4 * (i : Int)) ∧ ∃ (xs : List Int) (v4 : Option V), σ = [some (.ref bx), some (.ref a), some (.ref L), some (.ref h), v4] ∧ G L = some (.lst (IV xs)) ∧ Oct xs ∧ 1 ≤ xs.length ∧ xs.length ≤ 48) ⟨by decide, e1, .refl, B1.le (by omega), os, _, rfl, hL, oo, o1, o48⟩ ?_ ?_⟩
    · rintro i σ G hi ⟨_, eG, tG, BG, xs, v4, rfl, gL, ox, x1, x48⟩
      have ga := (t1.trans tG) _ _ ha
      have gpa := (t1.trans tG) _ _ hpa
      have gh := tG _ _ hh
      have gx : (⟨2, [.path p, .size n, .octs xs]⟩ : Dd).Good := good_w gp gl n0 n96 ox x1 x48
      have sx : ∀ {G' : Hp}, Evl.Ex G G' → StpAt G' (.ref h) (.one ⟨2, [.path p, .size n, .octs xs]⟩) := fun e => ⟨h, _, rfl, e _ _ gh, .cons ⟨pa, rfl, e _ _ gpa⟩ (.cons rfl (.cons ⟨L, rfl, .inr (e _ _ gL)⟩ .nil))⟩
      refine ⟨_, rfl, _, rfl, .ref h, _, .one ⟨2, [.path p, .size n, .octs xs]⟩, rfl, sx (Evl.Ex.refl _), gx, fun G1 f1 => .inr ⟨_, rfl, line_repr (s := .one _) gx, ?_⟩⟩
      refine ⟨_, rfl, 3, rfl, sl_x (f1 _ _ ga) (nwn (j := 3) (by simp)) fun s1 G2 f2 h2 => ?_⟩
      rw [show (3 : Int) = ((3 : Nat) : Int) from rfl, cutn] at h2
      have F2 := f1.trans f2
      refine ⟨_, rfl, L, _, rfl, .inl ⟨SqL.of (F2 _ _ gL), fun t nt => ⟨by show 1 ≤ sizeLine; decide, fun u nu => ?_⟩⟩⟩
      have yt := Evl.Ex.new (o := .tup (IV xs)) nt
      have yu := Evl.Ex.new (o := .tup [V.ref t]) nu
      refine cat_x (ys := [V.ref t]) ((yt.trans yu) _ _ h2) upd_same (by simp) fun z G3 f3 h3 => ?_
      have F3 := ((F2.trans yt).trans yu).trans f3
      refine ⟨.ref z, .one ⟨2, [.path p, .size n, .octs xs]⟩, rfl, ⟨z, [.ref pa, .int n, .ref t], rfl, h3, .cons ⟨pa, rfl, F3 _ _ gpa⟩ (.cons rfl (.cons ⟨t, rfl, (yu.trans f3) _ _ upd_same⟩ .nil))⟩, gx, fun G4 f4 => ?_⟩
      refine .inr ⟨_, rfl, line_repr (s := .one _) gx, .inl ⟨rfl, _, rfl, same_ne ?_⟩⟩
      have F4 := F3.trans f4
      have e4 := eG.trans (Exb.of F4)
      have t4 := tG.trans (.of F4)
      have B4 := BG.ex F4
      have g4 := F4 _ _ gL
      clear F4 f4 F3 f3 yt yu F2 f2 f1
      have setw : ∀ {D : Ends}, (∀ σ' G', (i + 1 ≤ 3 ∧ Exb bx H G' ∧ TEx H2 G' ∧ Box G' bx (c + 4 * ((i + 1 : Nat) : Int)) ∧ ∃ (xs : List Int) (v4 : Option V), σ' = [some (.ref bx), some (.ref a), some (.ref L), some (.ref h), v4] ∧ G' L = some (.lst (IV xs)) ∧ Oct xs ∧ 1 ≤ xs.length ∧ xs.length ≤ 48) → D.nx σ' G') → ∀ (G5 : Hp), Exb bx G4 G5 → Box G5 bx (c + 4 * (i : Int) + 1) →
          tAsg (tCall spOctL [] E0 (tCons (tVar 0) tNil)) (gSub (tVar 2) (tCall spTake [] E0 (tCons (tVar 0) (tCons (tCB (rLenU K) (tCons (tVar 2) tNil)) tNil))) rSetL) D [some (.ref bx), some (.ref a), some (.ref L), some (.ref h), some (.int (0 + (i : Int)))] G5 := by
        intro D k G5 e5 B5
        refine ⟨_, rfl, bx, _, rfl, B5, by omega, fun o G6 o0 o1 e6 B6 => ?_⟩
        have g6 := (e5.trans e6) _ _ Lb g4
        refine ⟨_, rfl, _, rfl, _, rfl, _, _, rfl, (Sv.lst (K := K) g6).len, bx, _, _, rfl, B6, by rw [iv_len]; omega, by rw [iv_len]; omega, by omega, fun k0 G7 r0 r1 e7 B7 => ?_⟩
        obtain ⟨j, rfl⟩ : ∃ j : Nat, k0 = j := ⟨k0.toNat, by omega⟩
        have hj : j < xs.length := by rw [iv_len] at r1; omega
        have g7 := e7 _ _ Lb g6
        refine ⟨L, _, _, j, rfl, rfl, g7, by rw [iv_len]; exact ixN_nat hj, k _ _ ⟨by omega, ?_, ?_, ?_, xs.set j o, _, rfl, ?_, oct_set ox o0 o1, by rw [List.length_set]; exact x1, by rw [List.length_set]; exact x48⟩⟩
        · exact exb_mut (((e4.trans e5).trans e6).trans e7) nL
        · exact (((t4.trans (.exb e5 B4)).trans (.exb e6 B5)).trans (.exb e7 B6)).trans (.upd g7)
        · exact box_mut (B7.le (by omega)) Lb
        · rw [upd_same]
          exact congrArg (fun z => some (HO.lst z)) (List.map_set).symm
      refine ⟨_, rfl, _, _, rfl, (Sv.lst (K := K) g4).len, _, _, rfl, rfl, _, rfl, ?_⟩
      rw [iv_len]
      by_cases x47 : xs.length < 48
      · rw [decide_eq_true (by omega)]
        refine iteT ⟨_, rfl, bx, 2, _, rfl, B4, by decide, by decide, by omega, fun r G5 r0 r2 e5 B5 => .inl ⟨rfl, _, rfl, ?_⟩⟩
        rw [dki]
        by_cases z0 : r = 0
        · rw [decide_eq_true z0]
          have g5 := e5 _ _ Lb g4
          refine iteT ⟨_, rfl, .inl ⟨rfl, _, SqL.of g5⟩, _, rfl, bx, _, rfl, B5, by omega, fun o G6 o0 o1 e6 B6 => ?_⟩
          have g6 := e6 _ _ Lb g5
          refine ⟨L, _, _, rfl, rfl, g6, by rw [iv_len]; exact Evl.sz_lt (by omega), by omega, exb_mut ((e4.trans e5).trans e6) nL, ((t4.trans (.exb e5 B4)).trans (.exb e6 B5)).trans (.upd g6), box_mut (B6.le (by omega)) Lb, xs ++ [o], _, rfl, ?_, oct_snoc ox o0 o1, by rw [List.length_append]; omega, by rw [List.length_append]; show _ + 1 ≤ 48; omega⟩
          rw [upd_same, iv_app]
          rfl
        · rw [decide_eq_false z0]
          exact iteF (setw (fun _ _ z => z) G5 e5 B5)
      · rw [decide_eq_false (by omega)]
        exact iteF (iteF (setw (fun _ _ z => z) G4 (fun _ _ _ h => h) (B4.le (by omega))))
    · rintro σ G ⟨_, eG, tG, BG, _⟩
      exact q G eG (BG.le (by omega))
def spRight : Sp := fun vs H Q _ => ∃ bx : Addr, vs = [.ref bx] ∧ Box H bx 0 ∧ ∀ H' : Hp, Exb bx H H' → Q (.bl true) H'
theorem ok_right (T : Txt K mg) (F : FnP K "_law_right" s__law_right f fd) (C__law_take : Cal P w K mg base CX0 1 "_law_take" ["_law_box_here", "_law_many"] spTake) (C__law_path : Cal P w K mg base CX0 3 "_law_path" ["_law_box_here"] spPathL) (C__law_run_octets : Cal P w K mg base CX0 3 "_law_run_octets" ["_law_box_here"] spRunO)
    (C__law_step : Cal P w K mg base CX0 5 "_law_step" ["_law_box_here"] spStepL) (C__law_near : Cal P w K mg base CX0 3 "_law_near" ["_law_box_here", "_law_step_here"] (spNear true)) (C__law_asked_right : Cal P w K mg base CX0 10 "_law_asked_right" ["_law_box_here", "_law_steps"] spAsked) (C__law_changed_right : Cal P w K mg base CX0 10 "_law_changed_right" ["_law_box_here", "_law_step_here"] spChg)
    (C_line_of : Cal P w K mg base CX0 8 "line_of" ["step"] (spLine K)) :
    Fg P w K mg base CX0 11 f fd ["_law_box_here"] spRight := by
  refine fg_of F sc__law_right (fun vs H Q E h => ?_) (fun cdv A outer s0 H vs Q E hr h => ⟨_, (PSs.nox (pss_cons (ps_set (i := 1) sc__law_right.nd rfl (by first | exact Or.inl rfl | exact Or.inr rfl) (pe_tup (pa_cons pe_str (pa_cons (pe_cal C__law_path hr.le pass0 (pa_cons (pv 0) pa_nil)) (pa_cons (pe_cal C__law_take hr.le pass0 (pa_cons (pv 0) (pa_cons pe_int pa_nil))) (pa_cons (pe_callTy (u_tup (K := K)) (by rfl) T.f_tuple (by decide +kernel) (pa_cons (pe_cal C__law_run_octets hr.le pass0 (pa_cons (pv 0) pa_nil)) pa_nil)) pa_nil))))))
  (pss_cons (ps_set (i := 2) sc__law_right.nd rfl (by first | exact Or.inl rfl | exact Or.inr rfl) (pe_lst (pa_cons (pv 1) (pa_cons (pe_cal C__law_step hr.le pass0 (pa_cons (pv 0) pa_nil)) (pa_cons (pe_cal C__law_step hr.le pass0 (pa_cons (pv 0) pa_nil)) pa_nil)))))
  (pss_cons (ps_set (i := 2) sc__law_right.nd rfl (by first | exact Or.inl rfl | exact Or.inr rfl) (pe_op (u_add (K := K)) (pv 2) (pe_lc (own := [("_law_step_here", 6)]) rfl sc__law_right.nd (pi_seq (K := K) (pv 2)) (blkOk_by (own := [("_law_step_here", 6)]) (N := ["_law_box_here", "_law_plain", "_law_steps", "_law_lines", "_law_k", "_law_j", "_law_step_here"]) (sc := defScope s__law_right) (by decide +kernel)) (fun _ _ _ _ _ => (pg_name (i := 6) sc__law_right.nd rfl (by first | exact Or.inl rfl | exact Or.inr rfl))) (fun _ _ _ _ _ => pts_nil) (fun _ _ _ _ _ => (pe_cal C__law_near hr.le pass0 (pa_cons (pv 0) (pa_cons (pv 6) pa_nil)))))))
  (pss_cons (ps_if (PW.pt (pw_or (pt_not (pt_tru (K := K) (pe_cal C__law_asked_right hr.le pass0 (pa_cons (pv 0) (pa_cons (pv 2) pa_nil))) (by intro _; rfl))) (pw_or1 (pt_not (pt_tru (K := K) (pe_cal C__law_changed_right hr.le pass0 (pa_cons (pv 0) (pa_cons (pv 1) pa_nil))) (by intro _; rfl))))))
  (pss_one (ps_ret pe_bl)) pss_nil)
  (pss_cons (ps_setLc (i := 3) (own := [("_law_step_here", 6)]) rfl sc__law_right.nd rfl rfl (sw_true rfl rfl rfl (by decide +kernel)) (pi_seq (K := K) (pv 2)) (blkOk_by (own := [("_law_step_here", 6)]) (N := ["_law_box_here", "_law_plain", "_law_steps", "_law_lines", "_law_k", "_law_j", "_law_step_here"]) (sc := defScope s__law_right) (by decide +kernel)) (fun _ _ _ _ _ => (pg_name (i := 6) sc__law_right.nd rfl (by first | exact Or.inl rfl | exact Or.inr rfl))) (fun _ _ _ _ _ => pts_nil) (fun _ _ _ _ _ => (pe_cal C_line_of hr.le pass0 (pa_cons (pv 6) pa_nil))))
  (pss_cons (ps_for PassesOwn.never rfl (pi_range1 rfl T.f_range (pa_cons (pe_callB (u_len (K := K)) (by rfl) T.f_len (by decide +kernel) (pa_cons (pv 2) pa_nil)) pa_nil)) (pg_name (i := 4) sc__law_right.nd rfl (by first | exact Or.inl rfl | exact Or.inr rfl))
  (pss_one (ps_for PassesOwn.never rfl (pi_range1 rfl T.f_range (pa_cons (pv 4) pa_nil)) (pg_name (i := 5) sc__law_right.nd rfl (by first | exact Or.inl rfl | exact Or.inr rfl))
  (pss_one (ps_if (pt_cmpR (u_ne (K := K) hr) (pe_cmpR (u_eq (K := K) hr) (pe_ix (u_ix (K := K)) (pv 3) (pv 5) (fun _ _ => rfl)) (pe_ix (u_ix (K := K)) (pv 3) (pv 4) (fun _ _ => rfl)) (nomark _)) (pe_cmpR (u_eq (K := K) hr) (pe_ix (u_ix (K := K)) (pv 2) (pv 5) (fun _ _ => rfl)) (pe_ix (u_ix (K := K)) (pv 2) (pv 4) (fun _ _ => rfl)) (nomark _)) (nomark _))
  (pss_one (ps_ret pe_bl)) pss_nil)))))
  (pss_one (ps_ret pe_bl))))))))), ?_⟩)
  · obtain ⟨bx, rfl, _⟩ := h
    rfl
  · obtain ⟨bx, rfl, B, q⟩ := h
    refine ⟨_, rfl, bx, 0, rfl, B, by decide, fun pa p H1 hp pl ha e1 B1 => ?_⟩
    refine ⟨_, rfl, bx, 97, 100, rfl, B1, by decide, by decide, by decide, fun n H2 n0 n97 e2 B2 => ?_⟩
    refine ⟨_, rfl, bx, 101, rfl, B2, by decide, fun o os H3 oo o1 o48 no ho e3 B3 => ⟨o, _, rfl, .inl ⟨SqL.of ho, fun t nt => ?_⟩⟩⟩
    have xt := Evl.Ex.new (o := .tup (IV os)) nt
    refine ⟨by show 4 ≤ sizeLine; decide, fun u nu => ?_⟩
    have xu := Evl.Ex.new (o := .tup [V.str "write", .ref pa, .int n, .ref t]) nu
    have hpa : (upd (upd H3 t (.tup (IV os))) u (.tup [V.str "write", .ref pa, .int n, .ref t])) pa = some (.tup (p.map V.str)) := (xt.trans xu) _ _ (TEx.exb e3 B2 _ _ (TEx.exb e2 B1 _ _ ha))
    have gw : (⟨2, [.path p, .size n, .octs os]⟩ : Dd).Good := good_w hp (by omega) n0 (by omega) oo o1 o48
    have hw : StpT (upd (upd H3 t (.tup (IV os))) u (.tup [V.str "write", .ref pa, .int n, .ref t])) (.ref u) (.one ⟨2, [.path p, .size n, .octs os]⟩) := ⟨u, _, rfl, upd_same, .cons ⟨pa, rfl, hpa⟩ (.cons rfl (.cons ⟨t, rfl, xu _ _ upd_same⟩ .nil))⟩
    have e4 := ((e1.trans e2).trans e3).trans (Exb.of (xt.trans xu))
    have B4 := (B3.ex xt).ex xu
    generalize upd (upd H3 t (.tup (IV os))) u (.tup [V.str "write", .ref pa, .int n, .ref t]) = H4 at hw e4 B4 ⊢
    refine ⟨_, rfl, _, rfl, bx, 151, rfl, B4.le (by decide), by decide, fun v1 s1 H5 g1 m1 a1 e5 B5 => ?_⟩
    refine ⟨_, rfl, bx, 1451, rfl, B5.le (by decide), by decide, fun v2 s2 H6 g2 m2 a2 e6 B6 => ?_⟩
    refine ⟨by show 3 ≤ sizeLine; decide, fun L nL => ?_⟩
    have xL := Evl.Ex.new (o := .lst [V.ref u, v1, v2]) nL
    have hL := upd_same (H := H6) (a := L) (o := .lst [V.ref u, v1, v2])
    have Lb : L ≠ bx := B6.at nL
    have PP : Paired (StpT (upd H6 L (.lst [V.ref u, v1, v2]))) [V.ref u, v1, v2] [.one ⟨2, [.path p, .size n, .octs os]⟩, s1, s2] := .cons (((hw.tx (.exb e5 B4)).tx (.exb e6 B5)).ex xL) (.cons ((a1.tx (.exb e6 B5)).ex xL) (.cons (a2.ex xL) .nil))
    have e7 := ((e4.trans e5).trans e6).trans (Exb.of xL)
    have B7 := B6.ex xL
    generalize upd H6 L (.lst [V.ref u, v1, v2]) = H7 at hL PP e7 B7 ⊢
    have gm0 : ∀ s ∈ [Stp.one ⟨2, [.path p, .size n, .octs os]⟩, s1, s2], s.Good ∧ s.Sm := fun s hs => by
      rcases List.mem_cons.mp hs with rfl | hs
      · exact ⟨gw, sm_w pl (fun q hq => by simp at hq)⟩
      · rcases List.mem_cons.mp hs with rfl | hs
        · exact ⟨g1, m1⟩
        · rw [List.mem_singleton.mp hs]
          exact ⟨g2, m2⟩
    refine ⟨_, rfl, seq_var (t := false) rfl (Sv.lst hL) fun J wk D hD => ?_⟩
    refine lc_draw (At := StpT) (fun z e => z.tx e) wk (bx := bx) (c := 2751) (k := 20) (fun _ s => s.Good) (show 3 ≤ 60000 by decide) hD (B7.le (by decide)) (fun H' e => Sv.lst (e _ _ Lb hL)) ?_ ?_
    · rintro i x G G' R Nx hi eG BG ⟨rfl, hx⟩ k
      have hi : i < 3 := hi
      obtain ⟨s, hs, sa⟩ := pr_at PP hx
      obtain ⟨gs, ms⟩ := gm0 s (List.mem_of_getElem? hs)
      exact ⟨rfl, _, rfl, _, rfl, bx, _, x, s, rfl, BG, (show _ < (60000000 : Int) by omega), sa.tx (.exb eG B7), gs, ms, fun z => absurd z (by decide), fun v' s' G2 g' _ a' e2 B2 => k v' G2 s' g' e2 B2 a'⟩
    · intro H8 us ss' ls gs' e8 B8 hD8 pv
      have lus := px_len pv
      have ls : ss'.length = 3 := ls
      refine cat_l (e8 _ _ Lb hL) hD8 (by show 3 + _ ≤ 1000; omega) fun L2 H9 n9 e9 h9 => ?_
      have L2b : L2 ≠ bx := B8.at n9
      have B9 := B8.ex e9
      have PP9 := pr_app (px_mono (fun _ _ z => StpT.ex (StpT.tx z (.exb e8 B7)) e9) PP) (px_mono (fun _ _ z => z.ex e9) pv)
      have gm : ∀ s ∈ [Stp.one ⟨2, [.path p, .size n, .octs os]⟩, s1, s2] ++ ss', s.Good := fun s hs => by
        rcases List.mem_append.mp hs with hs | hs
        · exact (gm0 s hs).1
        · obtain ⟨j, hj⟩ := List.getElem?_of_mem hs
          exact gs' j s hj
      have len6 : ([Stp.one ⟨2, [.path p, .size n, .octs os]⟩, s1, s2] ++ ss').length = 6 := by
        rw [List.length_append, ls]
        rfl
      have hw9 : StpT H9 (.ref u) (.one ⟨2, [.path p, .size n, .octs os]⟩) := by
        cases PP9 with | cons h _ => exact h
      have e9' := (e7.trans e8).trans (Exb.of e9)
      generalize [Stp.one ⟨2, [.path p, .size n, .octs os]⟩, s1, s2] ++ ss' = SS at PP9 gm len6
      generalize [V.ref u, v1, v2] ++ us = US at PP9 h9
      have lUS := px_len PP9
      refine ⟨_, rfl, _, rfl, bx, L2, _, US, SS, rfl, B9, (show (2751 : Int) + 20 * 3 < 20000000 by decide), L2b, h9, PP9, gm, by omega, fun H10 e10 B10 => ⟨true, rfl, iteF ?_⟩⟩
      have t10 := TEx.exb e10 B9
      have h10 := e10 _ _ L2b h9
      refine ⟨_, rfl, _, rfl, bx, u, _, p, n, os, rfl, B10, (show (2751 : Int) + 20 * 3 + 6 < 20000000 by decide), hw9.tx t10, gw, fun H11 e11 => ?_⟩
      have fin : Exb bx H10 H11 → ∀ m, Box H11 bx m → True := fun _ _ _ => trivial
      intro B11
      refine ⟨true, rfl, iteF ?_⟩
      have t11 := TEx.exb e11 B10
      have h11 := e11 _ _ L2b h10
      have E11 := (e9'.trans e10).trans e11
      have PP11 := px_mono (fun _ _ z => (StpT.tx z t10).tx t11) PP9
      refine seq_var (t := false) rfl (Sv.lst h11) fun J2 wk2 D2 hD2 => ?_
      refine lc_pureVS (us := SS.map fun s => V.str (lineS s)) wk2 (fun H' ex => Sv.lst (ex _ _ h11)) (by rw [List.length_map, lUS]) (by omega) hD2 (fun _ => rfl) ?_ ?_
      · intro i x z H' Q' hx hz ex k
        obtain ⟨s, hs, sa⟩ := pr_at PP11 hx
        rw [List.getElem?_map, hs] at hz
        obtain rfl := (Option.some.inj hz).symm
        exact ⟨_, rfl, x, s, rfl, (sa.ex ex).at, gm s (List.mem_of_getElem? hs), k⟩
      · intro H12 e12 hD12
        have h12 := e12 _ _ h11
        have PP12 := px_mono (fun _ _ z => StpT.ex z e12) PP11
        have E12 := E11.trans (Exb.of e12)
        refine ⟨_, rfl, _, _, rfl, (Sv.lst (K := K) h12).len, (US.length : Int), rfl, by omega, by omega, ?_⟩
        rw [Int.toNat_natCast]
        refine for_range (lo := 0) (n := US.length) (fun i σ G => G = H12 ∧ ∃ v4 v5 : Option V, σ = [some (.ref bx), some (.ref u), some (.ref L2), some (.ref D2), v4, v5, none]) ⟨rfl, _, _, rfl⟩ ?_ ?_
        · rintro i σ G hi ⟨rfl, v4, v5, rfl⟩
          rw [show (0 : Int) + (i : Int) = (i : Int) by omega]
          refine ⟨_, rfl, (i : Int), rfl, by omega, by omega, ?_⟩
          rw [Int.toNat_natCast]
          refine for_range (lo := 0) (n := i) (fun j σ G' => G' = G ∧ ∃ v5 : Option V, σ = [some (.ref bx), some (.ref u), some (.ref L2), some (.ref D2), some (.int (i : Int)), v5, none]) ⟨rfl, _, rfl⟩ ?_ ?_
          · rintro j σ G' hj ⟨rfl, v5, rfl⟩
            rw [show (0 : Int) + (j : Int) = (j : Int) by omega]
            have hxi : US[i]? = some US[i] := List.getElem?_eq_getElem hi
            have hxj : US[j]? = some (US[j]'(by omega)) := List.getElem?_eq_getElem (by omega)
            obtain ⟨si, hsi, ai⟩ := pr_at PP12 hxi
            obtain ⟨sj, hsj, aj⟩ := pr_at PP12 hxj
            have gi := gm si (List.mem_of_getElem? hsi)
            have gj := gm sj (List.mem_of_getElem? hsj)
            have li : atI (SS.map fun s => V.str (lineS s)) (i : Int) = some (.str (lineS si)) := atI_nat (by rw [List.getElem?_map, hsi]; rfl)
            have lj : atI (SS.map fun s => V.str (lineS s)) (j : Int) = some (.str (lineS sj)) := atI_nat (by rw [List.getElem?_map, hsj]; rfl)
            refine ⟨_, rfl, _, rfl, Sv.ix (x := V.str (lineS sj)) (Sv.lst hD12) lj ⟨_, rfl, _, rfl, Sv.ix (x := V.str (lineS si)) (Sv.lst hD12) li (.inl ⟨rfl, ?_⟩)⟩⟩
            rw [dks]
            refine ⟨_, rfl, _, rfl, Sv.ix (x := US[j]'(by omega)) (Sv.lst h12) (atI_nat hxj) ⟨_, rfl, _, rfl, Sv.ix (x := US[i]) (Sv.lst h12) (atI_nat hxi) (eq_stps aj ai gj gi (.inl ⟨rfl, _, rfl, same_ne ⟨rfl, _, rfl⟩⟩))⟩⟩
          · rintro σ G' ⟨rfl, v5, rfl⟩
            exact ⟨rfl, _, _, rfl⟩
        · rintro σ G ⟨rfl, v4, v5, rfl⟩
          exact q _ E12
def spLaw (K : PySem.W.Frag) : Sp := fun vs H Q _ => ∃ (a : Addr) (ns : List Int), vs = [.ref a] ∧ SqL K H a (ns.map V.int) ∧ ns.length ≤ 63 ∧ RV (.bl true) H Q
theorem ok_law (T : Txt K mg) (F : FnP K "law" s_law f fd) (C__law_right : Cal P w K mg base CX0 11 "_law_right" ["_law_box_here"] spRight) (C__law_box : Cal P w K mg base CX0 1 "_law_box" ["_law_great"] spBox) (C__law_cell : Cal P w K mg base CX0 1 "_law_cell" ["_law_script", "_law_k"] (spCell K)) : Fg P w K mg base CX0 12 f fd ["_law_script"] (spLaw K) := by
  refine fg_of F sc_law (fun vs H Q E h => ?_) (fun cdv A outer s H vs Q E hr h => ⟨_, (PSs.nox (pss_cons (ps_for PassesOwn.never rfl (pi_range1 rfl T.f_range (pa_cons (pe_callB (call_max2 rfl) (by rfl) T.f_max (by decide +kernel) (pa_cons pe_int (pa_cons (pe_callB (call_min2 rfl) (by rfl) T.f_min (by decide +kernel) (pa_cons pe_int (pa_cons (pe_callB (u_len (K := K)) (by rfl) T.f_len (by decide +kernel) (pa_cons (pv 0) pa_nil)) pa_nil))) pa_nil))) pa_nil)) (pg_name (i := 1) sc_law.nd rfl (by first | exact Or.inl rfl | exact Or.inr rfl))
  (pss_one (ps_if (pt_not (pt_tru (K := K) (pe_cal C__law_right hr.le pass0 (pa_cons (pe_cal C__law_box hr.le pass0 (pa_cons (pe_cal C__law_cell hr.le pass0 (pa_cons (pv 0) (pa_cons (pv 1) pa_nil))) pa_nil)) pa_nil)) (by intro _; rfl)))
  (pss_one (ps_ret pe_bl)) pss_nil)))
  (pss_one (ps_ret pe_bl)))), ?_⟩)
  · obtain ⟨a, ns, rfl, _⟩ := h
    rfl
  · obtain ⟨a, ns, rfl, S, hn, q⟩ := h
    refine ⟨_, rfl, _, _, rfl, .inl ⟨_, S, rfl⟩, _, _, rfl, _, _, rfl, ?_⟩
    obtain ⟨t, ht, t2⟩ : ∃ t : Nat, (if (2 : Int) < (if ((ns.map V.int).length : Int) < 4 then ((ns.map V.int).length : Int) else 4) then (if ((ns.map V.int).length : Int) < 4 then ((ns.map V.int).length : Int) else 4) else 2) = (t : Int) ∧ t ≤ 4 := by
      refine ⟨(if (2 : Int) < (if ((ns.map V.int).length : Int) < 4 then ((ns.map V.int).length : Int) else 4) then (if ((ns.map V.int).length : Int) < 4 then ((ns.map V.int).length : Int) else 4) else 2).toNat, ?_, ?_⟩
      · split <;> split <;> omega
      · split <;> split <;> omega
    rw [ht]
    refine ⟨(t : Int), rfl, by omega, by omega, ?_⟩
    have tt : ((t : Int)).toNat = t := by omega
    rw [tt]
    refine for_range (lo := 0) (n := t) (fun i σ H' => i ≤ t ∧ Evl.Ex H H' ∧ ∃ v1 : Option V, σ = [some (.ref a), v1]) ⟨by omega, Evl.Ex.refl _, _, rfl⟩ ?_ ?_
    · rintro i σ H3 hi ⟨_, e3, v1, rfl⟩
      have ez : (0 : Int) + (i : Int) = (i : Int) := Int.zero_add _
      rw [ez]
      refine ⟨_, rfl, _, rfl, a, ns, (i : Int), rfl, Evl.ex_l e3 S, by omega, by omega, by omega, fun g H4 e4 => ⟨g, rfl, fun bx H5 n5 e5 B => ?_⟩⟩
      have E5 := (e3.trans e4).trans e5
      have nH : H bx = none := Evl.fresh_back (e3.trans e4) n5
      refine ⟨bx, rfl, B, fun H6 x6 => ⟨true, rfl, iteF ?_⟩⟩
      exact ⟨by omega, ex_b E5 nH x6, _, rfl⟩
    · rintro σ H3 ⟨_, e3, v1, rfl⟩
      exact q H3 e3
end
end K19
/-! what the end needs -/
namespace K19
open PySem PySem.Spec PyProof.Rows L2 VB BM
section
variable {P : Program} {w : World} {K : PySem.W.Frag} {mg : Str → Option Value} {base : Heap} {f : Addr} {fd : FuncData} {k : Nat} {ps : List Str}
theorem fg_none : Fg P w K mg base CX0 k f fd ps (fun _ _ _ _ => False) := ⟨fun _ _ _ _ h => h.elim, fun _ _ _ _ _ _ _ _ _ _ _ _ _ h => h.elim⟩
theorem ok_near1 (T : Txt K mg) (F : FnP K "_law_near" s__law_near f fd) (C__law_take : Cal P w K mg base CX0 1 "_law_take" ["_law_box_here", "_law_many"] spTake) (C__law_near : Cal P w K mg base CX0 1 "_law_near" ["_law_box_here", "_law_step_here"] (fun _ _ _ _ => False)) : Fg P w K mg base CX0 2 f fd ["_law_box_here", "_law_step_here"] (spNear false) := by
  exact ok_near false (by decide) (fun z => absurd z (by decide)) T F C__law_take C__law_near
theorem ok_near2 (T : Txt K mg) (F : FnP K "_law_near" s__law_near f fd) (C__law_take : Cal P w K mg base CX0 1 "_law_take" ["_law_box_here", "_law_many"] spTake) (C__law_near : Cal P w K mg base CX0 2 "_law_near" ["_law_box_here", "_law_step_here"] (spNear false)) : Fg P w K mg base CX0 3 f fd ["_law_box_here", "_law_step_here"] (spNear true) := by
  exact ok_near true (by decide) (fun _ => rfl) T F C__law_take C__law_near
theorem ok_handed1 (T : Txt K mg) (F : FnP K "_law_handed" s__law_handed f fd) (C__law_handed : Cal P w K mg base CX0 1 "_law_handed" ["_law_step_here", "_law_way"] (fun _ _ _ _ => False)) : Fg P w K mg base CX0 2 f fd ["_law_step_here", "_law_way"] (spHanded false) := by
  exact ok_handed false (fun z => absurd z (by decide)) T F C__law_handed
theorem ok_handed2 (T : Txt K mg) (F : FnP K "_law_handed" s__law_handed f fd) (C__law_handed : Cal P w K mg base CX0 2 "_law_handed" ["_law_step_here", "_law_way"] (spHanded false)) : Fg P w K mg base CX0 3 f fd ["_law_step_here", "_law_way"] (spHanded true) := by
  exact ok_handed true (fun _ => rfl) T F C__law_handed
theorem strs_ok {q : Addr} {xs : List Str} (h : strsR K q xs = true) (H : Hp) : SqT K H q (xs.map V.str) := by
  unfold strsR at h
  cases e : K.lookup q with
  | none =>
    rw [e] at h
    cases h
  | some o =>
    obtain ⟨oc, od, dt, osl⟩ := o
    rw [e] at h
    cases oc with
    | type c =>
      cases dt with
      | seq its n =>
        have h1 : (decide (c = "tuple") && (decide (its.size ≤ sizeLine) && He.relAll (xs.map V.str) its.toList)) = true := h
        obtain ⟨z1, z2⟩ := He.ba h1
        obtain ⟨z3, z4⟩ := He.ba z2
        have z1 : c = "tuple" := of_decide_eq_true z1
        subst z1
        exact .inr ⟨_, its, n, e, rfl, rfl, of_decide_eq_true z3, He.relAll_ok z4⟩
      | _ => cases h
    | _ => cases od <;> cases dt <;> cases h
theorem tb_of {fal : List He.Fa} {fnl : List He.DefD} {ts : List He.Tab} (c : He.SaysT fal fnl ts w K) (i : Nat) (ht : ts[i]? = some dpT) (h : tbR K = true) : Tb K w := by
  obtain ⟨es, n, kd⟩ := c.tab i ht
  obtain ⟨h1, h2⟩ := He.ba (show ((List.range 9).all _ && _) = true from h)
  refine ⟨⟨es, n, kd.at_, kd.lit, kd.low⟩, fun j hj => ?_, ?_⟩
  · have g := List.all_eq_true.mp h1 j (List.mem_range.mpr hj)
    cases e : PySem.W.nsIn K (He.ga K "DEED_PARTS") (tabWR.getD j "") with
    | none => rw [e] at g; cases g
    | some r =>
      rw [e] at g
      cases r with
      | none => cases g
      | some u =>
        cases u with
        | ref q =>
          have g : strsR K q (tabKR.getD j []) = true := g
          exact ⟨q, .inl ⟨_, e, rfl⟩, ⟨es, n, _, kd.at_, kd.lit, e, rfl⟩, fun H => strs_ok g H⟩
        | _ => cases g
  · cases e : PySem.W.nsIn K (He.ga K "DEED_PARTS") "sync" with
    | none => rw [e] at h2; cases h2
    | some r =>
      rw [e] at h2
      cases r with
      | none => exact .inr ⟨e, rfl⟩
      | some u => cases h2
end
end K19
set_option maxHeartbeats 0
namespace K19
open PySem PySem.Spec PyProof.Rows L2 VB
theorem facts {P : Program} {w : World} {K : PySem.W.Frag} {h : Heap} {mg : Str → Option Value} {f : Addr} (X : K.In h) (G : h.Ns mainGlobals mg) (hfa : mg ("law" : Str) = some (.ref f)) (cx : He.SaysX fal fnl [dpT] [] exB w h K) :
    ∃ fd : FuncData, (∀ (s : Shared) (v : Value), BindsTo s fd ⟨[v], []⟩ [("_law_script", v)]) ∧ ∀ base : Heap, K.In base → base.Ns mainGlobals mg → base.NoDigits → Fg P w K mg base CX0 12 f fd ["_law_script"] (spLaw K) := by
  have c := cx.t.d
  have cm := cx.more
  have cj0 := cm
  have TB := tb_of cx.t 0 rfl (show tbR K = true from cj0)
  obtain ⟨fd__law_take, F__law_take⟩ := c.def_ 0 (d := d__law_take) rfl
  obtain ⟨fd__law_name, F__law_name⟩ := c.def_ 1 (d := d__law_name) rfl
  obtain ⟨fd__law_path, F__law_path⟩ := c.def_ 2 (d := d__law_path) rfl
  obtain ⟨fd__law_octet, F__law_octet⟩ := c.def_ 3 (d := d__law_octet) rfl
  obtain ⟨fd__law_run_octets, F__law_run_octets⟩ := c.def_ 4 (d := d__law_run_octets) rfl
  obtain ⟨fd__law_plain_step, F__law_plain_step⟩ := c.def_ 5 (d := d__law_plain_step) rfl
  obtain ⟨fd__law_step, F__law_step⟩ := c.def_ 6 (d := d__law_step) rfl
  obtain ⟨fd__law_near, F__law_near⟩ := c.def_ 7 (d := d__law_near) rfl
  obtain ⟨fd__law_handed, F__law_handed⟩ := c.def_ 8 (d := d__law_handed) rfl
  obtain ⟨fd__law_runs, F__law_runs⟩ := c.def_ 9 (d := d__law_runs) rfl
  obtain ⟨fd__law_run_word, F__law_run_word⟩ := c.def_ 10 (d := d__law_run_word) rfl
  obtain ⟨fd__law_path_word, F__law_path_word⟩ := c.def_ 11 (d := d__law_path_word) rfl
  obtain ⟨fd__law_words, F__law_words⟩ := c.def_ 12 (d := d__law_words) rfl
  obtain ⟨fd__law_line, F__law_line⟩ := c.def_ 13 (d := d__law_line) rfl
  obtain ⟨fd__is_worded, F__is_worded⟩ := c.def_ 14 (d := d__is_worded) rfl
  obtain ⟨fd_is_name, F_is_name⟩ := c.def_ 15 (d := d_is_name) rfl
  obtain ⟨fd_is_path, F_is_path⟩ := c.def_ 16 (d := d_is_path) rfl
  obtain ⟨fd_is_int_from, F_is_int_from⟩ := c.def_ 17 (d := d_is_int_from) rfl
  obtain ⟨fd_is_list, F_is_list⟩ := c.def_ 18 (d := d_is_list) rfl
  obtain ⟨fd_is_octets, F_is_octets⟩ := c.def_ 19 (d := d_is_octets) rfl
  obtain ⟨fd__is_part, F__is_part⟩ := c.def_ 20 (d := d__is_part) rfl
  obtain ⟨fd__is_single_deed, F__is_single_deed⟩ := c.def_ 21 (d := d__is_single_deed) rfl
  obtain ⟨fd__are_deeds_together, F__are_deeds_together⟩ := c.def_ 22 (d := d__are_deeds_together) rfl
  obtain ⟨fd_is_deed, F_is_deed⟩ := c.def_ 23 (d := d_is_deed) rfl
  obtain ⟨fd__is_step, F__is_step⟩ := c.def_ 24 (d := d__is_step) rfl
  obtain ⟨fd__runs, F__runs⟩ := c.def_ 25 (d := d__runs) rfl
  obtain ⟨fd__run_word, F__run_word⟩ := c.def_ 26 (d := d__run_word) rfl
  obtain ⟨fd__word, F__word⟩ := c.def_ 27 (d := d__word) rfl
  obtain ⟨fd__line, F__line⟩ := c.def_ 28 (d := d__line) rfl
  obtain ⟨fd_line_of, F_line_of⟩ := c.def_ 29 (d := d_line_of) rfl
  obtain ⟨fd__law_told, F__law_told⟩ := c.def_ 30 (d := d__law_told) rfl
  obtain ⟨fd__path_told_by, F__path_told_by⟩ := c.def_ 31 (d := d__path_told_by) rfl
  obtain ⟨fd_number_in_word, F_number_in_word⟩ := c.def_ 32 (d := d_number_in_word) rfl
  obtain ⟨fd__number_told_by, F__number_told_by⟩ := c.def_ 33 (d := d__number_told_by) rfl
  obtain ⟨fd__octets_told_by, F__octets_told_by⟩ := c.def_ 34 (d := d__octets_told_by) rfl
  obtain ⟨fd__item_told_by, F__item_told_by⟩ := c.def_ 35 (d := d__item_told_by) rfl
  obtain ⟨fd__deed_told_by, F__deed_told_by⟩ := c.def_ 36 (d := d__deed_told_by) rfl
  obtain ⟨fd__step_told_by, F__step_told_by⟩ := c.def_ 37 (d := d__step_told_by) rfl
  obtain ⟨fd_read_deed, F_read_deed⟩ := c.def_ 38 (d := d_read_deed) rfl
  obtain ⟨fd__law_back, F__law_back⟩ := c.def_ 39 (d := d__law_back) rfl
  obtain ⟨fd__law_asked_right, F__law_asked_right⟩ := c.def_ 40 (d := d__law_asked_right) rfl
  obtain ⟨fd__law_changed_right, F__law_changed_right⟩ := c.def_ 41 (d := d__law_changed_right) rfl
  obtain ⟨fd__law_right, F__law_right⟩ := c.def_ 42 (d := d__law_right) rfl
  obtain ⟨fd__law_box, F__law_box⟩ := c.def_ 43 (d := d__law_box) rfl
  obtain ⟨fd__law_cell, F__law_cell⟩ := c.def_ 44 (d := d__law_cell) rfl
  obtain ⟨fd_law, F_law⟩ := c.def_ 45 (d := d_law) rfl
  have g__law_take := He.glo_ok X G (c.fact 0 (f := .glo "_law_take") rfl)
  have g__law_name := He.glo_ok X G (c.fact 1 (f := .glo "_law_name") rfl)
  have g__law_path := He.glo_ok X G (c.fact 2 (f := .glo "_law_path") rfl)
  have g__law_octet := He.glo_ok X G (c.fact 3 (f := .glo "_law_octet") rfl)
  have g__law_run_octets := He.glo_ok X G (c.fact 4 (f := .glo "_law_run_octets") rfl)
  have g__law_plain_step := He.glo_ok X G (c.fact 5 (f := .glo "_law_plain_step") rfl)
  have g__law_step := He.glo_ok X G (c.fact 6 (f := .glo "_law_step") rfl)
  have g__law_near := He.glo_ok X G (c.fact 7 (f := .glo "_law_near") rfl)
  have g__law_handed := He.glo_ok X G (c.fact 8 (f := .glo "_law_handed") rfl)
  have g__law_runs := He.glo_ok X G (c.fact 9 (f := .glo "_law_runs") rfl)
  have g__law_run_word := He.glo_ok X G (c.fact 10 (f := .glo "_law_run_word") rfl)
  have g__law_path_word := He.glo_ok X G (c.fact 11 (f := .glo "_law_path_word") rfl)
  have g__law_words := He.glo_ok X G (c.fact 12 (f := .glo "_law_words") rfl)
  have g__law_line := He.glo_ok X G (c.fact 13 (f := .glo "_law_line") rfl)
  have g__is_worded := He.glo_ok X G (c.fact 14 (f := .glo "_is_worded") rfl)
  have g_is_name := He.glo_ok X G (c.fact 15 (f := .glo "is_name") rfl)
  have g_is_path := He.glo_ok X G (c.fact 16 (f := .glo "is_path") rfl)
  have g_is_int_from := He.glo_ok X G (c.fact 17 (f := .glo "is_int_from") rfl)
  have g_is_list := He.glo_ok X G (c.fact 18 (f := .glo "is_list") rfl)
  have g_is_octets := He.glo_ok X G (c.fact 19 (f := .glo "is_octets") rfl)
  have g__is_part := He.glo_ok X G (c.fact 20 (f := .glo "_is_part") rfl)
  have g__is_single_deed := He.glo_ok X G (c.fact 21 (f := .glo "_is_single_deed") rfl)
  have g__are_deeds_together := He.glo_ok X G (c.fact 22 (f := .glo "_are_deeds_together") rfl)
  have g_is_deed := He.glo_ok X G (c.fact 23 (f := .glo "is_deed") rfl)
  have g__is_step := He.glo_ok X G (c.fact 24 (f := .glo "_is_step") rfl)
  have g__runs := He.glo_ok X G (c.fact 25 (f := .glo "_runs") rfl)
  have g__run_word := He.glo_ok X G (c.fact 26 (f := .glo "_run_word") rfl)
  have g__word := He.glo_ok X G (c.fact 27 (f := .glo "_word") rfl)
  have g__line := He.glo_ok X G (c.fact 28 (f := .glo "_line") rfl)
  have g_line_of := He.glo_ok X G (c.fact 29 (f := .glo "line_of") rfl)
  have g__law_told := He.glo_ok X G (c.fact 30 (f := .glo "_law_told") rfl)
  have g__path_told_by := He.glo_ok X G (c.fact 31 (f := .glo "_path_told_by") rfl)
  have g_number_in_word := He.glo_ok X G (c.fact 32 (f := .glo "number_in_word") rfl)
  have g__number_told_by := He.glo_ok X G (c.fact 33 (f := .glo "_number_told_by") rfl)
  have g__octets_told_by := He.glo_ok X G (c.fact 34 (f := .glo "_octets_told_by") rfl)
  have g__item_told_by := He.glo_ok X G (c.fact 35 (f := .glo "_item_told_by") rfl)
  have g__deed_told_by := He.glo_ok X G (c.fact 36 (f := .glo "_deed_told_by") rfl)
  have g__step_told_by := He.glo_ok X G (c.fact 37 (f := .glo "_step_told_by") rfl)
  have g_read_deed := He.glo_ok X G (c.fact 38 (f := .glo "read_deed") rfl)
  have g__law_back := He.glo_ok X G (c.fact 39 (f := .glo "_law_back") rfl)
  have g__law_asked_right := He.glo_ok X G (c.fact 40 (f := .glo "_law_asked_right") rfl)
  have g__law_changed_right := He.glo_ok X G (c.fact 41 (f := .glo "_law_changed_right") rfl)
  have g__law_right := He.glo_ok X G (c.fact 42 (f := .glo "_law_right") rfl)
  have g__law_box := He.glo_ok X G (c.fact 43 (f := .glo "_law_box") rfl)
  have g__law_cell := He.glo_ok X G (c.fact 44 (f := .glo "_law_cell") rfl)
  have g_law := He.glo_ok X G (c.fact 45 (f := .glo "law") rfl)
  have T : Txt K mg := ⟨He.free_ok X G (c.fact 46 (f := .free "abs") rfl), He.free_ok X G (c.fact 47 (f := .free "all") rfl), He.free_ok X G (c.fact 48 (f := .free "bool") rfl), He.free_ok X G (c.fact 49 (f := .free "int") rfl), He.free_ok X G (c.fact 50 (f := .free "isinstance") rfl), He.free_ok X G (c.fact 51 (f := .free "len") rfl), He.free_ok X G (c.fact 52 (f := .free "list") rfl), He.free_ok X G (c.fact 53 (f := .free "max") rfl), He.free_ok X G (c.fact 54 (f := .free "min") rfl), He.free_ok X G (c.fact 55 (f := .free "range") rfl), He.free_ok X G (c.fact 56 (f := .free "repr") rfl), He.free_ok X G (c.fact 57 (f := .free "reversed") rfl), He.free_ok X G (c.fact 58 (f := .free "str") rfl), He.free_ok X G (c.fact 59 (f := .free "sum") rfl), He.free_ok X G (c.fact 60 (f := .free "tuple") rfl), He.free_ok X G (c.fact 61 (f := .free "zip") rfl), He.glo_ok X G (c.fact 62 (f := .glo "DEED_PARTS") rfl), He.str_ok X G (c.fact 63 (f := .str "DIGITS" "0123456789") rfl), He.int_ok X G (c.fact 64 (f := .int "LEAST_TOGETHER" 2) rfl), He.str_ok X G (c.fact 65 (f := .str "LETTERS" "abcdefghijklmnopqrstuvwxyz") rfl), He.int_ok X G (c.fact 66 (f := .int "MOST_DIGITS" 3) rfl), He.int_ok X G (c.fact 67 (f := .int "MOST_LETTERS" 8) rfl), He.int_ok X G (c.fact 68 (f := .int "MOST_SIZE" 96) rfl), He.int_ok X G (c.fact 69 (f := .int "MOST_TOGETHER" 4) rfl), He.int_ok X G (c.fact 70 (f := .int "MOST_WRITTEN" 48) rfl), He.str_ok X G (c.fact 71 (f := .str "SYNC" "sync") rfl), He.str_ok X G (c.fact 72 (f := .str "TOGETHER" "all: ") rfl)⟩
  cases hfa.symm.trans g_law
  have b := FunD.bindsA (ps := ["_law_script"]) F_law fun _ _ _ _ _ _ us hl => match us, hl with | [_], _ => rfl
  refine ⟨fd_law, fun s v => b s [v] rfl, fun base _ _ hd => ?_⟩
  have G_ok_take : Fg P w K mg base CX0 1 _ fd__law_take ["_law_box_here", "_law_many"] spTake := ok_take (F := F__law_take) (T := T)
  have C__law_take_1_0 : Cal P w K mg base CX0 1 "_law_take" ["_law_box_here", "_law_many"] spTake := ⟨_, fd__law_take, G_ok_take.le (by omega), g__law_take, F__law_take.kp, F__law_take.bindsN fun _ _ _ _ _ _ us hl => match us, hl with | [_, _], _ => rfl⟩
  have G_ok_lname : Fg P w K mg base CX0 2 _ fd__law_name ["_law_box_here"] spNameL := ok_lname (F := F__law_name) (T := T) (C__law_take := C__law_take_1_0)
  have C__law_name_2_1 : Cal P w K mg base CX0 2 "_law_name" ["_law_box_here"] spNameL := ⟨_, fd__law_name, G_ok_lname.le (by omega), g__law_name, F__law_name.kp, F__law_name.bindsN fun _ _ _ _ _ _ us hl => match us, hl with | [_], _ => rfl⟩
  have G_ok_lpath : Fg P w K mg base CX0 3 _ fd__law_path ["_law_box_here"] spPathL := ok_lpath (F := F__law_path) (T := T) (C__law_take := C__law_take_1_0) (C__law_name := C__law_name_2_1)
  have G_ok_loctet : Fg P w K mg base CX0 2 _ fd__law_octet ["_law_box_here"] spOctL := ok_loctet (F := F__law_octet) (T := T) (C__law_take := C__law_take_1_0)
  have C__law_octet_2_2 : Cal P w K mg base CX0 2 "_law_octet" ["_law_box_here"] spOctL := ⟨_, fd__law_octet, G_ok_loctet.le (by omega), g__law_octet, F__law_octet.kp, F__law_octet.bindsN fun _ _ _ _ _ _ us hl => match us, hl with | [_], _ => rfl⟩
  have G_ok_runo : Fg P w K mg base CX0 3 _ fd__law_run_octets ["_law_box_here"] spRunO := ok_runo (F := F__law_run_octets) (T := T) (C__law_take := C__law_take_1_0) (C__law_octet := C__law_octet_2_2)
  have C__law_path_3_3 : Cal P w K mg base CX0 3 "_law_path" ["_law_box_here"] spPathL := ⟨_, fd__law_path, G_ok_lpath.le (by omega), g__law_path, F__law_path.kp, F__law_path.bindsN fun _ _ _ _ _ _ us hl => match us, hl with | [_], _ => rfl⟩
  have C__law_run_octets_3_4 : Cal P w K mg base CX0 3 "_law_run_octets" ["_law_box_here"] spRunO := ⟨_, fd__law_run_octets, G_ok_runo.le (by omega), g__law_run_octets, F__law_run_octets.kp, F__law_run_octets.bindsN fun _ _ _ _ _ _ us hl => match us, hl with | [_], _ => rfl⟩
  have G_ok_plain : Fg P w K mg base CX0 4 _ fd__law_plain_step ["_law_box_here"] spPlain := ok_plain (F := F__law_plain_step) (T := T) (C__law_take := C__law_take_1_0) (C__law_path := C__law_path_3_3) (C__law_run_octets := C__law_run_octets_3_4)
  have C__law_plain_step_4_5 : Cal P w K mg base CX0 4 "_law_plain_step" ["_law_box_here"] spPlain := ⟨_, fd__law_plain_step, G_ok_plain.le (by omega), g__law_plain_step, F__law_plain_step.kp, F__law_plain_step.bindsN fun _ _ _ _ _ _ us hl => match us, hl with | [_], _ => rfl⟩
  have G_ok_lstep : Fg P w K mg base CX0 5 _ fd__law_step ["_law_box_here"] spStepL := ok_lstep (F := F__law_step) (T := T) (C__law_take := C__law_take_1_0) (C__law_name := C__law_name_2_1) (C__law_plain_step := C__law_plain_step_4_5)
  have C__law_near_1_6 : Cal P w K mg base CX0 1 "_law_near" ["_law_box_here", "_law_step_here"] (fun _ _ _ _ => False) := ⟨_, fd__law_near, fg_none, g__law_near, F__law_near.kp, F__law_near.bindsN fun _ _ _ _ _ _ us hl => match us, hl with | [_, _], _ => rfl⟩
  have G_ok_near1 : Fg P w K mg base CX0 2 _ fd__law_near ["_law_box_here", "_law_step_here"] (spNear false) := ok_near1 (F := F__law_near) (T := T) (C__law_take := C__law_take_1_0) (C__law_near := C__law_near_1_6)
  have C__law_near_2_7 : Cal P w K mg base CX0 2 "_law_near" ["_law_box_here", "_law_step_here"] (spNear false) := ⟨_, fd__law_near, G_ok_near1.le (by omega), g__law_near, F__law_near.kp, F__law_near.bindsN fun _ _ _ _ _ _ us hl => match us, hl with | [_, _], _ => rfl⟩
  have G_ok_near2 : Fg P w K mg base CX0 3 _ fd__law_near ["_law_box_here", "_law_step_here"] (spNear true) := ok_near2 (F := F__law_near) (T := T) (C__law_take := C__law_take_1_0) (C__law_near := C__law_near_2_7)
  have C__law_handed_1_8 : Cal P w K mg base CX0 1 "_law_handed" ["_law_step_here", "_law_way"] (fun _ _ _ _ => False) := ⟨_, fd__law_handed, fg_none, g__law_handed, F__law_handed.kp, F__law_handed.bindsN fun _ _ _ _ _ _ us hl => match us, hl with | [_, _], _ => rfl⟩
  have G_ok_handed1 : Fg P w K mg base CX0 2 _ fd__law_handed ["_law_step_here", "_law_way"] (spHanded false) := ok_handed1 (F := F__law_handed) (T := T) (C__law_handed := C__law_handed_1_8)
  have C__law_handed_2_9 : Cal P w K mg base CX0 2 "_law_handed" ["_law_step_here", "_law_way"] (spHanded false) := ⟨_, fd__law_handed, G_ok_handed1.le (by omega), g__law_handed, F__law_handed.kp, F__law_handed.bindsN fun _ _ _ _ _ _ us hl => match us, hl with | [_, _], _ => rfl⟩
  have G_ok_handed2 : Fg P w K mg base CX0 3 _ fd__law_handed ["_law_step_here", "_law_way"] (spHanded true) := ok_handed2 (F := F__law_handed) (T := T) (C__law_handed := C__law_handed_2_9)
  have G_ok_lruns : Fg P w K mg base CX0 1 _ fd__law_runs ["_law_octets"] (spLRuns K) := ok_lruns (F := F__law_runs) (T := T)
  have G_ok_lrunw : Fg P w K mg base CX0 1 _ fd__law_run_word ["_law_run"] (spRw K) := ok_lrunw (F := F__law_run_word) (T := T)
  have G_ok_lpathw : Fg P w K mg base CX0 1 _ fd__law_path_word ["_law_path_here"] (spPw K) := ok_lpathw (F := F__law_path_word) (T := T)
  have C__law_runs_1_10 : Cal P w K mg base CX0 1 "_law_runs" ["_law_octets"] (spLRuns K) := ⟨_, fd__law_runs, G_ok_lruns.le (by omega), g__law_runs, F__law_runs.kp, F__law_runs.bindsN fun _ _ _ _ _ _ us hl => match us, hl with | [_], _ => rfl⟩
  have C__law_run_word_1_11 : Cal P w K mg base CX0 1 "_law_run_word" ["_law_run"] (spRw K) := ⟨_, fd__law_run_word, G_ok_lrunw.le (by omega), g__law_run_word, F__law_run_word.kp, F__law_run_word.bindsN fun _ _ _ _ _ _ us hl => match us, hl with | [_], _ => rfl⟩
  have C__law_path_word_1_12 : Cal P w K mg base CX0 1 "_law_path_word" ["_law_path_here"] (spPw K) := ⟨_, fd__law_path_word, G_ok_lpathw.le (by omega), g__law_path_word, F__law_path_word.kp, F__law_path_word.bindsN fun _ _ _ _ _ _ us hl => match us, hl with | [_], _ => rfl⟩
  have G_ok_words : Fg P w K mg base CX0 2 _ fd__law_words ["_law_step_here"] (spWords K) := ok_words (F := F__law_words) (T := T) (C__law_runs := C__law_runs_1_10) (C__law_run_word := C__law_run_word_1_11) (C__law_path_word := C__law_path_word_1_12)
  have C__law_words_2_13 : Cal P w K mg base CX0 2 "_law_words" ["_law_step_here"] (spWords K) := ⟨_, fd__law_words, G_ok_words.le (by omega), g__law_words, F__law_words.kp, F__law_words.bindsN fun _ _ _ _ _ _ us hl => match us, hl with | [_], _ => rfl⟩
  have G_ok_lline : Fg P w K mg base CX0 3 _ fd__law_line ["_law_step_here"] (spLLine K) := ok_lline (F := F__law_line) (T := T) (C__law_words := C__law_words_2_13)
  have G_ok_worded : Fg P w K mg base CX0 1 _ fd__is_worded ["value"] spWorded := ok_worded (F := F__is_worded) (T := T)
  have G_ok_name : Fg P w K mg base CX0 1 _ fd_is_name ["value"] (spName K) := ok_name (F := F_is_name) (T := T)
  have C_is_name_1_14 : Cal P w K mg base CX0 1 "is_name" ["value"] (spName K) := ⟨_, fd_is_name, G_ok_name.le (by omega), g_is_name, F_is_name.kp, F_is_name.bindsN fun _ _ _ _ _ _ us hl => match us, hl with | [_], _ => rfl⟩
  have G_ok_path : Fg P w K mg base CX0 2 _ fd_is_path ["value"] (spPath K) := ok_path (F := F_is_path) (T := T) (C_is_name := C_is_name_1_14)
  have G_ok_int_from : Fg P w K mg base CX0 2 _ fd_is_int_from ["value", "least", "greatest"] spIntI := ok_int_from (F := F_is_int_from) (T := T)
  have G_ok_is_list : Fg P w K mg base CX0 1 _ fd_is_list ["value"] (spIsList K) := ok_is_list (F := F_is_list) (T := T)
  have C_is_list_1_15 : Cal P w K mg base CX0 1 "is_list" ["value"] (spIsList K) := ⟨_, fd_is_list, G_ok_is_list.le (by omega), g_is_list, F_is_list.kp, F_is_list.bindsN fun _ _ _ _ _ _ us hl => match us, hl with | [_], _ => rfl⟩
  have G_ok_is_octets : Fg P w K mg base CX0 2 _ fd_is_octets ["value"] (spIsOct K) := ok_is_octets (F := F_is_octets) (T := T) (C_is_list := C_is_list_1_15)
  have C_is_path_2_16 : Cal P w K mg base CX0 2 "is_path" ["value"] (spPath K) := ⟨_, fd_is_path, G_ok_path.le (by omega), g_is_path, F_is_path.kp, F_is_path.bindsN fun _ _ _ _ _ _ us hl => match us, hl with | [_], _ => rfl⟩
  have C_is_int_from_2_17 : Cal P w K mg base CX0 2 "is_int_from" ["value", "least", "greatest"] spIntI := ⟨_, fd_is_int_from, G_ok_int_from.le (by omega), g_is_int_from, F_is_int_from.kp, F_is_int_from.bindsN fun _ _ _ _ _ _ us hl => match us, hl with | [_, _, _], _ => rfl⟩
  have C_is_octets_2_18 : Cal P w K mg base CX0 2 "is_octets" ["value"] (spIsOct K) := ⟨_, fd_is_octets, G_ok_is_octets.le (by omega), g_is_octets, F_is_octets.kp, F_is_octets.bindsN fun _ _ _ _ _ _ us hl => match us, hl with | [_], _ => rfl⟩
  have G_ok_part : Fg P w K mg base CX0 3 _ fd__is_part ["part", "item"] (spPart K) := ok_part (F := F__is_part) (T := T) (C_is_name := C_is_name_1_14) (C_is_path := C_is_path_2_16) (C_is_int_from := C_is_int_from_2_17) (C_is_octets := C_is_octets_2_18)
  have C__is_part_3_19 : Cal P w K mg base CX0 3 "_is_part" ["part", "item"] (spPart K) := ⟨_, fd__is_part, G_ok_part.le (by omega), g__is_part, F__is_part.kp, F__is_part.bindsN fun _ _ _ _ _ _ us hl => match us, hl with | [_, _], _ => rfl⟩
  have G_ok_single : Fg P w K mg base CX0 4 _ fd__is_single_deed ["value"] (spSingle K) := ok_single (F := F__is_single_deed) (T := T) (TB := TB) (C__is_part := C__is_part_3_19)
  have C__is_worded_1_20 : Cal P w K mg base CX0 1 "_is_worded" ["value"] spWorded := ⟨_, fd__is_worded, G_ok_worded.le (by omega), g__is_worded, F__is_worded.kp, F__is_worded.bindsN fun _ _ _ _ _ _ us hl => match us, hl with | [_], _ => rfl⟩
  have C__is_single_deed_4_21 : Cal P w K mg base CX0 4 "_is_single_deed" ["value"] (spSingle K) := ⟨_, fd__is_single_deed, G_ok_single.le (by omega), g__is_single_deed, F__is_single_deed.kp, F__is_single_deed.bindsN fun _ _ _ _ _ _ us hl => match us, hl with | [_], _ => rfl⟩
  have G_ok_together : Fg P w K mg base CX0 5 _ fd__are_deeds_together ["value"] (spTogether K) := ok_together (F := F__are_deeds_together) (T := T) (C__is_worded := C__is_worded_1_20) (C__is_single_deed := C__is_single_deed_4_21)
  have C__are_deeds_together_5_22 : Cal P w K mg base CX0 5 "_are_deeds_together" ["value"] (spTogether K) := ⟨_, fd__are_deeds_together, G_ok_together.le (by omega), g__are_deeds_together, F__are_deeds_together.kp, F__are_deeds_together.bindsN fun _ _ _ _ _ _ us hl => match us, hl with | [_], _ => rfl⟩
  have G_ok_deed : Fg P w K mg base CX0 6 _ fd_is_deed ["value"] (spDeed K) := ok_deed (F := F_is_deed) (T := T) (C__is_worded := C__is_worded_1_20) (C__are_deeds_together := C__are_deeds_together_5_22) (C__is_single_deed := C__is_single_deed_4_21)
  have C_is_deed_6_23 : Cal P w K mg base CX0 6 "is_deed" ["value"] (spDeed K) := ⟨_, fd_is_deed, G_ok_deed.le (by omega), g_is_deed, F_is_deed.kp, F_is_deed.bindsN fun _ _ _ _ _ _ us hl => match us, hl with | [_], _ => rfl⟩
  have G_ok_step : Fg P w K mg base CX0 7 _ fd__is_step ["value"] (spStep K) := ok_step (F := F__is_step) (T := T) (C_is_deed := C_is_deed_6_23)
  have G_ok_runs : Fg P w K mg base CX0 1 _ fd__runs ["octets"] (spRuns K) := ok_runs (F := F__runs) (T := T)
  have G_ok_runw : Fg P w K mg base CX0 1 _ fd__run_word ["octet", "count"] spRunW := ok_runw (F := F__run_word) (T := T)
  have C__runs_1_24 : Cal P w K mg base CX0 1 "_runs" ["octets"] (spRuns K) := ⟨_, fd__runs, G_ok_runs.le (by omega), g__runs, F__runs.kp, F__runs.bindsN fun _ _ _ _ _ _ us hl => match us, hl with | [_], _ => rfl⟩
  have C__run_word_1_25 : Cal P w K mg base CX0 1 "_run_word" ["octet", "count"] spRunW := ⟨_, fd__run_word, G_ok_runw.le (by omega), g__run_word, F__run_word.kp, F__run_word.bindsN fun _ _ _ _ _ _ us hl => match us, hl with | [_, _], _ => rfl⟩
  have G_ok_word : Fg P w K mg base CX0 2 _ fd__word ["part", "item"] (spWord K) := ok_word (F := F__word) (T := T) (C__runs := C__runs_1_24) (C__run_word := C__run_word_1_25)
  have C__line_2_26 : Cal P w K mg base CX0 2 "_line" ["step"] (fun _ _ _ _ => False) := ⟨_, fd__line, fg_none, g__line, F__line.kp, F__line.bindsN fun _ _ _ _ _ _ us hl => match us, hl with | [_], _ => rfl⟩
  have C__word_2_27 : Cal P w K mg base CX0 2 "_word" ["part", "item"] (spWord K) := ⟨_, fd__word, G_ok_word.le (by omega), g__word, F__word.kp, F__word.bindsN fun _ _ _ _ _ _ us hl => match us, hl with | [_, _], _ => rfl⟩
  have G_ok_line1 : Fg P w K mg base CX0 3 _ fd__line ["step"] (spLine1 K) := ok_line1 (F := F__line) (T := T) (TB := TB) (C__line := C__line_2_26) (C__word := C__word_2_27)
  have C__line_3_28 : Cal P w K mg base CX0 3 "_line" ["step"] (spLine1 K) := ⟨_, fd__line, G_ok_line1.le (by omega), g__line, F__line.kp, F__line.bindsN fun _ _ _ _ _ _ us hl => match us, hl with | [_], _ => rfl⟩
  have G_ok_line : Fg P w K mg base CX0 4 _ fd__line ["step"] (spLine K) := ok_line (F := F__line) (T := T) (TB := TB) (C__line := C__line_3_28) (C__word := C__word_2_27)
  have C__is_step_7_29 : Cal P w K mg base CX0 7 "_is_step" ["value"] (spStep K) := ⟨_, fd__is_step, G_ok_step.le (by omega), g__is_step, F__is_step.kp, F__is_step.bindsN fun _ _ _ _ _ _ us hl => match us, hl with | [_], _ => rfl⟩
  have C__line_4_30 : Cal P w K mg base CX0 4 "_line" ["step"] (spLine K) := ⟨_, fd__line, G_ok_line.le (by omega), g__line, F__line.kp, F__line.bindsN fun _ _ _ _ _ _ us hl => match us, hl with | [_], _ => rfl⟩
  have G_ok_line_of : Fg P w K mg base CX0 8 _ fd_line_of ["step"] (spLine K) := ok_line_of (F := F_line_of) (T := T) (C__is_step := C__is_step_7_29) (C__line := C__line_4_30)
  have C_line_of_8_31 : Cal P w K mg base CX0 8 "line_of" ["step"] (spLine K) := ⟨_, fd_line_of, G_ok_line_of.le (by omega), g_line_of, F_line_of.kp, F_line_of.bindsN fun _ _ _ _ _ _ us hl => match us, hl with | [_], _ => rfl⟩
  have CK_line_of_0_step_8_32 : CalK P w K mg base CX0 8 "line_of" ["step"] 0 ["step"] g1 g1V (spLine K) := ⟨_, fd_line_of, G_ok_line_of.le (by omega), g_line_of, F_line_of.kp, kb_of F_line_of (fun _ r => .cons (vals_getD r 0) (.nil)) fun _ _ _ _ _ _ us ws l1 l2 => match us, ws, l1, l2 with | [], [_], _, _ => rfl⟩
  have G_ok_told : Fg P w K mg base CX0 9 _ fd__law_told ["_law_step_here", "_law_turn"] (spTold K) := ok_told (F := F__law_told) (T := T) (C_line_of := C_line_of_8_31) (CK_line_of_0_step := CK_line_of_0_step_8_32)
  have G_ok_ptb : Fg P w K mg base CX0 1 _ fd__path_told_by ["word"] spPtb := ok_ptb (F := F__path_told_by) (T := T)
  have G_ok_niw : Fg P w K mg base CX0 1 _ fd_number_in_word ["word", "most_digits"] spNiw := ok_niw (F := F_number_in_word) (T := T)
  have C_number_in_word_1_33 : Cal P w K mg base CX0 1 "number_in_word" ["word", "most_digits"] spNiw := ⟨_, fd_number_in_word, G_ok_niw.le (by omega), g_number_in_word, F_number_in_word.kp, F_number_in_word.bindsN fun _ _ _ _ _ _ us hl => match us, hl with | [_, _], _ => rfl⟩
  have G_ok_ntb : Fg P w K mg base CX0 2 _ fd__number_told_by ["word"] spNtb := ok_ntb (F := F__number_told_by) (T := T) (C_number_in_word := C_number_in_word_1_33)
  have C__number_told_by_2_34 : Cal P w K mg base CX0 2 "_number_told_by" ["word"] spNtb := ⟨_, fd__number_told_by, G_ok_ntb.le (by omega), g__number_told_by, F__number_told_by.kp, F__number_told_by.bindsN fun _ _ _ _ _ _ us hl => match us, hl with | [_], _ => rfl⟩
  have G_ok_otb : Fg P w K mg base CX0 3 _ fd__octets_told_by ["word"] spOtb := ok_otb (F := F__octets_told_by) (T := T) (C__number_told_by := C__number_told_by_2_34)
  have C__path_told_by_1_35 : Cal P w K mg base CX0 1 "_path_told_by" ["word"] spPtb := ⟨_, fd__path_told_by, G_ok_ptb.le (by omega), g__path_told_by, F__path_told_by.kp, F__path_told_by.bindsN fun _ _ _ _ _ _ us hl => match us, hl with | [_], _ => rfl⟩
  have C__octets_told_by_3_36 : Cal P w K mg base CX0 3 "_octets_told_by" ["word"] spOtb := ⟨_, fd__octets_told_by, G_ok_otb.le (by omega), g__octets_told_by, F__octets_told_by.kp, F__octets_told_by.bindsN fun _ _ _ _ _ _ us hl => match us, hl with | [_], _ => rfl⟩
  have G_ok_itb : Fg P w K mg base CX0 4 _ fd__item_told_by ["part", "word"] spItb := ok_itb (F := F__item_told_by) (T := T) (C__path_told_by := C__path_told_by_1_35) (C__number_told_by := C__number_told_by_2_34) (C__octets_told_by := C__octets_told_by_3_36)
  have C__item_told_by_4_37 : Cal P w K mg base CX0 4 "_item_told_by" ["part", "word"] spItb := ⟨_, fd__item_told_by, G_ok_itb.le (by omega), g__item_told_by, F__item_told_by.kp, F__item_told_by.bindsN fun _ _ _ _ _ _ us hl => match us, hl with | [_, _], _ => rfl⟩
  have G_ok_dtb : Fg P w K mg base CX0 5 _ fd__deed_told_by ["line"] spDtb := ok_dtb (F := F__deed_told_by) (T := T) (TB := TB) (C__item_told_by := C__item_told_by_4_37)
  have C__deed_told_by_5_38 : Cal P w K mg base CX0 5 "_deed_told_by" ["line"] spDtb := ⟨_, fd__deed_told_by, G_ok_dtb.le (by omega), g__deed_told_by, F__deed_told_by.kp, F__deed_told_by.bindsN fun _ _ _ _ _ _ us hl => match us, hl with | [_], _ => rfl⟩
  have G_ok_stb : Fg P w K mg base CX0 6 _ fd__step_told_by ["line"] spStb := ok_stb (F := F__step_told_by) (T := T) (C__deed_told_by := C__deed_told_by_5_38)
  have C__step_told_by_6_39 : Cal P w K mg base CX0 6 "_step_told_by" ["line"] spStb := ⟨_, fd__step_told_by, G_ok_stb.le (by omega), g__step_told_by, F__step_told_by.kp, F__step_told_by.bindsN fun _ _ _ _ _ _ us hl => match us, hl with | [_], _ => rfl⟩
  have G_ok_read : Fg P w K mg base CX0 8 _ fd_read_deed ["line"] (spRead K) := ok_read (F := F_read_deed) (T := T) (C__step_told_by := C__step_told_by_6_39) (C__is_step := C__is_step_7_29) (C__line := C__line_4_30)
  have C_read_deed_8_40 : Cal P w K mg base CX0 8 "read_deed" ["line"] (spRead K) := ⟨_, fd_read_deed, G_ok_read.le (by omega), g_read_deed, F_read_deed.kp, F_read_deed.bindsN fun _ _ _ _ _ _ us hl => match us, hl with | [_], _ => rfl⟩
  have CK_read_deed_0_line_8_41 : CalK P w K mg base CX0 8 "read_deed" ["line"] 0 ["line"] g1 g1V (spRead K) := ⟨_, fd_read_deed, G_ok_read.le (by omega), g_read_deed, F_read_deed.kp, kb_of F_read_deed (fun _ r => .cons (vals_getD r 0) (.nil)) fun _ _ _ _ _ _ us ws l1 l2 => match us, ws, l1, l2 with | [], [_], _, _ => rfl⟩
  have G_ok_back : Fg P w K mg base CX0 9 _ fd__law_back ["_law_line_here", "_law_turn"] (spBack K) := ok_back (F := F__law_back) (T := T) (C_read_deed := C_read_deed_8_40) (CK_read_deed_0_line := CK_read_deed_0_line_8_41)
  have C__law_handed_3_42 : Cal P w K mg base CX0 3 "_law_handed" ["_law_step_here", "_law_way"] (spHanded true) := ⟨_, fd__law_handed, G_ok_handed2.le (by omega), g__law_handed, F__law_handed.kp, F__law_handed.bindsN fun _ _ _ _ _ _ us hl => match us, hl with | [_, _], _ => rfl⟩
  have C__law_line_3_43 : Cal P w K mg base CX0 3 "_law_line" ["_law_step_here"] (spLLine K) := ⟨_, fd__law_line, G_ok_lline.le (by omega), g__law_line, F__law_line.kp, F__law_line.bindsN fun _ _ _ _ _ _ us hl => match us, hl with | [_], _ => rfl⟩
  have C__law_told_9_44 : Cal P w K mg base CX0 9 "_law_told" ["_law_step_here", "_law_turn"] (spTold K) := ⟨_, fd__law_told, G_ok_told.le (by omega), g__law_told, F__law_told.kp, F__law_told.bindsN fun _ _ _ _ _ _ us hl => match us, hl with | [_, _], _ => rfl⟩
  have C__law_back_9_45 : Cal P w K mg base CX0 9 "_law_back" ["_law_line_here", "_law_turn"] (spBack K) := ⟨_, fd__law_back, G_ok_back.le (by omega), g__law_back, F__law_back.kp, F__law_back.bindsN fun _ _ _ _ _ _ us hl => match us, hl with | [_, _], _ => rfl⟩
  have G_ok_asked : Fg P w K mg base CX0 10 _ fd__law_asked_right ["_law_box_here", "_law_steps"] spAsked := ok_asked (F := F__law_asked_right) (T := T) (C__law_take := C__law_take_1_0) (C__law_handed := C__law_handed_3_42) (C__law_line := C__law_line_3_43) (C__law_told := C__law_told_9_44) (C__law_back := C__law_back_9_45)
  have G_ok_chg : Fg P w K mg base CX0 10 _ fd__law_changed_right ["_law_box_here", "_law_step_here"] spChg := ok_chg (F := F__law_changed_right) (T := T) (C__law_take := C__law_take_1_0) (C__law_octet := C__law_octet_2_2) (C__law_line := C__law_line_3_43) (C__law_told := C__law_told_9_44)
  have C__law_step_5_46 : Cal P w K mg base CX0 5 "_law_step" ["_law_box_here"] spStepL := ⟨_, fd__law_step, G_ok_lstep.le (by omega), g__law_step, F__law_step.kp, F__law_step.bindsN fun _ _ _ _ _ _ us hl => match us, hl with | [_], _ => rfl⟩
  have C__law_near_3_47 : Cal P w K mg base CX0 3 "_law_near" ["_law_box_here", "_law_step_here"] (spNear true) := ⟨_, fd__law_near, G_ok_near2.le (by omega), g__law_near, F__law_near.kp, F__law_near.bindsN fun _ _ _ _ _ _ us hl => match us, hl with | [_, _], _ => rfl⟩
  have C__law_asked_right_10_48 : Cal P w K mg base CX0 10 "_law_asked_right" ["_law_box_here", "_law_steps"] spAsked := ⟨_, fd__law_asked_right, G_ok_asked.le (by omega), g__law_asked_right, F__law_asked_right.kp, F__law_asked_right.bindsN fun _ _ _ _ _ _ us hl => match us, hl with | [_, _], _ => rfl⟩
  have C__law_changed_right_10_49 : Cal P w K mg base CX0 10 "_law_changed_right" ["_law_box_here", "_law_step_here"] spChg := ⟨_, fd__law_changed_right, G_ok_chg.le (by omega), g__law_changed_right, F__law_changed_right.kp, F__law_changed_right.bindsN fun _ _ _ _ _ _ us hl => match us, hl with | [_, _], _ => rfl⟩
  have G_ok_right : Fg P w K mg base CX0 11 _ fd__law_right ["_law_box_here"] spRight := ok_right (F := F__law_right) (T := T) (C__law_take := C__law_take_1_0) (C__law_path := C__law_path_3_3) (C__law_run_octets := C__law_run_octets_3_4) (C__law_step := C__law_step_5_46) (C__law_near := C__law_near_3_47) (C__law_asked_right := C__law_asked_right_10_48) (C__law_changed_right := C__law_changed_right_10_49) (C_line_of := C_line_of_8_31)
  have G_ok_box : Fg P w K mg base CX0 1 _ fd__law_box ["_law_great"] spBox := ok_box (F := F__law_box) (T := T)
  have G_ok_cell : Fg P w K mg base CX0 1 _ fd__law_cell ["_law_script", "_law_k"] (spCell K) := ok_cell (F := F__law_cell) (T := T)
  have C__law_right_11_50 : Cal P w K mg base CX0 11 "_law_right" ["_law_box_here"] spRight := ⟨_, fd__law_right, G_ok_right.le (by omega), g__law_right, F__law_right.kp, F__law_right.bindsN fun _ _ _ _ _ _ us hl => match us, hl with | [_], _ => rfl⟩
  have C__law_box_1_51 : Cal P w K mg base CX0 1 "_law_box" ["_law_great"] spBox := ⟨_, fd__law_box, G_ok_box.le (by omega), g__law_box, F__law_box.kp, F__law_box.bindsN fun _ _ _ _ _ _ us hl => match us, hl with | [_], _ => rfl⟩
  have C__law_cell_1_52 : Cal P w K mg base CX0 1 "_law_cell" ["_law_script", "_law_k"] (spCell K) := ⟨_, fd__law_cell, G_ok_cell.le (by omega), g__law_cell, F__law_cell.kp, F__law_cell.bindsN fun _ _ _ _ _ _ us hl => match us, hl with | [_, _], _ => rfl⟩
  exact ok_law (F := F_law) (T := T) (C__law_right := C__law_right_11_50) (C__law_box := C__law_box_1_51) (C__law_cell := C__law_cell_1_52)
end K19
open PySem PySem.W PySem.Calls PyProof.Rows
theorem PySem.Challenge.cw_onewaybits_k19_lines_there_and_back_holds : PySem.Challenge.rw_onewaybits_k19_lines_there_and_back.Holds := by
  w_on; o_law
  refine HandSHeadRun.head_any (r := OpenLaw.row PySem.Challenge.rw_onewaybits_k19_lines_there_and_back) (q := view (OpenLaw.row PySem.Challenge.rw_onewaybits_k19_lines_there_and_back).prog [64]) (H := K19.hk) (ob := K19.ob) (M := 30000) (loose := K19.lns) (d := HandSHeadRun.topDef (OpenLaw.row PySem.Challenge.rw_onewaybits_k19_lines_there_and_back).prog 64) (kwd := []) K19.ob_eq
    (by kernel_rfl) (fun s => by kernel_rfl) K19.run (by kernel_rfl) (by kernel_rfl) (by kernel_rfl) (by rfl) (by first | assumption | decide +kernel) (by decide +kernel) ⟨rfl, rfl, rfl, rfl, rfl, by decide +kernel⟩ ?hw ?hc
  case hw => exact K19.yw
  case hc =>
    refine VB.law_walkD (l := PySem.Challenge.rw_onewaybits_k19_lines_there_and_back) (n := 63) (k := 12) (x := "_law_script") (CX := L2.CX0) rfl (by decide) (by kernel_rfl) ⟨⟨rfl, by decide, by decide⟩, rfl⟩ ?F (fun _ _ _ _ z => z)
    intro w mg fa h Y G hmg0 _hd
    obtain ⟨K, KX, c⟩ := Y
    have hmg : mg ("law" : PySem.Str) = some (.ref fa) := by
      have e : (HandSHeadRun.topDef (OpenLaw.row PySem.Challenge.rw_onewaybits_k19_lines_there_and_back).prog 64).name = ("law" : PySem.Str) := by kernel_rfl
      rw [← e]
      exact hmg0
    obtain ⟨fd, hb, hF⟩ := K19.facts (P := (PySem.Challenge.rw_onewaybits_k19_lines_there_and_back).prog) (w := w) KX G hmg c
    exact ⟨K, fd, (K19.spLaw K), KX, hb, fun H a ns hl _ hS => ⟨a, ns, rfl, hS, by omega, fun _ _ => rfl⟩, hF⟩
