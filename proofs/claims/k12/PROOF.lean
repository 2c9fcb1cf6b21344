import PyProof.Rows.All
import Wide.All
import OpenK.AllK
import Wide.FinOn
import HandS.Head0
import HandS.Head1
import HandS.Head2
import HandS.HeadEnd
import HandS.HeadHook1
import HandS.HeadHook2
import HandS.HeadHook3
import HandS.HeadHook4
import HandS.ExcField
import HandS.Call
import HandS.Words
import HandS.ForMost
import HandS.Evl
import HandS.IsInst
import HandS.Walk
import HandS.Conv
import HandS.TupMul
import HandS.WideBits
import HandS.Wide
import HandS.Defaults
import HandS.RaiseMore
import HandS.Zip
import HandS.Style
import HandS.SetFor
import HandS.Text
import PyProof.ReprText
import PyProof.Rows.StrJoinMade
import KE.KxField
import HandS.FStr
import HandS.Zip0
import KE.BitLaws
import HandS.Exc
import HandS.ExcOwn
import HandS.ExcInit
import HandS.TryMany
import HandS.Small
import HandS.TupAny
import HandS.RevRange
import PyProof.CallFns
import HandS.TryOnly
import HandS.MakeKwOnly
import PyProof.AutoSeq1
import PyProof.Rows.StrOr
import PyProof.ReprNest
import PyProof.ReprRoads
import PyProof.ReprDict
import PyProof.InstEq
import HandS.ExcIs
import KE.KExcIs
import HandS.Deep
import HandS.ExcCtx
import HandS.ExcValue
import PyProof.InstNe
import PyProof.EqKinds
import OpenK.KWalk
import HandS.Steps
import KE.KxText
import HandS.HotCalls
import HandS.SuiteRaise
import KE.KTryMore
import HandS.MakeKw
import PySem.Challenge.RW_onewaybits_k12_octets_read_as_records
set_option Elab.async false
set_option linter.all false
set_option maxRecDepth 100000
set_option maxHeartbeats 4000000
/-! what the head's run is looked at by, over a written list of addresses (no search: memory) -/
namespace VB
open PySem PySem.W PyProof.Rows
def obL (as : List Addr) (fa : List He.Fa) (fn : List He.DefD) (ts : List He.Tab) (ex : Frag → Bool) (g : Addr → Option Obj) : He.AlX :=
  let K := He.frT g as
  (He.obsT fa fn ts K, ex K)
theorem obL_says {as : List Addr} {fa : List He.Fa} {fn : List He.DefD} {ts : List He.Tab} {ex : Frag → Bool} {w : World} {h : Heap} (e : obL as fa fn ts ex h.get? = He.valX fn ts w) : He.SaysX fa fn ts [] ex w h (He.frT h.get? as) where
  t := congrArg Prod.fst e
  more := congrArg Prod.snd e
  hd := fun _ z => nomatch z
  out := fun _ z => nomatch z
  empty := fun _ z => nomatch z
def hookL (as : List Addr) (fa : List He.Fa) (fn : List He.DefD) (ts : List He.Tab) (ex : Frag → Bool) : Hook where
  α := He.AlX
  obs := fun s => obL as fa fn ts ex s.heap.get?
  val := He.valX fn ts
  says := fun w h => ∃ K : Frag, K.In h ∧ He.SaysX fa fn ts [] ex w h K
  of := fun _ _ e => ⟨He.frT _ as, He.frT_in, obL_says e⟩
  keeps := by
    rintro w h h' ⟨K, i, c⟩ k
    exact ⟨K, Frag.In.keeps i k, ⟨c.t, c.more, fun _ z => (by cases z), fun _ z => (by cases z), fun _ z => (by cases z)⟩⟩
theorem obL_eq {as : List Addr} {fa : List He.Fa} {fn : List He.DefD} {ts : List He.Tab} {ex : Frag → Bool} (s : SharedT) : obL as fa fn ts ex (HandSHeadRun.getT s) = (hookL as fa fn ts ex).obs s.abs := by
  have e : HandSHeadRun.getT s = s.abs.heap.get? := funext (HandSHeadRun.getT_eq s)
  rw [e]
  rfl
end VB
/-! what the head's run looks at -/
namespace VB
end VB
namespace K12
open PySem PySem.Spec PyProof.Rows L2 VB
def top (i : Nat) : Stmt := PySem.Challenge.pw_onewaybits_k12_octets_read_as_records.main.body.getD i (.Pass ⟨0, 0, 0, 0⟩)
def mtop (i j : Nat) : Stmt := match top i with | .ClassDef _ _ _ b _ _ _ _ _ _ _ => b.getD j (.Pass ⟨0, 0, 0, 0⟩) | _ => .Pass ⟨0, 0, 0, 0⟩
abbrev s_Head____init__ : Stmt := mtop 42 0
abbrev s_Head____eq__ : Stmt := mtop 42 1
abbrev s_Seal____init__ : Stmt := mtop 43 0
abbrev s_Seal____eq__ : Stmt := mtop 43 1
abbrev s_Node____init__ : Stmt := mtop 44 0
abbrev s_Node____eq__ : Stmt := mtop 44 1
abbrev s_Node__key : Stmt := mtop 44 2
abbrev s_Node__fact : Stmt := mtop 44 3
abbrev s_Name____init__ : Stmt := mtop 45 0
abbrev s_Name____eq__ : Stmt := mtop 45 1
abbrev s_Name__key : Stmt := mtop 45 2
abbrev s_Name__fact : Stmt := mtop 45 3
abbrev s_Chunk____init__ : Stmt := mtop 46 0
abbrev s_Chunk____eq__ : Stmt := mtop 46 1
abbrev s_Chunk__key : Stmt := mtop 46 2
abbrev s_Chunk__fact : Stmt := mtop 46 3
abbrev s_Keep____init__ : Stmt := mtop 47 0
abbrev s_Keep____eq__ : Stmt := mtop 47 1
abbrev s_Keep__key : Stmt := mtop 47 2
abbrev s_Keep__fact : Stmt := mtop 47 3
abbrev s__wall : Stmt := top 0
abbrev s_chunk_count : Stmt := top 17
abbrev s_is_int_from : Stmt := top 23
abbrev s_is_list : Stmt := top 24
abbrev s_is_octets : Stmt := top 25
abbrev s_is_octets_of : Stmt := top 26
abbrev s_is_name : Stmt := top 27
abbrev s_number_told_by : Stmt := top 29
abbrev s_octets_telling : Stmt := top 30
abbrev s_is_tree_record : Stmt := top 48
abbrev s_record_of : Stmt := top 49
abbrev s_moved : Stmt := top 50
abbrev s_written : Stmt := top 51
abbrev s_read_record : Stmt := top 52
abbrev s_record_told_by : Stmt := top 53
abbrev s__check_number : Stmt := top 54
abbrev s__check_flag : Stmt := top 55
abbrev s__check_name : Stmt := top 56
abbrev s__check_stamp : Stmt := top 57
abbrev s__check_until : Stmt := top 58
abbrev s__head_parts : Stmt := top 59
abbrev s__parts : Stmt := top 60
abbrev s__filled : Stmt := top 61
abbrev s__octets_of_fact : Stmt := top 62
abbrev s__octets_of_name : Stmt := top 63
abbrev s__seeming_record : Stmt := top 64
abbrev s__seeming_fact : Stmt := top 65
abbrev s__seeming_name : Stmt := top 66
abbrev s__seeming_letter : Stmt := top 67
abbrev s__law_cell : Stmt := top 69
abbrev s__law_box : Stmt := top 70
abbrev s__law_take : Stmt := top 71
abbrev s__law_number : Stmt := top 72
abbrev s__law_octet : Stmt := top 73
abbrev s__law_letters : Stmt := top 74
abbrev s__law_until : Stmt := top 75
abbrev s__law_drawn : Stmt := top 76
abbrev s__law_made : Stmt := top 77
abbrev s__law_told : Stmt := top 78
abbrev s__law_digits : Stmt := top 79
abbrev s__law_octets : Stmt := top 80
abbrev s__law_value : Stmt := top 81
abbrev s__law_good : Stmt := top 82
abbrev s__law_word : Stmt := top 83
abbrev s__law_read : Stmt := top 84
abbrev s__law_field : Stmt := top 85
abbrev s__law_spoilt : Stmt := top 86
abbrev s__law_read_right : Stmt := top 87
abbrev s__law_moved_right : Stmt := top 88
abbrev s__law_right : Stmt := top 89
abbrev s_law : Stmt := top 90
abbrev s_InvalidOctets____init__ : Stmt := mtop 3 0
abbrev s_InvalidNumber____init__ : Stmt := mtop 4 0
abbrev s_InvalidData____init__ : Stmt := mtop 5 0
abbrev s_InvalidRecord____init__ : Stmt := mtop 6 0
abbrev s_InvalidName____init__ : Stmt := mtop 7 0
def insR (K : PySem.W.Frag) (C : Addr) : Bool := decide (PySem.W.findIn K (.ref C) "__class__" = some (some (.builtin "object.__class__"))) && (decide (PySem.W.specialIn K (.builtin "object.__class__") "__get__" = some (some (.builtin "getset_descriptor.__get__"))) && (decide (PySem.W.takesIn K (.builtin "object.__class__") = some true) &&
  (decide (PySem.W.mroIn K C (.type "object") = some true) && decide (PySem.W.kitOne K (.ref C) (.ref C) = some true))))
abbrev tysR : List Value := [.type "NoneType", .type "bool", .type "int", .type "str", .type "list", .type "tuple"]
abbrev clR : List Str := ["Head", "Seal", "Node", "Name", "Chunk", "Keep"]
abbrev KlR (K : PySem.W.Frag) (i : Nat) : Addr := He.ga K (clR.getD i "")
abbrev tbR0 (K : PySem.W.Frag) : List Value := tysR ++ (List.range 6).map fun i => .ref (KlR K i)
def rkR (K : PySem.W.Frag) : Bool := (List.range 6).all fun i => insR K (KlR K i) && (((List.range 6).all fun j => decide (PySem.W.kitOne K (.ref (KlR K i)) (.ref (KlR K j)) = some (decide (i = j)))) && ((tysR.all fun t => decide (PySem.W.kitOne K t (.ref (KlR K i)) = some false)) &&
  (decide (PySem.W.findIn K (.ref (KlR K i)) "__ne__" = some (some (.builtin "object.__ne__"))) && (decide (PySem.W.subIn K (.ref (KlR K i)) (.type "object") = some true) && ((tysR.all fun t => decide (PySem.W.subIn K (.ref (KlR K i)) t = some false)) && (tbR0 K).all fun t => PySem.W.notFirst K (KlR K i) t)))))
abbrev fkT : He.Tab := (fun K => He.ga K "FACT_KINDS", ["node", "name", "chunk", "keep"])
abbrev fkV : List (Str × He.Dv) := [("node", .int 4), ("name", .int 5), ("chunk", .int 6), ("keep", .int 7)]
def oexR (K : PySem.W.Frag) (C : Addr) : Bool := match K.lookup C with
  | some ⟨.type "type", _, .cls cd, sl⟩ => (match cd.mro, sl.toList with
    | .ref C' :: bm, [_, _, _, _, some (.builtin n), _] => decide (C' = C) && (decide (n = "ValueError.__new__") && (!cd.hasDel && (cd.hasDict && PySem.HandSPX.refsVE bm)))
    | _, _ => false)
  | _ => false
def errR (K : PySem.W.Frag) (x g : Str) : Bool := oexR K (He.ga K x) && (decide (PySem.W.findIn K (.ref (He.ga K x)) "__setattr__" = some (some (.builtin "object.__setattr__"))) && (decide (PySem.W.subIn K (.ref (He.ga K x)) (.type "BaseException") = some true) && (decide (PySem.W.typeIn K (.ref (He.ga K x)) = some (.type "type")) && (PySem.W.keepIn K (.ref (He.ga K x)) &&
  (decide (PySem.W.findIn K (.ref (He.ga K x)) "__init__" = some (some (.ref (He.ma K (He.ga K x) "__init__")))) && (decide (PySem.W.typeIn K (.ref (He.ma K (He.ga K x) "__init__")) = some (.type "function")) && (decide (PySem.W.findIn K (.ref (He.ga K x)) g = some none) && (xfB K (He.ga K x) && decide (PySem.W.exmOne K (.ref (He.ga K x)) (.ref (He.ga K x)) = some true)))))))))
end K12
namespace K12
open PySem PySem.Spec PyProof.Rows L2 VB
def d__law_take : He.DefD := ⟨("_law_take", none), "_law_take", "_law_take", defArgs s__law_take, defBody s__law_take, defScope s__law_take, [], []⟩
def d__law_number : He.DefD := ⟨("_law_number", none), "_law_number", "_law_number", defArgs s__law_number, defBody s__law_number, defScope s__law_number, [], []⟩
def d__law_until : He.DefD := ⟨("_law_until", none), "_law_until", "_law_until", defArgs s__law_until, defBody s__law_until, defScope s__law_until, [], []⟩
def d__law_letters : He.DefD := ⟨("_law_letters", none), "_law_letters", "_law_letters", defArgs s__law_letters, defBody s__law_letters, defScope s__law_letters, [], []⟩
def d__law_octet : He.DefD := ⟨("_law_octet", none), "_law_octet", "_law_octet", defArgs s__law_octet, defBody s__law_octet, defScope s__law_octet, [], []⟩
def d__law_drawn : He.DefD := ⟨("_law_drawn", none), "_law_drawn", "_law_drawn", defArgs s__law_drawn, defBody s__law_drawn, defScope s__law_drawn, [], []⟩
def d_is_int_from : He.DefD := ⟨("is_int_from", none), "is_int_from", "is_int_from", defArgs s_is_int_from, defBody s_is_int_from, defScope s_is_int_from, [], []⟩
def d__check_number : He.DefD := ⟨("_check_number", none), "_check_number", "_check_number", defArgs s__check_number, defBody s__check_number, defScope s__check_number, [], []⟩
def d__check_flag : He.DefD := ⟨("_check_flag", none), "_check_flag", "_check_flag", defArgs s__check_flag, defBody s__check_flag, defScope s__check_flag, [], []⟩
def d__check_stamp : He.DefD := ⟨("_check_stamp", none), "_check_stamp", "_check_stamp", defArgs s__check_stamp, defBody s__check_stamp, defScope s__check_stamp, [], []⟩
def d__check_until : He.DefD := ⟨("_check_until", none), "_check_until", "_check_until", defArgs s__check_until, defBody s__check_until, defScope s__check_until, [], []⟩
def d_chunk_count : He.DefD := ⟨("chunk_count", none), "chunk_count", "chunk_count", defArgs s_chunk_count, defBody s_chunk_count, defScope s_chunk_count, [], []⟩
def d_is_name : He.DefD := ⟨("is_name", none), "is_name", "is_name", defArgs s_is_name, defBody s_is_name, defScope s_is_name, [], []⟩
def d__check_name : He.DefD := ⟨("_check_name", none), "_check_name", "_check_name", defArgs s__check_name, defBody s__check_name, defScope s__check_name, [], []⟩
def d_is_list : He.DefD := ⟨("is_list", none), "is_list", "is_list", defArgs s_is_list, defBody s_is_list, defScope s_is_list, [], []⟩
def d_is_octets : He.DefD := ⟨("is_octets", none), "is_octets", "is_octets", defArgs s_is_octets, defBody s_is_octets, defScope s_is_octets, [], []⟩
def d_is_octets_of : He.DefD := ⟨("is_octets_of", none), "is_octets_of", "is_octets_of", defArgs s_is_octets_of, defBody s_is_octets_of, defScope s_is_octets_of, [], []⟩
def d__law_made : He.DefD := ⟨("_law_made", none), "_law_made", "_law_made", defArgs s__law_made, defBody s__law_made, defScope s__law_made, [], []⟩
def d__head_parts : He.DefD := ⟨("_head_parts", none), "_head_parts", "_head_parts", defArgs s__head_parts, defBody s__head_parts, defScope s__head_parts, [], []⟩
def d__parts : He.DefD := ⟨("_parts", none), "_parts", "_parts", defArgs s__parts, defBody s__parts, defScope s__parts, [], []⟩
def d_is_tree_record : He.DefD := ⟨("is_tree_record", none), "is_tree_record", "is_tree_record", defArgs s_is_tree_record, defBody s_is_tree_record, defScope s_is_tree_record, [], []⟩
def d_record_of : He.DefD := ⟨("record_of", none), "record_of", "record_of", defArgs s_record_of, defBody s_record_of, defScope s_record_of, [.int 0], []⟩
def d_moved : He.DefD := ⟨("moved", none), "moved", "moved", defArgs s_moved, defBody s_moved, defScope s_moved, [], []⟩
def d__law_told : He.DefD := ⟨("_law_told", none), "_law_told", "_law_told", defArgs s__law_told, defBody s__law_told, defScope s__law_told, [], []⟩
def d_octets_telling : He.DefD := ⟨("octets_telling", none), "octets_telling", "octets_telling", defArgs s_octets_telling, defBody s_octets_telling, defScope s_octets_telling, [], []⟩
def d__filled : He.DefD := ⟨("_filled", none), "_filled", "_filled", defArgs s__filled, defBody s__filled, defScope s__filled, [], []⟩
def d__octets_of_name : He.DefD := ⟨("_octets_of_name", none), "_octets_of_name", "_octets_of_name", defArgs s__octets_of_name, defBody s__octets_of_name, defScope s__octets_of_name, [], []⟩
def d__octets_of_fact : He.DefD := ⟨("_octets_of_fact", none), "_octets_of_fact", "_octets_of_fact", defArgs s__octets_of_fact, defBody s__octets_of_fact, defScope s__octets_of_fact, [], []⟩
def d_written : He.DefD := ⟨("written", none), "written", "written", defArgs s_written, defBody s_written, defScope s_written, [], []⟩
def d__law_digits : He.DefD := ⟨("_law_digits", none), "_law_digits", "_law_digits", defArgs s__law_digits, defBody s__law_digits, defScope s__law_digits, [], []⟩
def d__law_octets : He.DefD := ⟨("_law_octets", none), "_law_octets", "_law_octets", defArgs s__law_octets, defBody s__law_octets, defScope s__law_octets, [], []⟩
def d__law_moved_right : He.DefD := ⟨("_law_moved_right", none), "_law_moved_right", "_law_moved_right", defArgs s__law_moved_right, defBody s__law_moved_right, defScope s__law_moved_right, [], []⟩
def d__law_value : He.DefD := ⟨("_law_value", none), "_law_value", "_law_value", defArgs s__law_value, defBody s__law_value, defScope s__law_value, [], []⟩
def d__law_word : He.DefD := ⟨("_law_word", none), "_law_word", "_law_word", defArgs s__law_word, defBody s__law_word, defScope s__law_word, [], []⟩
def d__law_good : He.DefD := ⟨("_law_good", none), "_law_good", "_law_good", defArgs s__law_good, defBody s__law_good, defScope s__law_good, [], []⟩
def d__law_read : He.DefD := ⟨("_law_read", none), "_law_read", "_law_read", defArgs s__law_read, defBody s__law_read, defScope s__law_read, [], []⟩
def d_number_told_by : He.DefD := ⟨("number_told_by", none), "number_told_by", "number_told_by", defArgs s_number_told_by, defBody s_number_told_by, defScope s_number_told_by, [], []⟩
def d__seeming_letter : He.DefD := ⟨("_seeming_letter", none), "_seeming_letter", "_seeming_letter", defArgs s__seeming_letter, defBody s__seeming_letter, defScope s__seeming_letter, [], []⟩
def d__seeming_name : He.DefD := ⟨("_seeming_name", none), "_seeming_name", "_seeming_name", defArgs s__seeming_name, defBody s__seeming_name, defScope s__seeming_name, [], []⟩
def d__seeming_fact : He.DefD := ⟨("_seeming_fact", none), "_seeming_fact", "_seeming_fact", defArgs s__seeming_fact, defBody s__seeming_fact, defScope s__seeming_fact, [], []⟩
def d__seeming_record : He.DefD := ⟨("_seeming_record", none), "_seeming_record", "_seeming_record", defArgs s__seeming_record, defBody s__seeming_record, defScope s__seeming_record, [], []⟩
def d_record_told_by : He.DefD := ⟨("record_told_by", none), "record_told_by", "record_told_by", defArgs s_record_told_by, defBody s_record_told_by, defScope s_record_told_by, [], []⟩
def d_read_record : He.DefD := ⟨("read_record", none), "read_record", "read_record", defArgs s_read_record, defBody s_read_record, defScope s_read_record, [], []⟩
def d__law_read_right : He.DefD := ⟨("_law_read_right", none), "_law_read_right", "_law_read_right", defArgs s__law_read_right, defBody s__law_read_right, defScope s__law_read_right, [], []⟩
def d__law_field : He.DefD := ⟨("_law_field", none), "_law_field", "_law_field", defArgs s__law_field, defBody s__law_field, defScope s__law_field, [], []⟩
def d__law_spoilt : He.DefD := ⟨("_law_spoilt", none), "_law_spoilt", "_law_spoilt", defArgs s__law_spoilt, defBody s__law_spoilt, defScope s__law_spoilt, [], []⟩
def d__law_right : He.DefD := ⟨("_law_right", none), "_law_right", "_law_right", defArgs s__law_right, defBody s__law_right, defScope s__law_right, [], []⟩
def d__law_box : He.DefD := ⟨("_law_box", none), "_law_box", "_law_box", defArgs s__law_box, defBody s__law_box, defScope s__law_box, [], []⟩
def d__law_cell : He.DefD := ⟨("_law_cell", none), "_law_cell", "_law_cell", defArgs s__law_cell, defBody s__law_cell, defScope s__law_cell, [], []⟩
def d_law : He.DefD := ⟨("law", none), "law", "law", defArgs s_law, defBody s_law, defScope s_law, [], []⟩
def d_Head____init__ : He.DefD := ⟨("Head", some "__init__"), "__init__", "Head.__init__", defArgs s_Head____init__, defBody s_Head____init__, defScope s_Head____init__, [], []⟩
def d_Seal____init__ : He.DefD := ⟨("Seal", some "__init__"), "__init__", "Seal.__init__", defArgs s_Seal____init__, defBody s_Seal____init__, defScope s_Seal____init__, [], []⟩
def d_Node____init__ : He.DefD := ⟨("Node", some "__init__"), "__init__", "Node.__init__", defArgs s_Node____init__, defBody s_Node____init__, defScope s_Node____init__, [.int 0], []⟩
def d_Name____init__ : He.DefD := ⟨("Name", some "__init__"), "__init__", "Name.__init__", defArgs s_Name____init__, defBody s_Name____init__, defScope s_Name____init__, [.int 0], []⟩
def d_Chunk____init__ : He.DefD := ⟨("Chunk", some "__init__"), "__init__", "Chunk.__init__", defArgs s_Chunk____init__, defBody s_Chunk____init__, defScope s_Chunk____init__, [.int 0], []⟩
def d_Keep____init__ : He.DefD := ⟨("Keep", some "__init__"), "__init__", "Keep.__init__", defArgs s_Keep____init__, defBody s_Keep____init__, defScope s_Keep____init__, [.int 0], []⟩
def d_Head____eq__ : He.DefD := ⟨("Head", some "__eq__"), "__eq__", "Head.__eq__", defArgs s_Head____eq__, defBody s_Head____eq__, defScope s_Head____eq__, [], []⟩
def d_Seal____eq__ : He.DefD := ⟨("Seal", some "__eq__"), "__eq__", "Seal.__eq__", defArgs s_Seal____eq__, defBody s_Seal____eq__, defScope s_Seal____eq__, [], []⟩
def d_Node__fact : He.DefD := ⟨("Node", some "fact"), "fact", "Node.fact", defArgs s_Node__fact, defBody s_Node__fact, defScope s_Node__fact, [], []⟩
def d_Name__fact : He.DefD := ⟨("Name", some "fact"), "fact", "Name.fact", defArgs s_Name__fact, defBody s_Name__fact, defScope s_Name__fact, [], []⟩
def d_Chunk__fact : He.DefD := ⟨("Chunk", some "fact"), "fact", "Chunk.fact", defArgs s_Chunk__fact, defBody s_Chunk__fact, defScope s_Chunk__fact, [], []⟩
def d_Keep__fact : He.DefD := ⟨("Keep", some "fact"), "fact", "Keep.fact", defArgs s_Keep__fact, defBody s_Keep__fact, defScope s_Keep__fact, [], []⟩
def d_Node____eq__ : He.DefD := ⟨("Node", some "__eq__"), "__eq__", "Node.__eq__", defArgs s_Node____eq__, defBody s_Node____eq__, defScope s_Node____eq__, [], []⟩
def d_Name____eq__ : He.DefD := ⟨("Name", some "__eq__"), "__eq__", "Name.__eq__", defArgs s_Name____eq__, defBody s_Name____eq__, defScope s_Name____eq__, [], []⟩
def d_Chunk____eq__ : He.DefD := ⟨("Chunk", some "__eq__"), "__eq__", "Chunk.__eq__", defArgs s_Chunk____eq__, defBody s_Chunk____eq__, defScope s_Chunk____eq__, [], []⟩
def d_Keep____eq__ : He.DefD := ⟨("Keep", some "__eq__"), "__eq__", "Keep.__eq__", defArgs s_Keep____eq__, defBody s_Keep____eq__, defScope s_Keep____eq__, [], []⟩
def d_InvalidNumber____init__ : He.DefD := ⟨("InvalidNumber", some "__init__"), "__init__", "InvalidNumber.__init__", defArgs s_InvalidNumber____init__, defBody s_InvalidNumber____init__, defScope s_InvalidNumber____init__, [], []⟩
def d_InvalidName____init__ : He.DefD := ⟨("InvalidName", some "__init__"), "__init__", "InvalidName.__init__", defArgs s_InvalidName____init__, defBody s_InvalidName____init__, defScope s_InvalidName____init__, [], []⟩
def fnl : List He.DefD := [d__law_take, d__law_number, d__law_until, d__law_letters, d__law_octet, d__law_drawn, d_is_int_from, d__check_number, d__check_flag, d__check_stamp, d__check_until, d_chunk_count, d_is_name, d__check_name, d_is_list, d_is_octets, d_is_octets_of, d__law_made, d__head_parts, d__parts, d_is_tree_record, d_record_of, d_moved, d__law_told, d_octets_telling, d__filled, d__octets_of_name, d__octets_of_fact, d_written, d__law_digits, d__law_octets, d__law_moved_right, d__law_value, d__law_word, d__law_good, d__law_read, d_number_told_by, d__seeming_letter, d__seeming_name, d__seeming_fact, d__seeming_record, d_record_told_by, d_read_record, d__law_read_right, d__law_field, d__law_spoilt, d__law_right, d__law_box, d__law_cell, d_law, d_Head____init__, d_Seal____init__, d_Node____init__, d_Name____init__, d_Chunk____init__, d_Keep____init__, d_Head____eq__, d_Seal____eq__, d_Node__fact, d_Name__fact, d_Chunk__fact, d_Keep__fact, d_Node____eq__, d_Name____eq__, d_Chunk____eq__, d_Keep____eq__, d_InvalidNumber____init__, d_InvalidName____init__]
def fal : List He.Fa := [.glo "_law_take", .glo "_law_number", .glo "_law_until", .glo "_law_letters", .glo "_law_octet", .glo "_law_drawn", .glo "is_int_from", .glo "_check_number", .glo "_check_flag", .glo "_check_stamp", .glo "_check_until", .glo "chunk_count", .glo "is_name", .glo "_check_name", .glo "is_list", .glo "is_octets", .glo "is_octets_of", .glo "_law_made", .glo "_head_parts", .glo "_parts", .glo "is_tree_record", .glo "record_of", .glo "moved", .glo "_law_told", .glo "octets_telling", .glo "_filled", .glo "_octets_of_name", .glo "_octets_of_fact", .glo "written", .glo "_law_digits", .glo "_law_octets", .glo "_law_moved_right", .glo "_law_value", .glo "_law_word", .glo "_law_good", .glo "_law_read", .glo "number_told_by", .glo "_seeming_letter", .glo "_seeming_name", .glo "_seeming_fact", .glo "_seeming_record", .glo "record_told_by", .glo "read_record", .glo "_law_read_right", .glo "_law_field", .glo "_law_spoilt", .glo "_law_right", .glo "_law_box", .glo "_law_cell", .glo "law", .free "abs", .free "all", .free "bool", .free "int", .free "isinstance", .free "len", .free "list", .free "max", .free "min", .free "ord", .free "range", .free "repr", .free "reversed", .free "str", .free "sum", .free "tuple", .int "CHUNK_OCTETS" 16, .int "CLEANING_KIND" 2, .glo "Chunk", .int "DATA_OCTETS" 30, .int "DIRECTORY" 2, .glo "FACT_KINDS", .int "FACT_PLACE" 7, .int "FILE" 1, .int "FIRST_LETTER" 97, .int "GONE" 0, .int "HEAD_KIND" 1, .glo "Head", .glo "Keep", .str "LETTERS" "abcdefghijklmnopqrstuvwxyz", .int "MOST_CHUNKS" 6, .int "MOST_ID" 65535, .int "MOST_LETTERS" 8, .int "MOST_MOVED" 14, .int "MOST_NUMBER" 4294967295, .int "MOST_RECORDS" 6, .int "MOST_SIZE" 96, .int "NO_NODE" 0, .glo "Name", .glo "Node", .int "ROOT" 1, .int "SEAL_KIND" 3, .glo "Seal", .int "UNTIL_PLACE" 26, .glo "Head", .cls "Head", .mkr "Head", .noat "Head" "seq", .noat "Head" "tail", .noat "Head" "is_cleaning", .glo "Seal", .cls "Seal", .mkr "Seal", .noat "Seal" "tail", .noat "Seal" "count", .glo "Node", .cls "Node", .mkr "Node", .noat "Node" "deed", .noat "Node" "at", .noat "Node" "of", .noat "Node" "node", .noat "Node" "what", .noat "Node" "size", .noat "Node" "chunks", .noat "Node" "until", .glo "Name", .cls "Name", .mkr "Name", .noat "Name" "deed", .noat "Name" "at", .noat "Name" "of", .noat "Name" "directory", .noat "Name" "name", .noat "Name" "node", .noat "Name" "until", .glo "Chunk", .cls "Chunk", .mkr "Chunk", .noat "Chunk" "deed", .noat "Chunk" "at", .noat "Chunk" "of", .noat "Chunk" "node", .noat "Chunk" "index", .noat "Chunk" "octets", .noat "Chunk" "until", .glo "Keep", .cls "Keep", .mkr "Keep", .noat "Keep" "deed", .noat "Keep" "at", .noat "Keep" "of", .noat "Keep" "name", .noat "Keep" "is_kept", .noat "Keep" "until", .meth "Head" "__eq__", .meth "Seal" "__eq__", .meth "Node" "fact", .meth "Name" "fact", .meth "Chunk" "fact", .meth "Keep" "fact", .meth "Node" "__eq__", .meth "Name" "__eq__", .meth "Chunk" "__eq__", .meth "Keep" "__eq__", .glo "InvalidNumber", .glo "InvalidName"]
abbrev Rw : PySem.W.OpenRow := PySem.W.OpenLaw.row PySem.Challenge.rw_onewaybits_k12_octets_read_as_records
def exB (K : PySem.W.Frag) : Bool := rkR K && (He.valsB K (He.ga K "FACT_KINDS") fkV && (errR K "InvalidNumber" "given" && (errR K "InvalidName" "given" && (decide (PySem.W.exmAny K (.ref (He.ga K "InvalidNumber")) [.ref (He.ga K "InvalidNumber"), .ref (He.ga K "InvalidName")] = some true) && (decide (PySem.W.exmAny K (.ref (He.ga K "InvalidName")) [.ref (He.ga K "InvalidNumber"), .ref (He.ga K "InvalidName")] = some true))))))
def asL : List Nat := [3, 6, 4, 21, 31, 51, 70, 89, 108, 127, 136, 143, 150, 155, 162, 167, 174, 179, 180, 204, 232, 275, 318, 361, 404, 415, 423, 430, 437, 444, 451, 458, 465, 472, 479, 486, 493, 500, 507, 514, 519, 526, 533, 538, 545, 552, 559, 566, 573, 580, 585, 592, 597, 604, 611, 618, 623, 630, 637, 642, 649, 656, 661, 668, 673, 678, 685, 0, 20, 30, 50, 69, 88, 107, 126, 135, 142, 149, 154, 161, 166, 173, 178, 203, 231, 274, 317, 360, 403, 414, 422, 416, 429, 436, 443, 450, 457, 464, 471, 478, 485, 492, 499, 506, 513, 518, 525, 532, 537, 544, 551, 558, 565, 572, 579, 584, 591, 596, 603, 610, 617, 622, 629, 636, 641, 648, 655, 660, 667, 672, 677, 684, 15, 16, 17, 18, 19, 29, 32, 48, 49, 67, 68, 86, 87, 105, 106, 124, 125, 130, 131, 132, 133, 134, 137, 138, 139, 140, 141, 144, 145, 146, 147, 148, 151, 152, 153, 156, 157, 158, 159, 160, 163, 164, 165, 168, 169, 170, 171, 172, 175, 176, 177, 194, 201, 202, 205, 206, 222, 229, 230, 233, 234, 251, 258, 265, 272, 273, 276, 277, 294, 301, 308, 315, 316, 319, 320, 337, 344, 351, 358, 359, 362, 363, 380, 387, 394, 401, 402, 405, 406, 409, 410, 411, 412, 413, 417, 418, 419, 420, 421, 424, 425, 426, 427, 428, 431, 432, 433, 434, 435, 438, 439, 440, 441, 442, 445, 446, 447, 448, 449, 452, 453, 454, 455, 456, 459, 460, 461, 462, 463, 466, 467, 468, 469, 470, 473, 474, 475, 476, 477, 480, 481, 482, 483, 484, 487, 488, 489, 490, 491, 494, 495, 496, 497, 498, 501, 502, 503, 504, 505, 508, 509, 510, 511, 512, 515, 516, 517, 520, 521, 522, 523, 524, 527, 528, 529, 530, 531, 534, 535, 536, 539, 540, 541, 542, 543, 546, 547, 548, 549, 550, 553, 554, 555, 556, 557, 560, 561, 562, 563, 564, 567, 568, 569, 570, 571, 574, 575, 576, 577, 578, 581, 582, 583, 586, 587, 588, 589, 590, 593, 594, 595, 598, 599, 600, 601, 602, 605, 606, 607, 608, 609, 612, 613, 614, 615, 616, 619, 620, 621, 624, 625, 626, 627, 628, 631, 632, 633, 634, 635, 638, 639, 640, 643, 644, 645, 646, 647, 650, 651, 652, 653, 654, 657, 658, 659, 662, 663, 664, 665, 666, 669, 670, 671, 674, 675, 676, 679, 680, 681, 682, 683, 47, 66, 85, 104, 123, 193, 200, 221, 228, 250, 244, 257, 264, 271, 293, 287, 300, 307, 314, 336, 330, 343, 350, 357, 379, 373, 386, 393, 400, 42, 43, 44, 45, 46, 61, 62, 63, 64, 65, 80, 81, 82, 83, 84, 99, 100, 101, 102, 103, 118, 119, 120, 121, 122, 188, 189, 190, 191, 192, 195, 196, 197, 198, 199, 216, 217, 218, 219, 220, 223, 224, 225, 226, 227, 245, 246, 247, 248, 249, 252, 253, 254, 255, 256, 259, 260, 261, 262, 263, 266, 267, 268, 269, 270, 288, 289, 290, 291, 292, 295, 296, 297, 298, 299, 302, 303, 304, 305, 306, 309, 310, 311, 312, 313, 331, 332, 333, 334, 335, 338, 339, 340, 341, 342, 345, 346, 347, 348, 349, 352, 353, 354, 355, 356, 374, 375, 376, 377, 378, 381, 382, 383, 384, 385, 388, 389, 390, 391, 392, 395, 396, 397, 398, 399]
abbrev hk : PySem.W.Hook := VB.hookL asL fal fnl [fkT] exB
def ob (s : PySem.W.SharedT) : He.AlX := VB.obL asL fal fnl [fkT] exB (HandSHeadRun.getT s)
theorem ob_eq (s : PySem.W.SharedT) : ob s = hk.obs s.abs := VB.obL_eq s
def ln0 : List Str := ["_wall", "FlashError", "InvalidOctets", "InvalidNumber", "InvalidData", "InvalidRecord", "InvalidName", "GONE", "FILE", "DIRECTORY", "NO_NODE", "ROOT", "CHUNK_OCTETS", "MOST_CHUNKS", "MOST_SIZE", "chunk_count", "DATA_OCTETS", "MOST_NUMBER", "MOST_LETTERS", "LETTERS", "is_int_from", "is_list", "is_octets", "is_octets_of", "is_name", "number_told_by", "octets_telling", "MOST_RECORDS", "MOST_MOVED", "MOST_ID"]
def ln1 : List Str := ["HEAD_KIND", "CLEANING_KIND", "SEAL_KIND", "FACT_KINDS", "FIRST_LETTER", "FACT_PLACE", "UNTIL_PLACE", "Head", "Seal", "Node", "Name", "Chunk", "Keep", "is_tree_record", "record_of", "moved", "written", "read_record", "record_told_by", "_check_number", "_check_flag", "_check_name", "_check_stamp", "_check_until", "_head_parts", "_parts", "_filled", "_octets_of_fact", "_octets_of_name", "_seeming_record"]
def ln2 : List Str := ["_seeming_fact", "_seeming_name", "_seeming_letter", "_law_cell", "_law_box", "_law_take", "_law_number", "_law_octet", "_law_letters", "_law_until", "_law_drawn", "_law_made", "_law_told", "_law_digits", "_law_octets", "_law_value", "_law_good", "_law_word", "_law_read", "_law_field", "_law_spoilt", "_law_read_right", "_law_moved_right", "_law_right"]
abbrev lns : List Str := ln0 ++ ln1 ++ ln2
end K12
namespace K12
open PySem PySem.W PySem.Calls PyProof.Rows HandSHeadRun
theorem map3 {A B C D : Type} {x : Option A} {f : A → B} {g : A → C} {h : A → D} {a : B} {b : C} {c : D} (h1 : x.map f = some a) (h2 : x.map g = some b) (h3 : x.map h = some c) : x.map (fun s => (f s, g s, h s)) = some (a, b, c) := by
  cases x with
  | none => cases h1
  | some s =>
    show some (f s, g s, h s) = _
    rw [Option.some.inj h1, Option.some.inj h2, Option.some.inj h3]
theorem run0a (w : World) (os : OsState) : (endF (stepQ (denQ tabQ) Rw.prog (w.withFollow "special-get-raises" false)) 30000 Rw.prog (w.withFollow "special-get-raises" false) os).map (fun s => looksF Rw.prog (boot_heap (w.withFollow "special-get-raises" false).params) s.abs) = some true := by kernel_rfl
theorem run0b (w : World) (os : OsState) : (endF (stepQ (denQ tabQ) Rw.prog (w.withFollow "special-get-raises" false)) 30000 Rw.prog (w.withFollow "special-get-raises" false) os).map (fun s => seenQ (PySem.W.view Rw.prog [90]) lns (importedModules Rw.prog.main.body) (fun s => xlAt (PySem.W.view Rw.prog [90]) [] s && recOk Rw.toRowW.records s) s.abs) = some (openGood (PySem.W.view Rw.prog [90]) lns) := by kernel_rfl
theorem run0c (w : World) (os : OsState) : (endF (stepQ (denQ tabQ) Rw.prog (w.withFollow "special-get-raises" false)) 30000 Rw.prog (w.withFollow "special-get-raises" false) os).map ob = some (hk.val (w.withFollow "special-get-raises" false)) := by kernel_rfl
theorem run0 (w : World) : HandSHeadRun.RunEq Rw (PySem.W.view Rw.prog [90]) hk ob 30000 lns (w.withFollow "special-get-raises" false) := fun os => map3 (run0a w os) (run0b w os) (run0c w os)
theorem run1a (w : World) (os : OsState) : (endF (stepQ (denQ tabQ) Rw.prog (w.withFollow "special-get-raises" true)) 30000 Rw.prog (w.withFollow "special-get-raises" true) os).map (fun s => looksF Rw.prog (boot_heap (w.withFollow "special-get-raises" true).params) s.abs) = some true := by kernel_rfl
theorem run1b (w : World) (os : OsState) : (endF (stepQ (denQ tabQ) Rw.prog (w.withFollow "special-get-raises" true)) 30000 Rw.prog (w.withFollow "special-get-raises" true) os).map (fun s => seenQ (PySem.W.view Rw.prog [90]) lns (importedModules Rw.prog.main.body) (fun s => xlAt (PySem.W.view Rw.prog [90]) [] s && recOk Rw.toRowW.records s) s.abs) = some (openGood (PySem.W.view Rw.prog [90]) lns) := by kernel_rfl
theorem run1c (w : World) (os : OsState) : (endF (stepQ (denQ tabQ) Rw.prog (w.withFollow "special-get-raises" true)) 30000 Rw.prog (w.withFollow "special-get-raises" true) os).map ob = some (hk.val (w.withFollow "special-get-raises" true)) := by kernel_rfl
theorem run1 (w : World) : HandSHeadRun.RunEq Rw (PySem.W.view Rw.prog [90]) hk ob 30000 lns (w.withFollow "special-get-raises" true) := fun os => map3 (run1a w os) (run1b w os) (run1c w os)
end K12
namespace K12
open PySem PySem.Spec PyProof.Rows L2 VB
theorem run (w : World) : HandSHeadRun.RunEq Rw (PySem.W.view Rw.prog [90]) hk ob 30000 lns w := PySem.W.byRow2 "special-get-raises" (P := fun w => HandSHeadRun.RunEq Rw (PySem.W.view Rw.prog [90]) hk ob 30000 lns w) run0 run1 w
theorem yw : (PySem.W.OpenLaw.row PySem.Challenge.rw_onewaybits_k12_octets_read_as_records).promised := by w_witness2
end K12
namespace VB
open PySem PySem.Spec PyProof.Rows L2

/-! ## 1. Room, and no display under way -/
structure Rm (k : Nat) (A : Around) : Prop where
  rm : Room k A
  gd : A.guards = some []
theorem Rm.le {j k : Nat} {A : Around} (r : Rm k A) (h : j ≤ k := by omega) : Rm j A := ⟨r.rm.mono h, r.gd⟩
theorem Rm.down {k : Nat} {A : Around} (r : Rm (k + 1) A) (e : Env) : Rm k (A.deeper e) := ⟨r.rm.deeper e, r.gd⟩

section
variable {P : Program} {w : World} {K : PySem.W.Frag} {mg : Str → Option Value} {base : Heap} {CX : CXT} {k : Nat}

/-- a def's promise, kept wherever there is room and no display is under way -/
structure Fg (P : Program) (w : World) (K : PySem.W.Frag) (mg : Str → Option Value) (base : Heap)
    (CX : CXT) (k : Nat) (f : Addr) (fd : FuncData) (ps : List Str) (sp : Sp) : Prop where
  cnt : ∀ vs H Q E, sp vs H Q E → vs.length = ps.length
  go : ∀ (A : Around) (outer : List Env) (s : Shared) (H : Hp) (args : Args) (us : List Value) (vs : List V)
    (Q : VK) (E : XK), Rm k A → Env0 P w K mg base A outer s H → BindsTo s fd args (ps.zip us) →
    Vals vs us → sp vs H Q E → codeAny (model P w) A (.call (.ref f) args) (CR CX outer P w H s Q E) s

theorem Fg.le {j : Nat} {f : Addr} {fd : FuncData} {ps : List Str} {sp : Sp}
    (F : Fg P w K mg base CX j f fd ps sp) (h : j ≤ k) : Fg P w K mg base CX k f fd ps sp :=
  ⟨F.cnt, fun A o s H a us vs Q E r => F.go A o s H a us vs Q E (r.le h)⟩

/-- a def by its body -/
theorem fg_of {x qual : Str} {params : Arguments} {body : List Stmt} {scope : Scope} {dvs : List V}
    {kws : List (Str × V)} {f : Addr} {fd : FuncData} {N ps : List Str} {sp : Sp}
    (F : FunD K x qual params body scope dvs kws f fd) (S : FnScope N ps scope)
    (cnt : ∀ vs H Q E, sp vs H Q E → vs.length = ps.length)
    (hb : ∀ (cdv : Value) (A : Around) (outer : List Env) (s : Shared) (H : Hp) (vs : List V) (Q : VK) (E : XK),
      Rm k (A.deeper (envOfC qual scope s.heap.objs.size f cdv)) → sp vs H Q E →
      ∃ t, PSs (cxOf CX P w K mg base N qual scope f cdv A outer s H E) body t ∧
        t { nx := fun _ H' => Q .non H', rt := Q } (start N vs) H) :
    Fg P w K mg base CX (k + 1) f fd ps sp := by
  obtain ⟨oc, od, dV, kV, doc, pm, an, cdv, ct, osl, rfl, lk, hcd, _, _⟩ := F.ex
  refine ⟨cnt, ?_⟩
  intro A outer s H args us vs Q E hr e0 hbind hv hsp
  have kin : K.In s.heap := e0.mod.kin.keeps (fun b o e => (e0.bs b o e).1)
  have nol : s.heap.NoLimit := e0.mod.nolimit.keeps (fun b o e => (e0.bs b o e).1)
  have hk : ∀ y ∈ ps.zip us, scope.names.lookup y.1 = some .local ∨
      (scope.names.lookup y.1 = some .cell ∧
        ((cellsFrom (s.heap.objs.size + 1) scope.names []).lookup y.1).isSome = true) := by
    rintro ⟨n, v⟩ hy
    cases S.par n (List.of_mem_zip hy).1 with
    | inl q => exact .inl q
    | inr q => exact .inr ⟨q, PySem.W.cellsFrom_some _ _ _ (.inl q)⟩
  refine codeAny_call_function hr.rm.depth (kin _ _ lk) rfl S.co S.gen rfl
    (PySem.W.codeRec_of kin hcd) (hbind _ _ _ _ (wpAny_newFunctionEnv_cells S.kind hk ?_))
  intro env he s1 x
  subst he
  refine ⟨nol.keeps x.toInCall.keep, codeAny_func ?_⟩
  obtain ⟨t, ht, hq⟩ := hb cdv A outer s H vs Q E (hr.down _) hsp
  have I := inv_start (CX := CX) (E := E) S hr.rm.hd e0 (cnt _ _ _ _ hsp) hv x
  refine wpAny_mono (ht.run [] s1 (start N vs) H _ I hq) ?_ (fun e s' hs => hs)
  intro fl s' hs
  cases fl with
  | ret u =>
    obtain ⟨v, σ', H', J, rv, q⟩ := hs
    exact ⟨v, H', J.os, J.bare, J.base, J.hok, rv, q⟩
  | next =>
    obtain ⟨σ', H', J, q⟩ := hs
    exact ⟨.non, H', J.os, J.bare, J.base, J.hok, rfl, q⟩
  | brk => exact (hs.choose_spec.choose_spec.2 : False).elim
  | cont => exact (hs.choose_spec.choose_spec.2 : False).elim

/-! ## 2. Calls by name -/
/-- a def of the module, told by its name -/
structure Cal (P : Program) (w : World) (K : PySem.W.Frag) (mg : Str → Option Value) (base : Heap)
    (CX : CXT) (k : Nat) (x : Str) (ps : List Str) (sp : Sp) : Prop where
  ex : ∃ (f : Addr) (fd : FuncData), Fg P w K mg base CX k f fd ps sp ∧ mg x = some (.ref f) ∧
    PySem.W.keepIn K (.ref f) = true ∧ Binds K fd ps []
/-- .. called with keywords -/
structure CalK (P : Program) (w : World) (K : PySem.W.Frag) (mg : Str → Option Value) (base : Heap)
    (CX : CXT) (k : Nat) (x : Str) (ps : List Str) (n : Nat) (ks : List Str)
    (g : List Value → List Value → List Value) (gV : List V → List V → List V) (sp : Sp) : Prop where
  ex : ∃ (f : Addr) (fd : FuncData), Fg P w K mg base CX k f fd ps sp ∧ mg x = some (.ref f) ∧
    PySem.W.keepIn K (.ref f) = true ∧ KBn K fd ps n ks g gV
end

section
variable {X : Cx} {CX : CXT} {k n : Nat} {ps ks : List Str} {sp : Sp} {E : XK} {x : Str} {p pos : Pos}
  {e : Expr} {es : List Expr} {kws : List Keyword} {t tk : TA}
  {g : List Value → List Value → List Value} {gV : List V → List V → List V}

/-- the end of a call, where the caller stands -/
theorem back {pins : List (Addr × Obj)} {σ : L2.St} {H : Hp} {s s' : Shared} {Q : VK} {E : XK} {r : Result}
    (hx : Passes CX X E) (I : Inv X pins σ H s) (hq : CR CX X.stack X.prog X.w H s Q E r s') :
    match r with
    | .ok (.ret u) => EP X pins σ Q u s'
    | .ok _ => False
    | .error e => X.xe e s' := by
  cases r with
  | error e => exact hx pins σ H s e s' I hq
  | ok fl =>
    cases fl with
    | ret u => exact I.after hq
    | next => exact hq
    | brk => exact hq
    | cont => exact hq

theorem enter {f : Addr} {fd : FuncData} {pins : List (Addr × Obj)} {σ : L2.St} {H : Hp} {s : Shared} {Q : VK}
    {args : Args} {us : List Value} {vs : List V} (F : Fg X.prog X.w X.K X.mg X.base CX k f fd ps sp)
    (hr : Rm k X.A) (hx : Passes CX X E) (I : Inv X pins σ H s) (hb : BindsTo s fd args (ps.zip us))
    (r : Vals vs us) (h : sp vs H Q E) :
    wpAny (model X.prog X.w) X.A (call (.ref f) args.pos args.kw) (EP X pins σ Q) X.xe s := by
  refine wpAny_call (codeAny_mono (F.go X.A X.stack s H args us vs Q E hr I.env0 hb r h) ?_)
  intro r s' hq
  have z := back hx I hq
  cases r with
  | error e => exact z
  | ok fl =>
    cases fl with
    | ret u => exact z
    | next => exact z.elim
    | brk => exact z.elim
    | cont => exact z.elim

theorem pe_cal (C : Cal X.prog X.w X.K X.mg X.base CX k x ps sp) (hr : Rm k X.A) (hx : Passes CX X E)
    (ha : PA X (e :: es) t) (hg : Gl X x := by rfl) (hdb : (x == ("__debug__" : Str)) = false := by decide)
    (he : starEach (e :: es) X.env = (false, eval e X.env) :: starEach es X.env := by rfl)
    (hpl : (backTo pos (starEach es X.env)).any (·.1) = false := by rfl) :
    PE X (.Call (.Name x p) (e :: es) [] pos) (tCall sp [] E t) := by
  obtain ⟨f, fd, F, hm, hk, hb⟩ := C.ex
  constructor
  intro pins s σ H Q I h
  refine wpAny_Call_Name_kw (ld_glob I hg hm ?_ hdb)
  refine PySem.W.callWith_K (h₀ := X.base) I.ok.mod.kin hk (thn (ha.run pos pins s σ H _ I h) ?_) he hpl
  rintro us s1 ⟨vs, H1, I1, r, q⟩
  have q : sp (vs ++ []) H1 Q E := q
  rw [List.append_nil] at q
  have l : (us ++ []).length = ps.length := by
    rw [List.append_nil, ← r.length]
    exact F.cnt _ _ _ _ q
  have b := hb s1 us I1.kIn l
  rw [List.append_nil] at b
  exact ⟨I1.kIn, enter (args := ⟨us, []⟩) F hr hx I1 b r q⟩

theorem pe_cal0 (C : Cal X.prog X.w X.K X.mg X.base CX k x ps sp) (hr : Rm k X.A) (hx : Passes CX X E)
    (hg : Gl X x := by rfl) (hdb : (x == ("__debug__" : Str)) = false := by decide) :
    PE X (.Call (.Name x p) [] [] pos) (tCall sp [] E tNil) := by
  obtain ⟨f, fd, F, hm, hk, hb⟩ := C.ex
  constructor
  intro pins s σ H Q I h
  have q : sp [] H Q E := h
  refine wpAny_Call_Name_kw (ld_glob I hg hm ?_ hdb)
  refine PySem.W.callWith_K0 I.kIn hk ?_
  have b := hb s [] I.kIn (F.cnt _ _ _ _ q)
  exact enter (args := ⟨[], []⟩) F hr hx I b .nil q

/-- f(k = v, ..): no value by position -/
theorem pe_calk (C : CalK X.prog X.w X.K X.mg X.base CX k x ps 0 ks g gV sp) (hr : Rm k X.A) (hx : Passes CX X E)
    (hkw : PK X kws tk) (hg : Gl X x := by rfl)
    (hall : (backToKw pos (keywordEach kws X.env)).all (·.1.isSome) = true := by rfl)
    (hks : (backToKw pos (keywordEach kws X.env)).filterMap (·.1) = ks := by rfl)
    (hdb : (x == ("__debug__" : Str)) = false := by decide)
    (hpl : ((backTo pos (starEach [] X.env)).any (·.1) || (backToKw pos (keywordEach kws X.env)).any (·.1.isNone)) = false := by rfl) :
    PE X (.Call (.Name x p) [] kws pos) (tCallN 0 ks.length sp gV E tNil tk) := by
  obtain ⟨f, fd, F, hm, hk, hb⟩ := C.ex
  constructor
  intro pins s σ H Q I h
  refine wpAny_Call_Name_kw (ld_glob I hg hm ?_ hdb)
  have h : tk σ H fun zs H2 => ([] : List V).length = 0 ∧ zs.length = ks.length ∧ sp (gV [] zs) H2 Q E := h
  refine PySem.W.callWith_KW0 (h₀ := X.base) I.ok.mod.kin hk hall (thn (hkw.run pos pins s σ H _ I h) ?_) hpl
  rintro ws s2 ⟨zs, H2, I2, rz, _, l2, q2⟩
  refine ⟨I2.kIn, ?_⟩
  rw [hks]
  exact enter (args := ⟨[], ks.zip ws⟩) F hr hx I2
    (hb.to s2 [] ws I2.kIn rfl (rz.length.symm.trans l2)) (hb.rel .nil rz) q2
/-- f(e, .., k = v, ..) -/
theorem pe_calpk (C : CalK X.prog X.w X.K X.mg X.base CX k x ps n ks g gV sp) (hr : Rm k X.A) (hx : Passes CX X E)
    (ha : PA X (e :: es) t) (hkw : PK X kws tk) (hg : Gl X x := by rfl)
    (hall : (backToKw pos (keywordEach kws X.env)).all (·.1.isSome) = true := by rfl)
    (hks : (backToKw pos (keywordEach kws X.env)).filterMap (·.1) = ks := by rfl)
    (hdb : (x == ("__debug__" : Str)) = false := by decide)
    (he : starEach (e :: es) X.env = (false, eval e X.env) :: starEach es X.env := by rfl)
    (hpl : ((backTo pos (starEach (e :: es) X.env)).any (·.1) || (backToKw pos (keywordEach kws X.env)).any (·.1.isNone)) = false := by rfl) :
    PE X (.Call (.Name x p) (e :: es) kws pos) (tCallN n ks.length sp gV E t tk) := by
  obtain ⟨f, fd, F, hm, hk, hb⟩ := C.ex
  constructor
  intro pins s σ H Q I h
  refine wpAny_Call_Name_kw (ld_glob I hg hm ?_ hdb)
  refine PySem.W.callWith_KW (h₀ := X.base) I.ok.mod.kin hk hall (thn (ha.run pos pins s σ H _ I h) ?_) hpl he
  rintro us s1 ⟨vs, H1, I1, r, q⟩
  refine thn (hkw.run pos pins s1 σ H1 _ I1 q) ?_
  rintro ws s2 ⟨zs, H2, I2, rz, l1, l2, q2⟩
  refine ⟨I2.kIn, ?_⟩
  rw [hks]
  exact enter (args := ⟨us, ks.zip ws⟩) F hr hx I2
    (hb.to s2 us ws I2.kIn (r.length.symm.trans l1) (rz.length.symm.trans l2)) (hb.rel r rz) q2
end

/-! ## 3. The law's own call -/
theorem first_call {P : Program} {w : World} {K : PySem.W.Frag} {mg mb : Str → Option Value} {CX : CXT} {k : Nat}
    {fa a : Addr} {fd : FuncData} {x : Str} {sp : Sp} {s : Shared} {vs : List Value} {ns : List Int}
    (KX : K.In s.heap) (hns : s.heap.Ns mainGlobals mg) (hb : s.heap.Ns builtinsNs mb)
    (hbb : ∀ x : Str, x ≠ "__name__" → mb x = bootBuiltins x) (hlim : s.heap.NoLimit) (hg : s.gens = #[])
    (ha : s.heap.get? a = some { cls := .type "list", data := .seq vs.toArray }) (hi : IntsAre vs ns)
    (hl : ns.length ≤ sizeLine) (hr : Rm k callerA)
    (F : ∀ base : Heap, K.In base → base.Ns mainGlobals mg → Fg P w K mg base CX k fa fd [x] sp)
    (hbind : ∀ (s : Shared) (u : Value), BindsTo s fd ⟨[u], []⟩ [(x, u)])
    (hsp : ∀ H : Hp, Only H → SqL K H a (ns.map V.int) → sp [.ref a] H (fun v _ => v = .bl true) fun _ _ _ => False)
    (hCX : ∀ H e s', CX [] H s (fun _ _ _ => False) e s' → False) :
    codeAny (model P w) callerA (.call (.ref fa) ⟨[.ref a], []⟩)
      (fun r s' => r = .ok (.ret (.bool true)) ∧ OldK s.heap s'.heap ∧ s'.os = s.os ∧ AllBare s'.gens) s := by
  -- what is tracked at first: the script at most
  let o : Obj := { cls := .type "list", data := .seq vs.toArray }
  have main : ∀ H : Hp, (∀ b, H b = none ∨ (b = a ∧ H b = some (.frz o (.lst (ns.map V.int))) ∧ K.lookup a = none)) →
      SqL K H a (ns.map V.int) → HOk P w H s.heap → codeAny (model P w) callerA (.call (.ref fa) ⟨[.ref a], []⟩)
      (fun r s' => r = .ok (.ret (.bool true)) ∧ OldK s.heap s'.heap ∧ s'.os = s.os ∧ AllBare s'.gens) s := by
    intro H hH hS hok
    have dictFree : ∀ {b : Addr} {ob : Obj} {es : Array DictEntry} {ep : Nat}, s.heap.get? b = some ob →
        ob.data = .dict es ep → H b = none := by
      intro b ob es ep e d
      rcases hH b with q | ⟨rfl, q, _⟩
      · exact q
      · rw [ha] at e
        cases e
        exact nomatch d
    have nsB : ∀ {b : Addr} {m : Str → Option Value}, s.heap.Ns b m → (hidT s.heap H).Ns b m := by
      rintro b m ⟨ob, es, ep, e, d, r⟩
      exact ⟨ob, es, ep, hidT_get e (dictFree e d), d, r⟩
    have kB : K.In (hidT s.heap H) := by
      intro b ob e
      refine hidT_get (KX b ob e) ?_
      rcases hH b with q | ⟨rfl, _, q⟩
      · exact q
      · rw [e] at q
        cases q
    have lim' : (hidT s.heap H).NoLimit := by
      obtain ⟨mc, h1, h2⟩ := hlim
      exact ⟨mc, nsB h1, h2⟩
    have md : Mod K mg (hidT s.heap H) := ⟨kB, nsB hns, ⟨mb, nsB hb, hbb⟩, lim'⟩
    have nob : ∀ b ∈ frs ([] : List Env), H b = none := fun b hb => by cases hb
    have e0 : Env0 P w K mg (hidT s.heap H) callerA [] s H :=
      ⟨rfl, md, fun b ob e => of_hidT e, Nat.le_of_eq (hidT_size _ _), trivial, nob, hok, .of_eq hg⟩
    have oH : Only H := by
      intro b
      rcases hH b with q | ⟨_, q, _⟩
      · exact .inl q
      · exact .inr ⟨_, _, q⟩
    have run := (F _ kB (nsB hns)).go callerA [] s H ⟨[.ref a], []⟩ [.ref a] [.ref a] _ _ hr e0
      (hbind s (.ref a)) (.cons rfl .nil) (hsp H oH hS)
    refine codeAny_mono run ?_
    intro r s' h
    match r, h with
    | .error e, h => exact (hCX H e s' h).elim
    | .ok .next, h => exact False.elim h
    | .ok .brk, h => exact False.elim h
    | .ok .cont, h => exact False.elim h
    | .ok (.ret u), h =>
      obtain ⟨v, H', os, bare, un, hok', rv, q⟩ := h
      have q : v = .bl true := q
      subst q
      have ru : u = Value.bool true := rv
      subst ru
      refine ⟨rfl, OldK.of_keep ?_, os, bare⟩
      intro b ob e
      rcases hH b with q | ⟨_, q, _⟩
      · exact un.keep b ob e q (fun z => by cases z) (fun z => by cases z)
      · obtain ⟨e1, _⟩ := hok b _ q
        obtain ⟨e2, _⟩ := hok' b _ (un.frzs b o _ q)
        rw [e] at e1
        cases e1
        exact e2
  have rv := vals_ints hi
  cases hk : K.lookup a with
  | some ob =>
    have e := KX a ob hk
    rw [ha] at e
    cases e
    refine main (fun _ => none) (fun b => .inl rfl) (.inr ⟨_, vs.toArray, _, hk, rfl, rfl, rfl, ?_, by simpa using rv⟩) (fun b u z => by cases z)
    rw [List.size_toArray, hi.length]
    exact hl
  | none =>
    let H1 : Hp := fun b => if b = a then some (.frz o (.lst (ns.map V.int))) else none
    have at1 : H1 a = some (.frz o (.lst (ns.map V.int))) := if_pos rfl
    refine main H1 ?_ (.inl (.inr ⟨o, at1⟩)) ?_
    · intro b
      by_cases hb : b = a
      · subst hb
        exact .inr ⟨rfl, at1, hk⟩
      · exact .inl (if_neg hb)
    · intro b u z
      by_cases hb : b = a
      · subst hb
        rw [at1] at z
        cases z
        exact ⟨ha, by rw [List.length_map]; exact hl, vs, _, rv, ha⟩
      · have z' : H1 b = none := if_neg hb
        rw [z'] at z
        cases z

/-- the goal behind the head -/
theorem law_walk {l : PySem.W.OpenLaw} {n k : Nat} {q : Program} {loose : List Str} {XP : (Str → Option Value) → Heap → Prop}
    {YP : World → Heap → Prop} {d : DefRec} {CX : CXT} {x : Str}
    (hn : l.most = some n) (hn2 : n ≤ sizeLine) (hdf : d.params.defaults = []) (hr : Rm k callerA)
    (F : ∀ (w : World) (mg : Str → Option Value) (fa : Addr) (h : Heap), YP w h → h.Ns mainGlobals mg → mg d.name = some (.ref fa) →
      ∃ (K : PySem.W.Frag) (fd : FuncData) (sp : Sp), K.In h ∧ (∀ (s : Shared) (u : Value), BindsTo s fd ⟨[u], []⟩ [(x, u)]) ∧
        (∀ (H : Hp) (a : Addr) (ns : List Int), ns.length ≤ n → Only H → SqL K H a (ns.map V.int) →
          sp [.ref a] H (fun v _ => v = .bl true) fun _ _ _ => False) ∧
        ∀ base : Heap, K.In base → base.Ns mainGlobals mg → Fg l.prog w K mg base CX k fa fd [x] sp)
    (hCX : ∀ (H : Hp) (s : Shared) (e : Value) (s' : Shared), CX [] H s (fun _ _ _ => False) e s' → False) :
    PySem.W.WalkO q loose XP YP l.row.toRowW d [] (fun f vs => PySem.call f vs) := by
  refine Att.attach_call hn hdf ?_
  intro w s₀ s₁ mg mb fa o pm cd doc a vs ns G Y ho hd hcd hmg hobj hints hlen hg
  obtain ⟨K, fd, sp, KX, hb, hsp, hF⟩ := F w mg fa _ Y G.T.g hmg
  exact first_call KX G.T.g G.T.b G.T.builtins G.T.nolimit hg hobj hints (Nat.le_trans hlen hn2) hr hF hb
    (fun H hO hS => hsp H a ns hlen hO hS) (fun H e s' => hCX H s₁ e s')
end VB
namespace VB
open PySem PySem.Spec PyProof.Rows L2
mutual
theorem dp_noDict {K : PySem.W.Frag} {H : Hp} : ∀ {d : PyData} {v : V}, Dp K H v d → d.hasDict = false
  | .none, _, _ => by simp only [PyData.hasDict]
  | .bool _, _, _ => by simp only [PyData.hasDict]
  | .int _, _, _ => by simp only [PyData.hasDict]
  | .str _, _, _ => by simp only [PyData.hasDict]
  | .list ds, _, .lst _ h => by
    simp only [PyData.hasDict]
    exact dpAll_noDict h
  | .tuple ds, _, .tup _ h => by
    simp only [PyData.hasDict]
    exact dpAll_noDict h
  | .dict _, _, h => nomatch h
theorem dpAll_noDict {K : PySem.W.Frag} {H : Hp} : ∀ {ds : List PyData} {vs : List V}, DpAll K H vs ds → PyData.hasDictAll ds = false
  | [], _, _ => by simp only [PyData.hasDictAll]
  | d :: ds, _, .cons h t => by simp only [PyData.hasDictAll, dp_noDict h, dpAll_noDict t, Bool.or_self]
end
section
variable {X : Cx} {k : Nat}
/-- repr(x), x data of any depth without dicts -/
@[irreducible] def rRepr (K : PySem.W.Frag) : List V → Hp → VK → Prop := fun xs H Q => ∃ (a : Addr) (d : PyData), xs = [.ref a] ∧
  Dp K H (.ref a) d ∧ d.showable = true ∧ d.depth ≤ 60 ∧ d.shown.length ≤ sizeLine ∧ Q (.str d.shown) H
theorem call_repr (hr : Rm k X.A) : CallR X (.builtin "repr") (rRepr X.K) := by
  intro pins s σ H xs us Q I r h
  unfold rRepr at h
  obtain ⟨a, d, rfl, hd, hs, hdep, hl, q⟩ := h
  obtain ⟨u, rfl, ru⟩ := vals1 r
  obtain ⟨as, rd⟩ := Dp.reads I d _ u hd ru
  cases (show u = Value.ref a from ru)
  have hu := hr.rm.un
  refine repr_of_reads' rd hs (PyData.noDict_hsm (dp_noDict hd)) hr.gd (by omega) (fun _ _ e => e) ?_ hl
  intro h' u tk kp
  refine ⟨.str d.shown, H, ?_, ⟨u, rfl⟩, q⟩
  exact I.un (Un.kept kp) (I.hok.kept kp)
end
end VB
namespace VB
open PySem PySem.Spec PyProof.Rows L2
section
variable {X : Cx} {K : PySem.W.Frag}
def rAddU (K : PySem.W.Frag) : R2 := fun x y H Q => rI0 (fun i j => .int (i + j)) x y H Q ∨ (rCat x y H Q ∨ rCatT K x y H Q)
theorem u_add (hK : X.K = K := by rfl) : OpR X (binaryOp .Add) (rAddU K) := by
  subst hK
  exact op_add.or (op_cat.or op_catT)
def rMulU (K : PySem.W.Frag) : R2 := fun x y H Q => rI CMulX (fun i j => .int (i * j)) x y H Q ∨ (rRep x y H Q ∨ rRepT K x y H Q)
theorem u_mul (hK : X.K = K := by rfl) : OpR X (binaryOp .Mult) (rMulU K) := by
  subst hK
  exact op_mulX.or (op_rep.or op_repT)
def rEqU (K : PySem.W.Frag) : R2 := fun x y H Q => rEq x y H Q ∨ rEqD K x y H Q
theorem u_eq {k : Nat} (hr : Rm k X.A) (hK : X.K = K := by rfl) : OpR X (compareOp .Eq) (rEqU K) := by
  subst hK
  exact op_eq.or (op_eqD hr.rm.units)
def rNeU (K : PySem.W.Frag) : R2 := fun x y H Q => rNe x y H Q ∨ rNeD K x y H Q
theorem u_ne {k : Nat} (hr : Rm k X.A) (hK : X.K = K := by rfl) : OpR X (compareOp .NotEq) (rNeU K) := by
  subst hK
  exact op_ne.or (op_neD hr.rm.units)
def rSlU (K : PySem.W.Frag) : V → Option Int → Option Int → Hp → VK → Prop := fun x lo hi H Q => rSlL K x lo hi H Q ∨ (rSlT K x lo hi H Q ∨ rSlS x lo hi H Q)
theorem u_sl (hK : X.K = K := by rfl) : SlR X (rSlU K) := by
  subst hK
  exact sl_list.or (sl_tup.or sl_str)
theorem u_ix (hK : X.K = K := by rfl) : IxR X (rIx K) := by
  subst hK
  exact ix_seq
theorem u_in (hK : X.K = K := by rfl) : OpR X (compareOp .In) (rIn K false) := by
  subst hK
  exact op_in_seq
theorem u_notin (hK : X.K = K := by rfl) : OpR X (compareOp .NotIn) (rIn K true) := by
  subst hK
  exact op_notIn_seq
def rLenU (K : PySem.W.Frag) : List V → Hp → VK → Prop := fun xs H Q => ∃ x n, xs = [x] ∧ LenV K x H n ∧ Q (.int n) H
theorem u_len (hK : X.K = K := by rfl) : CallR X (.builtin "len") (rLenU K) := by
  subst hK
  exact call_len
theorem u_isi (hK : X.K = K := by rfl) : CallR X (.builtin "isinstance") (rIsi K) := by
  subst hK
  exact call_isi
theorem u_isiT (hK : X.K = K := by rfl) : CallR X (.builtin "isinstance") (rIsiT K) := by
  subst hK
  exact call_isiT
theorem u_sum (hc : X.calm = true) (hK : X.K = K := by rfl) : CallR X (.builtin "sum") (rSum K) := by
  subst hK
  exact cr_sum hc
theorem u_all (hc : X.calm = true) (hK : X.K = K := by rfl) : CallR X (.builtin "all") (rAll K) := by
  subst hK
  exact cr_all hc
theorem u_any (hc : X.calm = true) (hK : X.K = K := by rfl) : CallR X (.builtin "any") (rAny K) := by
  subst hK
  exact cr_any hc
theorem u_repr {k : Nat} (hr : Rm k X.A) (hK : X.K = K := by rfl) : CallR X (.builtin "repr") (rRepr K) := by
  subst hK
  exact call_repr hr
def rListU (K : PySem.W.Frag) : List V → Hp → VK → Prop := fun xs H Q => ∃ p ys, xs = [.ref p] ∧ (SqL K H p ys ∨ SqT K H p ys) ∧ ∀ l, H l = none → Q (.ref l) (upd H l (.lst ys))
theorem u_list (hK : X.K = K := by rfl) : CallR X (.type "list") (rListU K) := by
  subst hK
  exact call_list_of
def rTupU (K : PySem.W.Frag) : List V → Hp → VK → Prop := fun xs H Q => ∃ p ys, xs = [.ref p] ∧ ((SqL K H p ys ∧ ∀ l, H l = none → Q (.ref l) (upd H l (.tup ys))) ∨ (SqT K H p ys ∧ Q (.ref p) H))
theorem u_tup (hK : X.K = K := by rfl) : CallR X (.type "tuple") (rTupU K) := by
  subst hK
  exact call_tuple_of
theorem u_count (hK : X.K = K := by rfl) : MtR X "list.count" (rCntI K) := by
  subst hK
  exact mt_lcount
def tTru (K : PySem.W.Frag) (ta : TE) : TT := fun σ H Q => ta σ H fun x H' => ∃ k, TruV K x H' k ∧ Q k H'
theorem pt_tru {a : Expr} {ta : TE} (ha : PE X a ta) (he : ∀ whole, isTrue a X.env whole = (do let v ← whole; standAt a.pos; holding [v] (truthy v))) (hK : X.K = K := by rfl) : PT X a (tTru K ta) := by
  subst hK
  exact pt_truth ha he
theorem pi_either {tg iter : Expr} {a b : TI} (h : PI X tg iter a) (h' : PI X tg iter b) : PI X tg iter (fun σ H R => a σ H R ∨ b σ H R) := by
  constructor
  intro pins s σ H R I q
  rcases q with q | q
  · exact h.run pins s σ H R I q
  · exact h'.run pins s σ H R I q
def iSeq (K : PySem.W.Frag) (t : TE) : TI := fun σ H R => iList K t σ H R ∨ iTup K t σ H R
theorem pi_seq {tg e : Expr} {t : TE} (h : PE X e t) (hK : X.K = K := by rfl) : PI X tg e (iSeq K t) := by
  subst hK
  exact pi_either (pi_list h) (pi_tup h)
theorem pi_enu {e : Expr} {ta : TA} {p pos tpos : Pos} {elts : List Expr} {kk : Nat} (hg : Gl X "enumerate") (hm : X.mg "enumerate" = none) (ha : PA X [e] ta) (hK : X.K = K := by rfl)
    (hs : starEach [e] X.env = (false, eval e X.env) :: starEach [] X.env := by rfl) : PI X (.Tuple elts kk tpos) (.Call (.Name "enumerate" p) [e] [] pos) (iEnum K ta) := by
  subst hK
  exact pi_enum hg hm ha hs
theorem pg_tupU {es : List Expr} {k : Nat} {t : TGs} {n : Nat} {pos : Pos} (hc : X.calm = true) (h : PGs X es t) (hK : X.K = K := by rfl)
    (hn : (assignEach es X.env).length = n := by rfl) (hst : (assignEach es X.env).findIdx? (·.1) = none := by rfl) : PG X (.Tuple es k pos) (gTup K n t) := by
  subst hK
  exact pg_tup hc h hn hst
/-- an int's remainder and quotient by a positive one, as they are -/
theorem fmodE {a b : Int} (h : 0 ≤ b := by decide) : a.fmod b = a % b := Int.fmod_eq_emod_of_nonneg a h
theorem fdivE {a b : Int} (h : 0 ≤ b := by decide) : a.fdiv b = a / b := Int.fdiv_eq_ediv_of_nonneg a h
/-- by a positive divisor -/
theorem u_mod : OpR X (binaryOp .Mod) (rI (fun _ j => 0 < j) fun i j => .int (i % j)) := by
  intro pins s σ H x y v u Q I rx ry h
  obtain ⟨i, j, rfl, rfl, hj, q⟩ := h
  refine op_modN pins s σ H _ _ v u Q I rx ry ⟨i, j, rfl, rfl, by omega, ?_⟩
  show Q (.int (i.fmod j)) H
  rw [fmodE (by omega)]
  exact q
theorem u_fdiv : OpR X (binaryOp .FloorDiv) (rI (fun _ j => 0 < j ∧ j < 1073741824) fun i j => .int (i / j)) := by
  intro pins s σ H x y v u Q I rx ry h
  obtain ⟨i, j, rfl, rfl, hj, q⟩ := h
  refine op_fdivN pins s σ H _ _ v u Q I rx ry ⟨i, j, rfl, rfl, ⟨by omega, by omega⟩, ?_⟩
  show Q (.int (i.fdiv j)) H
  rw [fdivE (by omega)]
  exact q
end
end VB
namespace VB
/-- what follows, shown once for several ways -/
theorem once {R G : Prop} (main : R → G) (rest : R) : G := main rest
end VB
/-! sequences: lists and tuples alike -/
namespace VB
open PySem PySem.Spec PyProof.Rows L2
/-- a list (false) or a tuple (true) of the values xs -/
def Sv (t : Bool) (K : PySem.W.Frag) (H : Hp) (a : Addr) (xs : List V) : Prop := match t with
  | false => SqL K H a xs
  | true => SqT K H a xs
section
variable {K : PySem.W.Frag} {H H' : Hp} {a : Addr} {xs : List V} {t : Bool}
theorem Sv.ex (h : Sv t K H a xs) (e : Evl.Ex H H') : Sv t K H' a xs := by
  cases t with
  | false => exact Evl.ex_l e (show SqL K H a xs from h)
  | true => exact Evl.ex_t e (show SqT K H a xs from h)
theorem Sv.lst (h : H a = some (.lst xs)) : Sv false K H a xs := SqL.of h
theorem Sv.tup (h : H a = some (.tup xs)) : Sv true K H a xs := SqT.of h
/-- a walk over what stands in a slot -/
theorem seq_var {i : Nat} {σ : L2.St} {R : It → Hp → Prop} (e : σ[i]? = some (some (.ref a))) (S : Sv t K H a xs)
    (h : ∀ J, Walk J xs.length (fun H => Sv t K H a xs) (YAt xs) → R J H) : iSeq K (tVar i) σ H R := by
  cases t with
  | false => exact .inl ⟨_, e, a, rfl, ⟨xs, S⟩, h _ walk_list⟩
  | true => exact .inr ⟨_, e, a, rfl, ⟨xs, S⟩, h _ walk_tup⟩
theorem Sv.len (S : Sv t K H a xs) : LenV K (.ref a) H xs.length := by
  cases t with
  | false => exact .inl ⟨xs, S, rfl⟩
  | true => exact .inr ⟨xs, S, rfl⟩
theorem Sv.ix {x v : V} {i : Int} {Q : VK} (S : Sv t K H a xs) (h : atI xs i = some v) (q : Q v H) : rIx K (.ref a) (.int i) H Q := by
  cases t with
  | false => exact .inl ⟨a, xs, i, v, rfl, rfl, S, h, q⟩
  | true => exact .inr (.inl ⟨a, xs, i, v, rfl, rfl, S, h, q⟩)
theorem Sv.either (S : Sv t K H a xs) : SqL K H a xs ∨ SqT K H a xs := by
  cases t with
  | false => exact .inl S
  | true => exact .inr S
end
/-- a range by a step upward -/
theorem rg_up {n c : Int} (hn : 0 ≤ n) (hn2 : n < 1000000) (hc : 0 < c) (hc2 : c < 1000000) : RgC 0 n c ((n + c - 1) / c).toNat := by
  refine ⟨by omega, by omega, ?_, ?_⟩
  · have z := PyProof.Rows.rangeSize_pos (len := n) (c := c) (by omega) hn
    have d : 0 ≤ (n + c - 1) / c := Int.ediv_nonneg (by omega) (by omega)
    have d2 : (n + c - 1) / c ≤ n + c - 1 := Int.ediv_le_self _ (by omega)
    have d3 : (n + c - 1) / c * c ≤ n + c - 1 := Int.ediv_mul_le _ (by omega)
    unfold Builtin.Range.small
    rw [z]
    simp only [Builtin.Range.rangeFitsLong, Bool.and_eq_true, Bool.or_eq_true, decide_eq_true_eq, beq_iff_eq, hc, gt_iff_lt, if_true]
    omega
  · have d : 0 ≤ (n + c - 1) / c := Int.ediv_nonneg (by omega) (by omega)
    rw [PyProof.Rows.rangeSize_pos (by omega) hn]
    omega
/-- the promises' shapes: a new list, a new tuple, a value; what stood stands -/
abbrev RL (xs : List V) (H : Hp) (Q : VK) : Prop := ∀ (p : Addr) (H' : Hp), H p = none → Evl.Ex H H' → H' p = some (.lst xs) → Q (.ref p) H'
abbrev RT (xs : List V) (H : Hp) (Q : VK) : Prop := ∀ (p : Addr) (H' : Hp), H p = none → Evl.Ex H H' → H' p = some (.tup xs) → Q (.ref p) H'
abbrev RV (v : V) (H : Hp) (Q : VK) : Prop := ∀ H' : Hp, Evl.Ex H H' → Q v H'
/-- ints as values -/
abbrev IV (ns : List Int) : List V := ns.map V.int
theorem iv_get {ns : List Int} {i : Nat} {x : V} (h : (IV ns)[i]? = some x) : ∃ n, ns[i]? = some n ∧ x = .int n := by
  rw [List.getElem?_map] at h
  cases e : ns[i]? with
  | none => rw [e] at h; cases h
  | some n =>
    rw [e] at h
    exact ⟨n, rfl, (Option.some.inj h).symm⟩
theorem iv_at {ns : List Int} {i : Nat} {n : Int} (h : ns[i]? = some n) : atI (IV ns) (i : Int) = some (.int n) := by
  apply atI_nat
  rw [List.getElem?_map, h]
  rfl
theorem iv_len (ns : List Int) : (IV ns).length = ns.length := List.length_map ..
theorem iv_snoc (ns : List Int) (n : Int) : IV ns ++ [V.int n] = IV (ns ++ [n]) := by simp
theorem take_snoc {α : Type} {l : List α} {i : Nat} {x : α} (h : l[i]? = some x) : l.take (i + 1) = l.take i ++ [x] := by
  rw [List.take_add_one, h]
  rfl
/-- a comprehension over a range that changes nothing: us its items -/
theorem lc_pureR {n j : Nat} {us : List Int} {te : TE} {vs : List Nat} {σ : L2.St} {H1 : Hp} {D : Addr} {Qd : Hp → Prop} (hl : us.length = n) (hz : n ≤ 60000) (hD : H1 D = none)
    (hw : ∀ x, wipe ((wipe σ vs).set j x) vs = wipe σ vs)
    (hs : ∀ (i : Nat) (u : Int) (H : Hp) (Q : VK), us[i]? = some u → Evl.Ex H1 H → (∀ H' : Hp, Evl.Ex H H' → Q (.int u) H') → te ((wipe σ vs).set j (some (.int (i : Int)))) H Q)
    (hd : ∀ H, Evl.Ex H1 H → H D = some (.lst (IV us)) → Qd H) :
    ∃ W : Nat → Nat → Hp → Prop, (∃ m, W 0 m (upd H1 D (.lst []))) ∧ ∀ i m H, W i m H →
      ((Itr 0 n).stop i H ∧ Qd H) ∨ ((Itr 0 n).go i H ∧ ∃ Nx : Hp → Prop, (∀ H', Nx H' → ∃ m', m' < m ∧ W (i + 1) m' H') ∧ ∀ x H', (Itr 0 n).yld i H x H' →
        gName j x (wipe σ vs) H' fun σ2 H2 => wipe σ2 vs = wipe σ vs ∧ tYes σ2 H2 fun b H3 =>
        if b = true then te σ2 H3 fun y H4 => ∃ acc, H4 D = some (.lst acc) ∧ acc.length < sizeLine ∧ Nx (upd H4 D (.lst (acc ++ [y]))) else Nx H3) := by
  refine lc_range (lo := 0) (n := n) (fun i H' => Evl.Ex H1 H' ∧ i ≤ n ∧ H' D = some (.lst (IV (us.take i)))) ⟨Evl.Ex.new hD, Nat.zero_le _, upd_same⟩ ?_ ?_
  · rintro i H hi ⟨e1, hi2, h1⟩
    have e0 : (0 : Int) + (i : Int) = (i : Int) := Int.zero_add _
    rw [e0]
    refine ⟨hw _, ?_⟩
    obtain ⟨u, hu⟩ : ∃ u, us[i]? = some u := ⟨us[i]'(by omega), by simp [show i < us.length by omega]⟩
    show te _ H _
    refine hs i u H _ hu e1 fun H' e2 => ⟨_, e2 D _ h1, ?_, Evl.Ex.mut (e1.trans e2) hD, by omega, ?_⟩
    · rw [iv_len, List.length_take]
      exact Evl.sz_lt (by omega)
    · rw [upd_same, iv_snoc, take_snoc hu]
  · rintro H ⟨e1, _, h1⟩
    refine hd H e1 ?_
    rw [h1, ← hl, List.take_length]
/-- .. over a sequence -/
theorem lc_pureS {J : It} {G : Hp → Prop} {n j : Nat} {us : List Int} {xs : List V} {te : TE} {vs : List Nat} {σ : L2.St} {H1 : Hp} {D : Addr} {Qd : Hp → Prop} (wk : Walk J n G (YAt xs)) (hG : ∀ H, Evl.Ex H1 H → G H)
    (hl : us.length = n) (hz : n ≤ 60000) (hD : H1 D = none) (hw : ∀ x, wipe ((wipe σ vs).set j x) vs = wipe σ vs)
    (hs : ∀ (i : Nat) (x : V) (u : Int) (H : Hp) (Q : VK), xs[i]? = some x → us[i]? = some u → Evl.Ex H1 H → (∀ H' : Hp, Evl.Ex H H' → Q (.int u) H') → te ((wipe σ vs).set j (some x)) H Q)
    (hd : ∀ H, Evl.Ex H1 H → H D = some (.lst (IV us)) → Qd H) :
    ∃ W : Nat → Nat → Hp → Prop, (∃ m, W 0 m (upd H1 D (.lst []))) ∧ ∀ i m H, W i m H →
      (J.stop i H ∧ Qd H) ∨ (J.go i H ∧ ∃ Nx : Hp → Prop, (∀ H', Nx H' → ∃ m', m' < m ∧ W (i + 1) m' H') ∧ ∀ x H', J.yld i H x H' →
        gName j x (wipe σ vs) H' fun σ2 H2 => wipe σ2 vs = wipe σ vs ∧ tYes σ2 H2 fun b H3 =>
        if b = true then te σ2 H3 fun y H4 => ∃ acc, H4 D = some (.lst acc) ∧ acc.length < sizeLine ∧ Nx (upd H4 D (.lst (acc ++ [y]))) else Nx H3) := by
  refine lc_it wk (fun i H' => Evl.Ex H1 H' ∧ i ≤ n ∧ H' D = some (.lst (IV (us.take i)))) ⟨Evl.Ex.new hD, Nat.zero_le _, upd_same⟩ (fun i H _ h => hG H h.1) ?_ ?_
  · rintro i x H H' hi ⟨e1, hi2, h1⟩ ⟨rfl, hx⟩
    refine ⟨hw _, ?_⟩
    obtain ⟨u, hu⟩ : ∃ u, us[i]? = some u := ⟨us[i]'(by omega), by simp [show i < us.length by omega]⟩
    show te _ H' _
    refine hs i x u H' _ hx hu e1 fun H'' e2 => ⟨_, e2 D _ h1, ?_, Evl.Ex.mut (e1.trans e2) hD, by omega, ?_⟩
    · rw [iv_len, List.length_take]
      exact Evl.sz_lt (by omega)
    · rw [upd_same, iv_snoc, take_snoc hu]
  · rintro H ⟨e1, _, h1⟩
    refine hd H e1 ?_
    rw [h1, ← hl, List.take_length]
end VB
/-! data of ints: what stands, what repr shows, what == says -/
namespace VB
open PySem PySem.Spec PyProof.Rows L2
abbrev DL (ns : List Int) : PyData := .list (ns.map .int)
abbrev DT (ns : List Int) : PyData := .tuple (ns.map .int)
section
variable {K : PySem.W.Frag} {H H' : Hp} {a : Addr} {ns : List Int} {t : Bool}
theorem dpAll_ints : ∀ ns : List Int, DpAll K H (IV ns) (ns.map .int)
  | [] => .nil
  | n :: ns => .cons (.int n) (dpAll_ints ns)
theorem dp_l (h : SqL K H a (IV ns)) : Dp K H (.ref a) (DL ns) := .lst h (dpAll_ints ns)
theorem dp_t (h : SqT K H a (IV ns)) : Dp K H (.ref a) (DT ns) := .tup h (dpAll_ints ns)
end
/-- what can be shown, its depth and its text's length bounded -/
structure Sh (d : PyData) (h b : Nat) : Prop where
  ok : d.showable = true
  dep : d.depth ≤ h
  len : d.shown.length ≤ b
theorem Sh.le {d : PyData} {h b h' b' : Nat} (s : Sh d h b) (h1 : h ≤ h' := by omega) (h2 : b ≤ b' := by omega) : Sh d h' b' :=
  ⟨s.ok, Nat.le_trans s.dep h1, Nat.le_trans s.len h2⟩
theorem pow2_lt : ∀ n : Nat, n < 2 ^ n
  | 0 => by decide
  | n + 1 => by
    have := pow2_lt n
    rw [Nat.pow_succ]
    omega
theorem log2_le_self (n : Nat) : n.log2 ≤ n := by
  by_cases h : n = 0
  · subst h
    decide
  · have q := Nat.log2_self_le h
    have p := pow2_lt n.log2
    omega
theorem sh_int {n : Int} (h : 0 ≤ n ∧ n < 10000 ∧ n.natAbs.log2 < 1920) : Sh (.int n) 0 4 := by
  refine ⟨by simp only [PyData.showable, decide_eq_true_eq]; exact h.2.2, by simp only [PyData.depth]; exact Nat.le_refl _, ?_⟩
  rw [PyData.shown_int]
  exact toString_length_le h.1 (by decide) (by omega)
theorem log_small {n : Int} (h : 0 ≤ n) (h2 : n < 10000) : n.natAbs.log2 < 1920 := by
  by_cases z : n.natAbs = 0
  · rw [z]
    decide
  · have q := Nat.log2_lt z (k := 1920)
    refine q.mpr (Nat.lt_of_lt_of_le (m := 2 ^ 14) (by omega) (Nat.pow_le_pow_right (by decide) (by decide)))
theorem piled_le {b : Nat} : ∀ ts : List Str, (∀ t ∈ ts, t.length ≤ b) → piled ts ≤ (b + 2) * ts.length
  | [], _ => Nat.zero_le _
  | t :: ts, h => by
    have a := h t (List.mem_cons_self ..)
    have c := piled_le ts fun u hu => h u (List.mem_cons_of_mem _ hu)
    rw [piled_cons, List.length_cons, Nat.mul_succ]
    omega
theorem join_le {b : Nat} (ts : List Str) (h : ∀ t ∈ ts, t.length ≤ b) : (Str.join ", " ts).length ≤ (b + 2) * ts.length := by
  by_cases z : ts = []
  · subst z
    exact Nat.zero_le _
  · have j := join_length_add ts z
    have p := piled_le ts h
    omega
theorem mem_shown {x : Str} : ∀ {ds : List PyData}, x ∈ PyData.shownAll ds → ∃ d ∈ ds, x = d.shown
  | [], h => by
    rw [PyData.shownAll_nil] at h
    cases h
  | d :: ds, h => by
    rw [PyData.shownAll_cons] at h
    cases h with
    | head => exact ⟨d, List.mem_cons_self .., rfl⟩
    | tail _ h =>
      obtain ⟨e, he, q⟩ := mem_shown h
      exact ⟨e, List.mem_cons_of_mem _ he, q⟩
theorem depAll {h : Nat} : ∀ {ds : List PyData}, (∀ d ∈ ds, d.depth ≤ h) → PyData.depthAll ds ≤ h
  | [], _ => by simp only [PyData.depthAll]; exact Nat.zero_le _
  | d :: ds, q => by
    simp only [PyData.depthAll]
    exact Nat.max_le.mpr ⟨q d (List.mem_cons_self ..), depAll fun e he => q e (List.mem_cons_of_mem _ he)⟩
theorem str_app (a b : Str) : (a ++ b).length = a.length + b.length := by
  exact strLen_append a b
theorem sh_list {ds : List PyData} {h b n : Nat} (q : ∀ d ∈ ds, Sh d h b) (hn : ds.length ≤ n) : Sh (.list ds) (h + 1) ((b + 2) * n + 4) := by
  refine ⟨?_, ?_, ?_⟩
  · simp only [PyData.showable]
    exact PySem.Spec.showableAll_of fun d hd => (q d hd).ok
  · simp only [PyData.depth]
    exact Nat.succ_le_succ (depAll fun d hd => (q d hd).dep)
  · rw [PyData.shown_list, str_app, str_app]
    have j := join_le (b := b) (PyData.shownAll ds) (by
      intro t ht
      obtain ⟨d, hd, rfl⟩ := mem_shown ht
      exact (q d hd).len)
    rw [PyData.shownAll_length] at j
    have l1 : ("[" : Str).length = 1 := by decide
    have l2 : ("]" : Str).length = 1 := by decide
    have m : (b + 2) * ds.length ≤ (b + 2) * n := Nat.mul_le_mul_left _ hn
    omega
theorem sh_tup {ds : List PyData} {h b n : Nat} (q : ∀ d ∈ ds, Sh d h b) (hn : ds.length ≤ n) : Sh (.tuple ds) (h + 1) ((b + 2) * n + 4) := by
  refine ⟨?_, ?_, ?_⟩
  · simp only [PyData.showable]
    exact PySem.Spec.showableAll_of fun d hd => (q d hd).ok
  · simp only [PyData.depth]
    exact Nat.succ_le_succ (depAll fun d hd => (q d hd).dep)
  · rw [PyData.shown_tuple, str_app, str_app]
    have j := join_le (b := b) (PyData.shownAll ds) (by
      intro t ht
      obtain ⟨d, hd, rfl⟩ := mem_shown ht
      exact (q d hd).len)
    rw [PyData.shownAll_length] at j
    have l1 : ("(" : Str).length = 1 := by decide
    have l2 : (if ds.length == 1 then ",)" else ")" : Str).length ≤ 2 := by
      split <;> decide
    have m : (b + 2) * ds.length ≤ (b + 2) * n := Nat.mul_le_mul_left _ hn
    have l3 : (Str.ofString (if ds.length == 1 then ",)" else ")" : String)).length ≤ 2 := by
      split <;> decide
    omega
/-- ints below 10000 -/
def Sm (ns : List Int) : Prop := ∀ n ∈ ns, 0 ≤ n ∧ n < 10000
theorem sm_ds {ns : List Int} (h : Sm ns) : ∀ d ∈ ns.map PyData.int, Sh d 0 4 := by
  intro d hd
  obtain ⟨n, hn, rfl⟩ := List.mem_map.mp hd
  have := h n hn
  exact sh_int ⟨this.1, this.2, log_small this.1 this.2⟩
theorem sh_l {ns : List Int} (h : Sm ns) (hl : ns.length ≤ 6000) : Sh (DL ns) 1 40000 := (sh_list (sm_ds h) (n := 6000) (by simpa using hl)).le
theorem sh_t {ns : List Int} (h : Sm ns) (hl : ns.length ≤ 6000) : Sh (DT ns) 1 40000 := (sh_tup (sm_ds h) (n := 6000) (by simpa using hl)).le
section
variable {K : PySem.W.Frag} {H : Hp} {a b : Addr} {ns ms : List Int} {Q : VK}
theorem rp {d : PyData} {h n : Nat} (e : Dp K H (.ref a) d) (s : Sh d h n) (q : Q (.str d.shown) H) (hh : h ≤ 60 := by decide) (hn : n ≤ 1000000 := by omega) : rRepr K [.ref a] H Q := by
  unfold rRepr
  exact ⟨a, d, rfl, e, s.ok, Nat.le_trans s.dep hh, Nat.le_trans (Nat.le_trans s.len hn) (by decide), q⟩
theorem rp_l (e : SqL K H a (IV ns)) (h : Sm ns) (hl : ns.length ≤ 6000) (q : Q (.str (DL ns).shown) H) : rRepr K [.ref a] H Q := rp (dp_l e) (sh_l h hl) q
theorem rp_t (e : SqT K H a (IV ns)) (h : Sm ns) (hl : ns.length ≤ 6000) (q : Q (.str (DT ns).shown) H) : rRepr K [.ref a] H Q := rp (dp_t e) (sh_t h hl) q
theorem eqvAll_ints : ∀ xs ys : List Int, PyData.eqvAll (xs.map .int) (ys.map .int) = decide (xs = ys)
  | [], [] => by simp [PyData.eqvAll]
  | [], _ :: _ => by simp [PyData.eqvAll]
  | _ :: _, [] => by simp [PyData.eqvAll]
  | x :: xs, y :: ys => by
    simp only [List.map_cons, PyData.eqvAll, PyData.eqv, eqvAll_ints xs ys]
    by_cases h : x = y <;> by_cases h2 : xs = ys <;> simp [h, h2]
theorem canAll : ∀ ns : List Int, PyData.canLayAll0 (ns.map .int) = true
  | [] => by simp [PyData.canLayAll0]
  | n :: ns => by simp [PyData.canLayAll0, PyData.canLay0, canAll ns]
theorem depInts : ∀ ns : List Int, PyData.depthAll (ns.map .int) = 0
  | [] => by simp [PyData.depthAll]
  | n :: ns => by simp [PyData.depthAll, PyData.depth, depInts ns]
theorem shp_l (ns : List Int) : SeqAt.shaped (DL ns) = true := by simp [SeqAt.shaped, PyData.canLay0, PyData.depth, canAll, depInts]
theorem shp_t (ns : List Int) : SeqAt.shaped (DT ns) = true := by simp [SeqAt.shaped, PyData.canLay0, PyData.depth, canAll, depInts]
theorem req_l (e : SqL K H a (IV ns)) (e' : SqL K H b (IV ms)) (q : Q (.bl (decide (ns = ms))) H) : rEqD K (.ref a) (.ref b) H Q := by
  refine ⟨DL ns, DL ms, dp_l e, dp_l e', shp_l _, shp_l _, ?_⟩
  rw [show PyData.eqv (DL ns) (DL ms) = decide (ns = ms) by simp only [DL, PyData.eqv]; exact eqvAll_ints ns ms]
  exact q
theorem req_t (e : SqT K H a (IV ns)) (e' : SqT K H b (IV ms)) (q : Q (.bl (decide (ns = ms))) H) : rEqD K (.ref a) (.ref b) H Q := by
  refine ⟨DT ns, DT ms, dp_t e, dp_t e', shp_t _, shp_t _, ?_⟩
  rw [show PyData.eqv (DT ns) (DT ms) = decide (ns = ms) by simp only [DT, PyData.eqv]; exact eqvAll_ints ns ms]
  exact q
theorem rne_l (e : SqL K H a (IV ns)) (e' : SqL K H b (IV ms)) (q : Q (.bl (!decide (ns = ms))) H) : rNeD K (.ref a) (.ref b) H Q := by
  refine ⟨DL ns, DL ms, dp_l e, dp_l e', shp_l _, shp_l _, ?_⟩
  rw [show PyData.eqv (DL ns) (DL ms) = decide (ns = ms) by simp only [DL, PyData.eqv]; exact eqvAll_ints ns ms]
  exact q
end
end VB
/-! a tuple once is the tuple -/
namespace VB
open PySem PySem.Spec PyProof.Rows L2
theorem tuple_mul1 (l : Addr) (items : Array Value) (n : Nat) (dd : Option Addr) (sl : Array (Option Value)) (x : Int) (u : Tok) (c0 : (decide (x < -(2 ^ 63)) || decide (x ≥ 2 ^ 63)) = false) (c1 : (items.isEmpty || x == 1) = true) :
    Meets (Builtin.«tuple.__mul__» ⟨[.ref l, .int x u], []⟩) (fun _ R s => s.heap.get? l = some { cls := .type "tuple", dict := dd, data := .seq items n, slots := sl } ∧
      R (.ok (.ret (.ref l))) s) :=
  .of_wp fun prog w A R s h => by
    obtain ⟨hp, g, d, tk, os⟩ := s
    obtain ⟨hl, h⟩ := h
    have f1 := AutoSeq1.idx_int
    wp_walk using wpAny_loadPart' hl
    repeat (first
      | (refine wpAny_ite_false (decide_eq_false (by rw [c0]; exact Bool.false_ne_true)) ?_; wp_walk using wpAny_loadPart' hl)
      | (refine wpAny_ite_true (decide_eq_true c1) ?_; wp_walk using wpAny_loadPart' hl))
    exact ⟨_, rfl, h⟩
def rRepT1 (K : PySem.W.Frag) : R2 := fun x y H Q => ∃ l xs, x = .ref l ∧ y = .int 1 ∧ SqT K H l xs ∧ Q (.ref l) H
section
variable {X : Cx} {K : PySem.W.Frag}
theorem op_repT1 : OpR X (binaryOp .Mult) (rRepT1 X.K) := by
  intro pins s σ H x y v u Q I rx ry h
  obtain ⟨l, xs, rfl, rfl, hT, q⟩ := h
  cases rx
  obtain ⟨t, rfl⟩ := ry
  obtain ⟨its, r, ⟨⟨cls, dd, data, sl⟩, ho, hc, n, hd⟩, hs⟩ := I.tuple hT
  simp only at hc hd
  subst hc hd
  have c0 : (decide ((1 : Int) < -(2 ^ 63)) || decide ((1 : Int) ≥ 2 ^ 63)) = false := by decide
  have c1 : (its.toArray.isEmpty || (1 : Int) == 1) = true := by simp
  refine wpAny_binaryOp_repeat_ref (T := "tuple") (U := "int") (by decide) ⟨_, ho, rfl⟩ (fun s' => typeIs_int s' 1 t) noFill_tuple_mul F.fills_int_mul F.slot_int_rmul repeat_tuple F.slot_int_index.lookup
    (call_meets F.slot_int_rmul (typeIs_int s 1 t) F.entry_int_rmul (F.args_int_rmul_2 _ _) (int_rmul_tuple 1 t l its.toArray n dd sl)
      ⟨ho, rfl, ⟨_, ho, rfl⟩, call_meets F.slot_tuple_mul ⟨_, ho, rfl⟩ F.entry_tuple_mul (F.args_tuple_mul_2 _ _) (tuple_mul1 l its.toArray n dd sl 1 t c0 c1) ⟨ho, ?_⟩⟩)
  exact ⟨.ref l, H, I, rfl, q⟩
/-- +, * of this law: tuples once, too -/
@[irreducible] def rMulU1 (K : PySem.W.Frag) : R2 := fun x y H Q => rMulU K x y H Q ∨ rRepT1 K x y H Q
theorem u_mul1 (hK : X.K = K := by rfl) : OpR X (binaryOp .Mult) (rMulU1 K) := by
  subst hK
  unfold rMulU1
  exact (u_mul rfl).or op_repT1
end
end VB
/-! readings that are never unfolded -/
namespace VB
open PySem PySem.Spec PyProof.Rows L2
section
variable {X : Cx} {K : PySem.W.Frag}
@[irreducible] def rTupI (K : PySem.W.Frag) : List V → Hp → VK → Prop := rTupU K
@[irreducible] def rListI (K : PySem.W.Frag) : List V → Hp → VK → Prop := rListU K
theorem u_tupI (hK : X.K = K := by rfl) : CallR X (.type "tuple") (rTupI K) := by
  unfold rTupI
  exact u_tup hK
theorem u_listI (hK : X.K = K := by rfl) : CallR X (.type "list") (rListI K) := by
  unfold rListI
  exact u_list hK
@[irreducible] def tIfI (c : TT) (t u : TS) : TS := tIfS c t u
theorem ps_ifI {test : Expr} {body orelse : List Stmt} {pos : Pos} {c : TT} {t u : TS} (hc : PT X test c) (ht : PSs X body t) (hu : PSs X orelse u) : PS X (.If test body orelse pos) (tIfI c t u) := by
  unfold tIfI
  exact ps_if hc ht hu
end
end VB
/-! bits of octets: plain mathematics -/
namespace BM
def bitsOf (o : Int) : List Int := [o / 128 % 2, o / 64 % 2, o / 32 % 2, o / 16 % 2, o / 8 % 2, o / 4 % 2, o / 2 % 2, o / 1 % 2]
def bitsL (os : List Int) : List Int := os.flatMap bitsOf
def octOf (bs : List Int) : Int := bs.foldl (fun n b => 2 * n + b) 0
def octetsN : Nat → List Int → List Int
  | 0, _ => []
  | n + 1, bs => octOf (bs.take 8) :: octetsN n (bs.drop 8)
def octetsL (bs : List Int) : List Int := octetsN ((bs.length + 7) / 8) bs
def Oct (os : List Int) : Prop := ∀ o ∈ os, 0 ≤ o ∧ o ≤ 255
def Bit (bs : List Int) : Prop := ∀ b ∈ bs, b = 0 ∨ b = 1
/-- the indices at which the first is 1 and the second 0 -/
def fallenL : Int → List Int → List Int → List Int
  | k, a :: as, b :: bs => if a = 1 ∧ b = 0 then k :: fallenL (k + 1) as bs else fallenL (k + 1) as bs
  | _, _, _ => []
/-- what a mask leaves on the way -/
def turned : List Int → List Int → Int → List Int
  | a :: as, b :: bs, m => if a = b then a :: turned as bs m else (if m % 2 = 1 then b else a) :: turned as bs (m / 2)
  | _, _, _ => []
def unlike : List Int → List Int → Nat
  | a :: as, b :: bs => (if a = b then 0 else 1) + unlike as bs
  | _, _ => 0

theorem bitsOf_bit {o b : Int} (h : b ∈ bitsOf o) : b = 0 ∨ b = 1 := by
  simp only [bitsOf, List.mem_cons, List.not_mem_nil, or_false] at h
  omega
theorem bitsL_bit (os : List Int) : Bit (bitsL os) := by
  intro b h
  obtain ⟨o, _, ho⟩ := List.mem_flatMap.mp h
  exact bitsOf_bit ho
theorem bitsL_nil : bitsL [] = [] := rfl
theorem bitsL_cons (o : Int) (os : List Int) : bitsL (o :: os) = bitsOf o ++ bitsL os := by simp [bitsL]
theorem bitsOf_len (o : Int) : (bitsOf o).length = 8 := rfl
theorem bitsL_len : ∀ os : List Int, (bitsL os).length = 8 * os.length
  | [] => rfl
  | o :: os => by
    rw [bitsL_cons, List.length_append, bitsL_len os, bitsOf_len, List.length_cons]
    omega
theorem bitsL_append (a b : List Int) : bitsL (a ++ b) = bitsL a ++ bitsL b := by simp [bitsL]
theorem octOf_bitsOf {o : Int} (h : 0 ≤ o ∧ o ≤ 255) : octOf (bitsOf o) = o := by
  have key : ∀ n : Fin 256, octOf (bitsOf ((n : Nat) : Int)) = ((n : Nat) : Int) := by decide +kernel
  have e := key ⟨o.toNat, by omega⟩
  have e2 : ((o.toNat : Nat) : Int) = o := Int.toNat_of_nonneg h.1
  simp only [e2] at e
  exact e
theorem eight {bs : List Int} (h : 8 ≤ bs.length) : ∃ a b c d e f g i r, bs = a :: b :: c :: d :: e :: f :: g :: i :: r := by
  match bs, h with
  | a :: b :: c :: d :: e :: f :: g :: i :: r, _ => exact ⟨a, b, c, d, e, f, g, i, r, rfl⟩
theorem octOf8 (a b c d e f g i : Int) : octOf [a, b, c, d, e, f, g, i] = 128 * a + 64 * b + 32 * c + 16 * d + 8 * e + 4 * f + 2 * g + i := by
  simp only [octOf, List.foldl_cons, List.foldl_nil]
  omega
theorem bit_le {x : Int} (h : x = 0 ∨ x = 1) : 0 ≤ x ∧ x ≤ 1 := by omega
theorem bitsOf_octOf {a b c d e f g i : Int} (h : Bit [a, b, c, d, e, f, g, i]) : bitsOf (octOf [a, b, c, d, e, f, g, i]) = [a, b, c, d, e, f, g, i] := by
  obtain ⟨a0, a1⟩ := bit_le (h a (by simp))
  obtain ⟨b0, b1⟩ := bit_le (h b (by simp))
  obtain ⟨c0, c1⟩ := bit_le (h c (by simp))
  obtain ⟨d0, d1⟩ := bit_le (h d (by simp))
  obtain ⟨e0, e1⟩ := bit_le (h e (by simp))
  obtain ⟨f0, f1⟩ := bit_le (h f (by simp))
  obtain ⟨g0, g1⟩ := bit_le (h g (by simp))
  obtain ⟨i0, i1⟩ := bit_le (h i (by simp))
  clear h
  rw [octOf8]
  simp only [bitsOf, List.cons.injEq, and_true]
  refine ⟨?_, ?_, ?_, ?_, ?_, ?_, ?_, ?_⟩ <;> omega
theorem octOf_range {a b c d e f g i : Int} (h : Bit [a, b, c, d, e, f, g, i]) : 0 ≤ octOf [a, b, c, d, e, f, g, i] ∧ octOf [a, b, c, d, e, f, g, i] ≤ 255 := by
  have ha := h a (by simp)
  have hb := h b (by simp)
  have hc := h c (by simp)
  have hd := h d (by simp)
  have he := h e (by simp)
  have hf := h f (by simp)
  have hg := h g (by simp)
  have hi := h i (by simp)
  rw [octOf8]
  omega
theorem Bit.split8 {a b c d e f g i : Int} {r : List Int} (h : Bit (a :: b :: c :: d :: e :: f :: g :: i :: r)) : Bit [a, b, c, d, e, f, g, i] ∧ Bit r := by
  constructor
  · intro x hx
    refine h x ?_
    simp only [List.mem_cons, List.not_mem_nil, or_false] at hx
    simp only [List.mem_cons]
    rcases hx with q | q | q | q | q | q | q | q <;> simp [q]
  · intro x hx
    exact h x (by simp [hx])
/-- bits of octets of bits -/
theorem octetsN_spec : ∀ (n : Nat) (bs : List Int), bs.length = 8 * n → Bit bs → bitsL (octetsN n bs) = bs ∧ Oct (octetsN n bs) ∧ (octetsN n bs).length = n
  | 0, bs, hl, _ => by
    have e : bs = [] := List.eq_nil_of_length_eq_zero (by omega)
    subst e
    exact ⟨rfl, fun _ h => (by cases h), rfl⟩
  | n + 1, bs, hl, hb => by
    obtain ⟨a, b, c, d, e, f, g, i, r, rfl⟩ := eight (bs := bs) (by omega)
    obtain ⟨h1, h2⟩ := hb.split8
    have hr : r.length = 8 * n := by
      simp only [List.length_cons] at hl
      omega
    obtain ⟨i1, i2, i3⟩ := octetsN_spec n r hr h2
    refine ⟨?_, ?_, ?_⟩
    · show bitsL (octOf [a, b, c, d, e, f, g, i] :: octetsN n r) = _
      rw [bitsL_cons, bitsOf_octOf h1, i1]
      rfl
    · intro o ho
      rcases List.mem_cons.mp ho with q | q
      · rw [q]
        exact octOf_range h1
      · exact i2 o q
    · show (octetsN n r).length + 1 = n + 1
      rw [i3]
theorem octetsL_spec {bs : List Int} {n : Nat} (hl : bs.length = 8 * n) (hb : Bit bs) : bitsL (octetsL bs) = bs ∧ Oct (octetsL bs) ∧ (octetsL bs).length = n := by
  have e : (bs.length + 7) / 8 = n := by omega
  unfold octetsL
  rw [e]
  exact octetsN_spec n bs hl hb
theorem octetsL_bitsL : ∀ {os : List Int}, Oct os → octetsL (bitsL os) = os := by
  intro os
  induction os with
  | nil => intro _; rfl
  | cons o os ih =>
    intro h
    have h1 := h o List.mem_cons_self
    have h2 : Oct os := fun x hx => h x (List.mem_cons_of_mem _ hx)
    have i := ih h2
    have l := bitsL_len os
    have l2 := bitsL_len (o :: os)
    unfold octetsL at i ⊢
    have e1 : ((bitsL os).length + 7) / 8 = os.length := by omega
    have e2 : ((bitsL (o :: os)).length + 7) / 8 = os.length + 1 := by
      rw [l2, List.length_cons]
      omega
    rw [e1] at i
    rw [e2, bitsL_cons]
    show octOf ((bitsOf o ++ bitsL os).take 8) :: octetsN os.length ((bitsOf o ++ bitsL os).drop 8) = _
    have t : (bitsOf o ++ bitsL os).take 8 = bitsOf o := by rw [List.take_append_of_le_length (by rw [bitsOf_len]; omega)]; rfl
    have d : (bitsOf o ++ bitsL os).drop 8 = bitsL os := rfl
    rw [t, d, octOf_bitsOf h1, i]
theorem turned_len : ∀ (as bs : List Int) (m : Int), as.length = bs.length → (turned as bs m).length = as.length
  | [], [], _, _ => rfl
  | a :: as, b :: bs, m, h => by
    unfold turned
    have h' : as.length = bs.length := by simpa using h
    split
    · rw [List.length_cons, turned_len as bs m h', List.length_cons]
    · rw [List.length_cons, turned_len as bs _ h', List.length_cons]
  | [], _ :: _, _, h => by simp at h
  | _ :: _, [], _, h => by simp at h
theorem turned_bit : ∀ (as bs : List Int) (m : Int), Bit as → Bit bs → Bit (turned as bs m)
  | [], _, _, _, _ => by
    unfold turned
    intro x h
    cases h
  | _ :: _, [], _, _, _ => by
    unfold turned
    intro x h
    cases h
  | a :: as, b :: bs, m, ha, hb => by
    have h1 := ha a List.mem_cons_self
    have h2 := hb b List.mem_cons_self
    have h3 : Bit as := fun x hx => ha x (List.mem_cons_of_mem _ hx)
    have h4 : Bit bs := fun x hx => hb x (List.mem_cons_of_mem _ hx)
    unfold turned
    split
    · intro x hx
      rcases List.mem_cons.mp hx with q | q
      · rw [q]; exact h1
      · exact turned_bit as bs m h3 h4 x q
    · intro x hx
      rcases List.mem_cons.mp hx with q | q
      · rw [q]
        split
        · exact h2
        · exact h1
      · exact turned_bit as bs _ h3 h4 x q
/-- below at each place -/
def Le : List Int → List Int → Prop
  | a :: as, b :: bs => a ≤ b ∧ Le as bs
  | [], [] => True
  | _, _ => False
theorem Le.refl : ∀ as : List Int, Le as as
  | [] => True.intro
  | a :: as => ⟨Int.le_refl a, Le.refl as⟩
theorem Le.len : ∀ {as bs : List Int}, Le as bs → as.length = bs.length
  | [], [], _ => rfl
  | _ :: as, _ :: bs, h => by rw [List.length_cons, List.length_cons, Le.len h.2]
  | [], _ :: _, h => h.elim
  | _ :: _, [], h => h.elim
/-- where nothing rises from as to bs, what is left lies between -/
theorem turned_down : ∀ {as bs : List Int} (m : Int), Le bs as → Le bs (turned as bs m) ∧ Le (turned as bs m) as
  | [], [], _, _ => ⟨True.intro, True.intro⟩
  | a :: as, b :: bs, m, h => by
    have i1 := turned_down (as := as) (bs := bs) m h.2
    have i2 := turned_down (as := as) (bs := bs) (m / 2) h.2
    have h1 := h.1
    unfold turned
    split
    · rename_i e
      exact ⟨⟨by omega, i1.1⟩, ⟨Int.le_refl a, i1.2⟩⟩
    · refine ⟨⟨?_, i2.1⟩, ⟨?_, i2.2⟩⟩ <;> split <;> omega
  | [], _ :: _, _, h => h.elim
  | _ :: _, [], _, h => h.elim
theorem turned_up : ∀ {as bs : List Int} (m : Int), Le as bs → Le as (turned as bs m) ∧ Le (turned as bs m) bs
  | [], [], _, _ => ⟨True.intro, True.intro⟩
  | a :: as, b :: bs, m, h => by
    have i1 := turned_up (as := as) (bs := bs) m h.2
    have i2 := turned_up (as := as) (bs := bs) (m / 2) h.2
    have h1 := h.1
    unfold turned
    split
    · rename_i e
      exact ⟨⟨Int.le_refl a, i1.1⟩, ⟨by omega, i1.2⟩⟩
    · refine ⟨⟨?_, i2.1⟩, ⟨?_, i2.2⟩⟩ <;> split <;> omega
  | [], _ :: _, _, h => h.elim
  | _ :: _, [], _, h => h.elim
theorem Le.trans : ∀ {as bs cs : List Int}, Le as bs → Le bs cs → Le as cs
  | [], [], [], _, _ => True.intro
  | _ :: _, _ :: _, _ :: _, h, h' => ⟨Int.le_trans h.1 h'.1, h.2.trans h'.2⟩
  | [], _ :: _, _, h, _ => h.elim
  | _ :: _, [], _, h, _ => h.elim
  | [], [], _ :: _, _, h => h.elim
  | _ :: _, _ :: _, [], _, h => h.elim
/-- nothing falls upward -/
theorem fallen_none : ∀ {as bs : List Int} (k : Int), Le as bs → fallenL k as bs = []
  | [], [], _, _ => rfl
  | a :: as, b :: bs, k, h => by
    have h1 := h.1
    unfold fallenL
    rw [if_neg (by omega)]
    exact fallen_none _ h.2
  | [], _ :: _, _, h => h.elim
  | _ :: _, [], _, h => h.elim
def zc (bs : List Int) : Int := ((bs.count 0 : Nat) : Int)
theorem zc_nil : zc [] = 0 := rfl
theorem zc_cons (b : Int) (bs : List Int) : zc (b :: bs) = (if b = 0 then 1 else 0) + zc bs := by
  unfold zc
  rw [List.count_cons]
  by_cases h : b = 0
  · simp [h]
    omega
  · simp [h]
/-- more zeros below, as many only if equal -/
theorem zc_le : ∀ {as bs : List Int}, Bit as → Bit bs → Le as bs → zc bs ≤ zc as ∧ (zc bs = zc as → as = bs)
  | [], [], _, _, _ => ⟨Int.le_refl _, fun _ => rfl⟩
  | a :: as, b :: bs, ha, hb, h => by
    have h1 := ha a List.mem_cons_self
    have h2 := hb b List.mem_cons_self
    have h3 : Bit as := fun x hx => ha x (List.mem_cons_of_mem _ hx)
    have h4 : Bit bs := fun x hx => hb x (List.mem_cons_of_mem _ hx)
    have h5 := h.1
    obtain ⟨i1, i2⟩ := zc_le h3 h4 h.2
    rw [zc_cons, zc_cons]
    rcases h1 with rfl | rfl <;> rcases h2 with rfl | rfl
    · refine ⟨by simp; omega, fun e => ?_⟩
      rw [i2 (by simp at e; omega)]
    · refine ⟨by simp; omega, fun e => ?_⟩
      simp at e
      omega
    · omega
    · refine ⟨by simp; omega, fun e => ?_⟩
      rw [i2 (by simp at e; omega)]
  | [], _ :: _, _, _, h => h.elim
  | _ :: _, [], _, _, h => h.elim
/-- zeros: what falls more, what rises less -/
theorem zc_diff : ∀ (as bs : List Int) (k l : Int), Bit as → Bit bs → as.length = bs.length → zc bs = zc as + ((fallenL k as bs).length : Int) - ((fallenL l bs as).length : Int)
  | [], [], _, _, _, _, _ => rfl
  | a :: as, b :: bs, k, l, ha, hb, hl => by
    have h1 := ha a List.mem_cons_self
    have h2 := hb b List.mem_cons_self
    have h3 : Bit as := fun x hx => ha x (List.mem_cons_of_mem _ hx)
    have h4 : Bit bs := fun x hx => hb x (List.mem_cons_of_mem _ hx)
    have i := zc_diff as bs (k + 1) (l + 1) h3 h4 (by simpa using hl)
    unfold fallenL
    rw [zc_cons, zc_cons]
    rcases h1 with rfl | rfl <;> rcases h2 with rfl | rfl <;> simp <;> omega
  | [], _ :: _, _, _, _, _, hl => by simp at hl
  | _ :: _, [], _, _, _, _, hl => by simp at hl
/-- both sets empty: equal -/
theorem fallen_both : ∀ (as bs : List Int) (k l : Int), Bit as → Bit bs → as.length = bs.length → fallenL k as bs = [] → fallenL l bs as = [] → as = bs
  | [], [], _, _, _, _, _, _, _ => rfl
  | a :: as, b :: bs, k, l, ha, hb, hl, e1, e2 => by
    have h1 := ha a List.mem_cons_self
    have h2 := hb b List.mem_cons_self
    have h3 : Bit as := fun x hx => ha x (List.mem_cons_of_mem _ hx)
    have h4 : Bit bs := fun x hx => hb x (List.mem_cons_of_mem _ hx)
    unfold fallenL at e1 e2
    rcases h1 with rfl | rfl <;> rcases h2 with rfl | rfl
    · simp at e1 e2
      rw [fallen_both as bs _ _ h3 h4 (by simpa using hl) e1 e2]
    · simp at e2
    · simp at e1
    · simp at e1 e2
      rw [fallen_both as bs _ _ h3 h4 (by simpa using hl) e1 e2]
  | [], _ :: _, _, _, _, _, hl, _, _ => by simp at hl
  | _ :: _, [], _, _, _, _, hl, _, _ => by simp at hl
theorem fallen_self : ∀ (as : List Int) (k : Int), fallenL k as as = []
  | [], _ => rfl
  | a :: as, k => by
    unfold fallenL
    rw [if_neg (by omega)]
    exact fallen_self as _
theorem fallen_len : ∀ (as bs : List Int) (k : Int), (fallenL k as bs).length ≤ as.length
  | [], _, _ => by simp [fallenL]
  | _ :: _, [], _ => by simp [fallenL]
  | a :: as, b :: bs, k => by
    unfold fallenL
    have i := fallen_len as bs (k + 1)
    split <;> simp only [List.length_cons] <;> omega
/-- the mask of no bit, and one that reaches beyond all -/
theorem turned_zero : ∀ (as bs : List Int), as.length = bs.length → turned as bs 0 = as
  | [], [], _ => rfl
  | a :: as, b :: bs, h => by
    have h' : as.length = bs.length := by simpa using h
    unfold turned
    split
    · rw [turned_zero as bs h']
    · have e : (0 : Int) / 2 = 0 := rfl
      rw [if_neg (by decide), e, turned_zero as bs h']
  | [], _ :: _, h => by simp at h
  | _ :: _, [], h => by simp at h
theorem unlike_eq : ∀ (as bs : List Int) (k l : Int), Bit as → Bit bs → as.length = bs.length → unlike as bs = (fallenL k as bs).length + (fallenL l bs as).length
  | [], [], _, _, _, _, _ => rfl
  | a :: as, b :: bs, k, l, ha, hb, hl => by
    have h1 := ha a List.mem_cons_self
    have h2 := hb b List.mem_cons_self
    have h3 : Bit as := fun x hx => ha x (List.mem_cons_of_mem _ hx)
    have h4 : Bit bs := fun x hx => hb x (List.mem_cons_of_mem _ hx)
    have i := unlike_eq as bs (k + 1) (l + 1) h3 h4 (by simpa using hl)
    unfold fallenL unlike
    rcases h1 with rfl | rfl <;> rcases h2 with rfl | rfl <;> simp <;> omega
  | [], _ :: _, _, _, _, _, hl => by simp at hl
  | _ :: _, [], _, _, _, _, hl => by simp at hl
theorem pow2_odd (n : Nat) : ((2 : Int) ^ (n + 1) - 1) % 2 = 1 ∧ ((2 : Int) ^ (n + 1) - 1) / 2 = 2 ^ n - 1 := by
  have e : (2 : Int) ^ (n + 1) = 2 * 2 ^ n := by rw [Int.pow_succ]; omega
  omega
/-- all ones up to the last unlike bit: the new ones -/
theorem turned_ones : ∀ (as bs : List Int) (n : Nat), as.length = bs.length → unlike as bs ≤ n → turned as bs (2 ^ n - 1) = bs
  | [], [], _, _, _ => rfl
  | a :: as, b :: bs, n, h, hu => by
    have h' : as.length = bs.length := by simpa using h
    unfold unlike at hu
    unfold turned
    split
    · rename_i e
      rw [if_pos e] at hu
      rw [turned_ones as bs n h' (by omega), e]
    · rename_i e
      rw [if_neg e] at hu
      obtain ⟨k, rfl⟩ : ∃ k, n = k + 1 := ⟨n - 1, by omega⟩
      obtain ⟨o1, o2⟩ := pow2_odd k
      rw [if_pos o1, o2, turned_ones as bs k h' (by omega)]
  | [], _ :: _, _, h, _ => by simp at h
  | _ :: _, [], _, h, _ => by simp at h
/-- a mask whose first n bits are 0, where at most n bits are unlike: nothing turns -/
theorem turned_beyond : ∀ (as bs : List Int) (n : Nat), as.length = bs.length → unlike as bs ≤ n → turned as bs (2 ^ n) = as
  | [], [], _, _, _ => rfl
  | a :: as, b :: bs, n, h, hu => by
    have h' : as.length = bs.length := by simpa using h
    unfold unlike at hu
    unfold turned
    split
    · rename_i e
      rw [if_pos e] at hu
      rw [turned_beyond as bs n h' (by omega)]
    · rename_i e
      rw [if_neg e] at hu
      obtain ⟨k, rfl⟩ : ∃ k, n = k + 1 := ⟨n - 1, by omega⟩
      have e1 : (2 : Int) ^ (k + 1) = 2 * 2 ^ k := by rw [Int.pow_succ]; omega
      have e2 : ((2 : Int) ^ (k + 1)) % 2 = 0 := by omega
      have e3 : ((2 : Int) ^ (k + 1)) / 2 = 2 ^ k := by omega
      rw [if_neg (by omega), e3, turned_beyond as bs k h' (by omega)]
  | [], _ :: _, _, h, _ => by simp at h
  | _ :: _, [], _, h, _ => by simp at h
/-- 4096 ones: the first 4096 unlike bits turn, the others stay -/
theorem turned_first : ∀ (n m : Nat), turned (List.replicate (n + m) 1) (List.replicate (n + m) 0) (2 ^ n - 1) = List.replicate n 0 ++ List.replicate m 1
  | 0, m => by
    have e : ((2 : Int) ^ 0 - 1) = 0 := rfl
    rw [e, Nat.zero_add, turned_zero _ _ (by simp)]
    simp
  | n + 1, m => by
    have e : n + 1 + m = (n + m) + 1 := by omega
    rw [e, List.replicate_succ, List.replicate_succ, List.replicate_succ]
    unfold turned
    obtain ⟨o1, o2⟩ := pow2_odd n
    rw [if_neg (by decide), if_pos o1, o2, turned_first n m]
    rfl
theorem fold_bound : ∀ (l : List Int) (n : Int), Bit l → 0 ≤ n → 0 ≤ l.foldl (fun n b => 2 * n + b) n ∧ l.foldl (fun n b => 2 * n + b) n + 1 ≤ (n + 1) * 2 ^ l.length
  | [], n, _, h => by simp [h]
  | b :: l, n, hb, h => by
    have h1 := hb b List.mem_cons_self
    have h2 : Bit l := fun x hx => hb x (List.mem_cons_of_mem _ hx)
    obtain ⟨i1, i2⟩ := fold_bound l (2 * n + b) h2 (by omega)
    refine ⟨i1, ?_⟩
    rw [List.foldl_cons, List.length_cons, Int.pow_succ]
    have p : (0 : Int) ≤ 2 ^ l.length := Int.pow_nonneg (by decide)
    have m : (2 * n + b + 1) * 2 ^ l.length ≤ (2 * (n + 1)) * 2 ^ l.length := Int.mul_le_mul_of_nonneg_right (by omega) p
    have e : (2 * (n + 1)) * 2 ^ l.length = (n + 1) * (2 ^ l.length * 2) := by
      rw [Int.mul_comm 2 (n + 1), Int.mul_assoc, Int.mul_comm 2]
    omega
theorem octOf_bound {l : List Int} (h : Bit l) (hl : l.length ≤ 8) : 0 ≤ octOf l ∧ octOf l < 256 := by
  obtain ⟨h1, h2⟩ := fold_bound l 0 h (Int.le_refl 0)
  have p : (2 : Int) ^ l.length ≤ 2 ^ 8 := by
    have q : (2 : Nat) ^ l.length ≤ 2 ^ 8 := Nat.pow_le_pow_right (by decide) hl
    exact_mod_cast q
  have e : (2 : Int) ^ 8 = 256 := rfl
  unfold octOf
  omega
theorem Bit.take {l : List Int} (h : Bit l) (n : Nat) : Bit (l.take n) := fun x hx => h x (List.mem_of_mem_take hx)
theorem Bit.drop {l : List Int} (h : Bit l) (n : Nat) : Bit (l.drop n) := fun x hx => h x (List.mem_of_mem_drop hx)
end BM
/-! bits of octets and the operators on bits -/
namespace BM
/-- bit k of a number, as an int -/
def tb (n k : Nat) : Int := if n.testBit k then 1 else 0
theorem tb_div (n k : Nat) : ((n : Int) / ((2 ^ k : Nat) : Int)) % 2 = tb n k := by
  unfold tb
  rw [Nat.testBit_eq_decide_div_mod_eq]
  have e : ((n : Int) / ((2 ^ k : Nat) : Int)) % 2 = ((n / 2 ^ k % 2 : Nat) : Int) := by simp
  rw [e]
  by_cases h : n / 2 ^ k % 2 = 1
  · rw [h]
    simp
  · have h0 : n / 2 ^ k % 2 = 0 := by omega
    rw [h0]
    simp
theorem bitsOf_tb (n : Nat) : bitsOf (n : Int) = [tb n 7, tb n 6, tb n 5, tb n 4, tb n 3, tb n 2, tb n 1, tb n 0] := by
  have h7 := tb_div n 7
  have h6 := tb_div n 6
  have h5 := tb_div n 5
  have h4 := tb_div n 4
  have h3 := tb_div n 3
  have h2 := tb_div n 2
  have h1 := tb_div n 1
  have h0 := tb_div n 0
  unfold bitsOf
  rw [← h7, ← h6, ← h5, ← h4, ← h3, ← h2, ← h1, ← h0]
  rfl
theorem tb_bit (n k : Nat) : tb n k = 0 ∨ tb n k = 1 := by
  unfold tb
  split
  · exact .inr rfl
  · exact .inl rfl
theorem tb_and (a b k : Nat) : tb (a &&& b) k = if tb a k = 1 ∧ tb b k = 1 then 1 else 0 := by
  unfold tb
  rw [Nat.testBit_and]
  cases a.testBit k <;> cases b.testBit k <;> simp
theorem tb_or (a b k : Nat) : tb (a ||| b) k = if tb a k = 1 ∨ tb b k = 1 then 1 else 0 := by
  unfold tb
  rw [Nat.testBit_or]
  cases a.testBit k <;> cases b.testBit k <;> simp
theorem tb_xor (a b k : Nat) : tb (a ^^^ b) k = if tb a k = tb b k then 0 else 1 := by
  unfold tb
  rw [Nat.testBit_xor]
  cases a.testBit k <;> cases b.testBit k <;> simp
theorem le_app : ∀ {a b c d : List Int}, Le a b → Le c d → Le (a ++ c) (b ++ d)
  | [], [], _, _, _, h => h
  | _ :: _, _ :: _, _, _, h, h' => ⟨h.1, le_app h.2 h'⟩
  | [], _ :: _, _, _, h, _ => h.elim
  | _ :: _, [], _, _, h, _ => h.elim
theorem and_le (a b : Nat) : Le (bitsOf ((a &&& b : Nat) : Int)) (bitsOf (a : Int)) := by
  have key : ∀ k, tb (a &&& b) k ≤ tb a k := by
    intro k
    rw [tb_and]
    have := tb_bit a k
    split <;> omega
  rw [bitsOf_tb, bitsOf_tb]
  exact ⟨key 7, key 6, key 5, key 4, key 3, key 2, key 1, key 0, True.intro⟩
theorem le_or (a b : Nat) : Le (bitsOf (a : Int)) (bitsOf ((a ||| b : Nat) : Int)) := by
  have key : ∀ k, tb a k ≤ tb (a ||| b) k := by
    intro k
    rw [tb_or]
    have := tb_bit a k
    split <;> omega
  rw [bitsOf_tb, bitsOf_tb]
  exact ⟨key 7, key 6, key 5, key 4, key 3, key 2, key 1, key 0, True.intro⟩
theorem bits255 : bitsOf 255 = [1, 1, 1, 1, 1, 1, 1, 1] := by decide
theorem le_255 (o : Int) : Le (bitsOf o) (bitsOf 255) := by
  have key : ∀ b ∈ bitsOf o, b ≤ 1 := fun b hb => by
    have := bitsOf_bit hb
    omega
  rw [bits255]
  unfold bitsOf at key ⊢
  exact ⟨key _ (by simp), key _ (by simp), key _ (by simp), key _ (by simp), key _ (by simp), key _ (by simp), key _ (by simp), key _ (by simp), True.intro⟩
/-- lists of octets, pair by pair -/
theorem bitsL_le : ∀ {xs ys : List Int}, xs.length = ys.length → (∀ p ∈ xs.zip ys, Le (bitsOf p.1) (bitsOf p.2)) → Le (bitsL xs) (bitsL ys)
  | [], [], _, _ => True.intro
  | x :: xs, y :: ys, hl, h => by
    rw [bitsL_cons, bitsL_cons]
    exact le_app (h (x, y) (by simp)) (bitsL_le (by simpa using hl) fun p hp => h p (by simp [hp]))
  | [], _ :: _, hl, _ => by simp at hl
  | _ :: _, [], hl, _ => by simp at hl
theorem nat_of {o : Int} (h : 0 ≤ o) : ∃ n : Nat, o = n := ⟨o.toNat, by omega⟩
theorem and_oct {a b : Nat} (ha : a ≤ 255) : (a &&& b) ≤ 255 := Nat.le_trans Nat.and_le_left ha
theorem or_oct {a b : Nat} (ha : a ≤ 255) (hb : b ≤ 255) : (a ||| b) ≤ 255 := by
  have h : (a ||| b) < 2 ^ 8 := Nat.or_lt_two_pow (by omega) (by omega)
  omega
theorem xor_oct {a b : Nat} (ha : a ≤ 255) (hb : b ≤ 255) : (a ^^^ b) ≤ 255 := by
  have h : (a ^^^ b) < 2 ^ 8 := Nat.xor_lt_two_pow (by omega) (by omega)
  omega
/-- one more bit -/
theorem fallen_snoc : ∀ (as bs : List Int) (k x y : Int), as.length = bs.length → fallenL k (as ++ [x]) (bs ++ [y]) = fallenL k as bs ++ (if x = 1 ∧ y = 0 then [k + (as.length : Int)] else [])
  | [], [], k, x, y, _ => by
    simp [fallenL]
  | a :: as, b :: bs, k, x, y, h => by
    have i := fallen_snoc as bs (k + 1) x y (by simpa using h)
    rw [List.cons_append, List.cons_append]
    unfold fallenL
    have e : k + 1 + (as.length : Int) = k + ((a :: as).length : Int) := by
      rw [List.length_cons]
      omega
    rw [e] at i
    split <;> simp [i]
  | [], _ :: _, _, _, _, h => by simp at h
  | _ :: _, [], _, _, _, h => by simp at h
end BM
/-! bits that are 1, bits that are unlike, one bit turned -/
namespace BM
/-- the indices of the ones, from k on -/
def onesL : Int → List Int → List Int
  | _, [] => []
  | k, b :: r => if b = 1 then k :: onesL (k + 1) r else onesL (k + 1) r
/-- the indices of the unlike ones -/
def diffL : Int → List Int → List Int → List Int
  | k, a :: as, b :: bs => if a = b then diffL (k + 1) as bs else k :: diffL (k + 1) as bs
  | _, _, _ => []
theorem onesL_app : ∀ (a b : List Int) (k : Int), onesL k (a ++ b) = onesL k a ++ onesL (k + (a.length : Int)) b
  | [], b, k => by simp [onesL]
  | x :: a, b, k => by
    have e : k + ((x :: a).length : Int) = k + 1 + (a.length : Int) := by simp; omega
    rw [List.cons_append, onesL, onesL, onesL_app a b (k + 1), e]
    split <;> simp
theorem onesL_snoc (a : List Int) (x : Int) : onesL 0 (a ++ [x]) = onesL 0 a ++ (if x = 1 then [(a.length : Int)] else []) := by
  rw [onesL_app]
  simp [onesL]
theorem onesL_len : ∀ (a : List Int) (k : Int), (onesL k a).length ≤ a.length
  | [], k => by simp [onesL]
  | x :: a, k => by
    have := onesL_len a (k + 1)
    rw [onesL]
    split <;> simp <;> omega
/-- of two bits -/
theorem ones_of {f : Int → Int → Int} (P : List Int → List Int → Int → List Int) (c : Int → Int → Prop) [∀ a b, Decidable (c a b)] (h0 : ∀ k, P [] [] k = []) (h1 : ∀ a as b bs k, P (a :: as) (b :: bs) k = if c a b then k :: P as bs (k + 1) else P as bs (k + 1))
    (h : ∀ a b, (a = 0 ∨ a = 1) → (b = 0 ∨ b = 1) → (f a b = 1 ↔ c a b)) : ∀ (as bs : List Int) (k : Int), as.length = bs.length → Bit as → Bit bs → onesL k (List.zipWith f as bs) = P as bs k
  | [], [], k, _, _, _ => by simp [onesL, h0]
  | [], _ :: _, k, e, _, _ => by simp at e
  | _ :: _, [], k, e, _, _ => by simp at e
  | a :: as, b :: bs, k, e, ha, hb => by
    have r := ones_of P c h0 h1 h as bs (k + 1) (by simpa using e) (fun x hx => ha x (List.mem_cons_of_mem _ hx)) (fun x hx => hb x (List.mem_cons_of_mem _ hx))
    have q := h a b (ha a (List.mem_cons_self ..)) (hb b (List.mem_cons_self ..))
    rw [List.zipWith_cons_cons, onesL, h1, r]
    by_cases z : c a b
    · rw [if_pos z, if_pos (q.mpr z)]
    · rw [if_neg z, if_neg (fun y => z (q.mp y))]
/-- the bits of two lists of octets, put together -/
theorem bitsL_both {g : Int → Int → Int} {f : Int → Int → Int} (h : ∀ x y, 0 ≤ x ∧ x ≤ 255 → 0 ≤ y ∧ y ≤ 255 → bitsOf (g x y) = List.zipWith f (bitsOf x) (bitsOf y)) :
    ∀ xs ys : List Int, Oct xs → Oct ys → bitsL ((xs.zip ys).map fun p => g p.1 p.2) = List.zipWith f (bitsL xs) (bitsL ys)
  | [], ys, _, _ => by simp [bitsL]
  | x :: xs, [], _, _ => by simp [bitsL]
  | x :: xs, y :: ys, hx, hy => by
    have r := bitsL_both h xs ys (fun o ho => hx o (List.mem_cons_of_mem _ ho)) (fun o ho => hy o (List.mem_cons_of_mem _ ho))
    have q := h x y (hx x (List.mem_cons_self ..)) (hy y (List.mem_cons_self ..))
    rw [List.zip_cons_cons, List.map_cons, bitsL_cons, bitsL_cons, bitsL_cons, r, q, List.zipWith_append (by rw [bitsOf_len, bitsOf_len])]
/-- where lists part -/
theorem diff_at : ∀ (as bs : List Int) (k p : Int) (rest : List Int), as.length = bs.length → diffL k as bs = p :: rest →
    ∃ (pre : List Int) (x y : Int) (as' bs' : List Int), as = pre ++ x :: as' ∧ bs = pre ++ y :: bs' ∧ x ≠ y ∧ p = k + (pre.length : Int) ∧ rest = diffL (p + 1) as' bs' ∧ as'.length = bs'.length ∧
      ∀ m, turned as bs m = pre ++ (if m % 2 = 1 then y else x) :: turned as' bs' (m / 2)
  | [], _, k, p, rest, _, h => by simp [diffL] at h
  | _ :: _, [], k, p, rest, e, h => by simp at e
  | a :: as, b :: bs, k, p, rest, e, h => by
    rw [diffL] at h
    by_cases z : a = b
    · rw [if_pos z] at h
      obtain ⟨pre, x, y, as', bs', h1, h2, h3, h4, h5, h6, h7⟩ := diff_at as bs (k + 1) p rest (by simpa using e) h
      refine ⟨a :: pre, x, y, as', bs', by rw [h1]; rfl, by rw [h2, z]; rfl, h3, by simp; omega, h5, h6, fun m => ?_⟩
      rw [turned, if_pos z, h7 m]
      rfl
    · rw [if_neg z] at h
      obtain ⟨rfl, rfl⟩ := List.cons.inj h
      refine ⟨[], a, b, as, bs, rfl, rfl, z, by simp, rfl, by simpa using e, fun m => ?_⟩
      rw [turned, if_neg z]
      rfl
theorem diff_nil : ∀ (as bs : List Int) (k : Int), as.length = bs.length → diffL k as bs = [] → as = bs
  | [], [], k, _, _ => rfl
  | [], _ :: _, k, e, h => by simp at e
  | _ :: _, [], k, e, h => by simp at e
  | a :: as, b :: bs, k, e, h => by
    rw [diffL] at h
    by_cases z : a = b
    · rw [if_pos z] at h
      rw [z, diff_nil as bs (k + 1) (by simpa using e) h]
    · rw [if_neg z] at h
      cases h
theorem turned_same : ∀ (as : List Int) (m : Int), turned as as m = as
  | [], m => by simp [turned]
  | a :: as, m => by rw [turned, if_pos rfl, turned_same as m]
/-- the j-th bit of an octet -/
theorem bit_at : ∀ o : Nat, o < 256 → ∀ j : Nat, j < 8 → (bitsOf (o : Int))[j]? = some (((o &&& (128 / 2 ^ j)) / (128 / 2 ^ j) : Nat) : Int) := by decide +kernel
theorem bit_on : ∀ o : Nat, o < 256 → ∀ j : Nat, j < 8 → (o &&& (128 / 2 ^ j) ≠ 0 ↔ (bitsOf (o : Int))[j]? = some 1) := by decide +kernel
theorem bit_turn : ∀ o : Nat, o < 256 → ∀ j : Nat, j < 8 → o ^^^ (128 / 2 ^ j) < 256 ∧ bitsOf ((o ^^^ (128 / 2 ^ j) : Nat) : Int) = (bitsOf (o : Int)).set j (1 - (bitsOf (o : Int)).getD j 0) := by decide +kernel
theorem bitsL_get : ∀ (os : List Int) (i j : Nat), j < 8 → (bitsL os)[8 * i + j]? = (os[i]?).bind fun o => (bitsOf o)[j]?
  | [], i, j, _ => by simp [bitsL]
  | o :: os, 0, j, h => by
    rw [bitsL_cons, Nat.mul_zero, Nat.zero_add, List.getElem?_append_left (by rw [bitsOf_len]; exact h)]
    simp
  | o :: os, i + 1, j, h => by
    have e : 8 * (i + 1) + j = 8 + (8 * i + j) := by omega
    rw [bitsL_cons, e, List.getElem?_append_right (by rw [bitsOf_len]; omega), bitsOf_len, Nat.add_sub_cancel_left, bitsL_get os i j h]
    simp
theorem bitsL_set : ∀ (os : List Int) (i j : Nat) (o o' : Int) (b : Int), j < 8 → os[i]? = some o → bitsOf o' = (bitsOf o).set j b → bitsL (os.set i o') = (bitsL os).set (8 * i + j) b
  | [], i, j, o, o', b, _, h, _ => by simp at h
  | x :: os, 0, j, o, o', b, hj, h, q => by
    have e : x = o := by simpa using h
    subst e
    rw [List.set_cons_zero, bitsL_cons, bitsL_cons, q, Nat.mul_zero, Nat.zero_add, List.set_append_left _ _ (by rw [bitsOf_len]; exact hj)]
  | x :: os, i + 1, j, o, o', b, hj, h, q => by
    have e : 8 * (i + 1) + j = 8 + (8 * i + j) := by omega
    have h' : os[i]? = some o := by simpa using h
    rw [List.set_cons_succ, bitsL_cons, bitsL_cons, bitsL_set os i j o o' b hj h' q, e, List.set_append_right _ _ (by rw [bitsOf_len]; omega), bitsOf_len, Nat.add_sub_cancel_left]
end BM
/-! f'{n:b}', n an octet -/
namespace PySem.W
open PySem PySem.Calls PyProof.Rows
open Builtin Builtin.Str Builtin.Int Builtin.Float
/-- the binary text of n -/
def binT (n : Nat) : PySem.Str := ⟨((Nat.toDigits 2 n).map Char.toNat).toArray⟩
theorem binT_len : ∀ n : Nat, n < 256 → (binT n).length ≤ 8 := by decide +kernel
theorem meets_bin' {spec : PySem.Str} {f : FormatSpec} (n : Nat) (hn : n < 256) (t u : Tok) (hne : (spec.length == 0) = false)
    (hasc : ((spec.cps.toList.drop 1).any (· ≥ 128) || (spec.cps.getD 0 0 ≥ 128 && !([60, 62, 61, 94] : List Nat).contains (spec.cps.getD 1 0))) = false)
    (hp : parseFormatSpec spec.cps.toList "int" 62 = .ok f) (hf : f = { align := 62, type := some 98 }) :
    Meets (Builtin.«int.__format__» ⟨[.int (n : Int) t, .str spec u], []⟩) (fun _ R s => ∀ t' k, R (.ok (.ret (.str (binT n) t'))) { s with toks := k }) := by
  apply KPc.meets_of
  intro prog w A s Q E h
  unfold Builtin.«int.__format__»
  simp only [selfAndOne, noKeywords, Int.intOfSelf, asInt?, asStr?, List.isEmpty_nil, if_true, pure_bind, bind_pure, bind_assoc, hne, hasc, Bool.false_eq_true, if_false,
    show (Value.str spec u == Value.none) = false from rfl]
  refine wpAny_bind (wpAny_typeNameOf (T := "str") (typeIs_str _ _ _) (by decide) fun _ => ?_)
  refine wpAny_bind (wpAny_typeNameOfCut_int ?_)
  simp only [hp]
  have hty : f.type = some 98 := by rw [hf]
  simp only [hty, Option.getD_some]
  rw [if_pos (by decide)]
  have hpr : f.precision = none := by rw [hf]
  have hz : f.noNeg0 = false := by rw [hf]
  have hal : f.alt = false := by rw [hf]
  have hw : f.width.getD 0 = 0 := by rw [hf]; rfl
  clear hp hasc hne
  show wpAny _ _ (if _ then _ else _) _ _ _
  rw [if_neg (by simp [hpr])]
  show wpAny _ _ (if _ then _ else _) _ _ _
  rw [if_neg (by simp [hz])]
  show wpAny _ _ (if _ then _ else _) _ _ _
  rw [if_neg (by decide)]
  show wpAny _ _ (if _ then _ else _) _ _ _
  rw [if_neg (by decide)]
  show wpAny _ _ (if _ then _ else _) _ _ _
  rw [if_neg (by omega)]
  refine KXf.ret_text (T := binT n) ?_ ?_ h
  · clear h
    subst hf
    clear hty hpr hz hal hw
    revert n
    decide +kernel
  · clear h
    subst hf
    clear hty hpr hz hal hw
    revert n
    decide +kernel
/-- {e:b}, a field of an octet -/
theorem bin_field {prog : Program} {w : World} {A : Around} {E : Value → Shared → Prop} {s : Shared} {n : Nat} {t : Tok} {Q : Value → Shared → Prop} (hn : n < 256) (h : ∀ t' k, Q (.str (binT n) t') { s with toks := k }) :
    wpAny (model prog w) A (formatField (.int (n : Int) t) "b") Q E s :=
  KXf.field_meets (by decide) (fun s' => typeIs_int s' n t) F.slot_int_format F.entry_int_format F.args_int_format_2 (by decide) (fun u => meets_bin' n hn t u (by decide) (by decide) (by rfl) rfl) h
theorem bin_count : ∀ n : Nat, n < 256 → PySem.Txt.count (binT n) "1" = (([n / 128 % 2, n / 64 % 2, n / 32 % 2, n / 16 % 2, n / 8 % 2, n / 4 % 2, n / 2 % 2, n / 1 % 2].count 1 : Nat) : Int) := by decide +kernel
end PySem.W
namespace VB
open PySem PySem.Spec PyProof.Rows L2
section
variable {X : Cx} {e : Expr} {te : TE} {p1 p2 p3 p4 : Pos} {j : Nat}
/-- f'{e:b}', e an octet -/
def tBin (te : TE) : TE := fun σ H Q => te σ H fun x H1 => ∃ n : Nat, x = .int (n : Int) ∧ n < 256 ∧ Q (.str (PySem.W.binT n)) H1
theorem pe_bin (he : PE X e te) : PE X (.JoinedStr [.FormattedValue e (-1) (some (.JoinedStr [.Constant (.str "b") j p1] p2)) p3] p4) (tBin te) := by
  refine pe_joined1 ⟨fun pins s σ H Q I h => wpAny_FormattedValue_spec (thn (he.run pins s σ H _ I h) fun v s1 hv => ?_)⟩
  obtain ⟨x, H1, I1, r1, n, rfl, hn, q⟩ := hv
  obtain ⟨t, rfl⟩ := r1
  refine thn ((pe_joined1 (pos := p2) (pe_str (x := "b") (j := j) (pos := p1))).run pins s1 σ H1 (fun y H2 => y = .str "b" ∧ H2 = H1) I1 ⟨rfl, rfl⟩) fun w s2 hw => ?_
  obtain ⟨y, H2, I2, r2, rfl, rfl⟩ := hw
  obtain ⟨t2, rfl⟩ := r2
  exact ⟨_, _, rfl, PySem.W.bin_field hn fun t' k => ⟨.str (PySem.W.binT n), H2, I2.tok _, ⟨_, rfl⟩, q⟩⟩
end
end VB
/-! zip of two sequences, each a list or a tuple -/
namespace VB
open PySem PySem.Spec PyProof.Rows L2
/-- a list (false) or a tuple (true) at l -/
def Sq (t : Bool) (h : Heap) (l : Addr) (xs : Array Value) : Prop := match t with
  | false => h.IsList l xs
  | true => h.IsTuple l xs
/-- its iterator at i, at the k-th place -/
def Si (t : Bool) (h : Heap) (i l : Addr) (k : Nat) : Prop := match t with
  | false => h.IsListIter i l k
  | true => h.IsTupleIter i l k
section
variable {t u : Bool} {h h' : Heap} {i l b : Addr} {k : Nat} {xs ys : Array Value}
theorem Sq.ext (x : Sq t h l xs) (e : Heap.ExtBut b h h') (n : l ≠ b) : Sq t h' l xs := by
  cases t with
  | false => exact Heap.IsList.extBut (show h.IsList l xs from x) e n
  | true => exact Heap.IsTuple.extBut (show h.IsTuple l xs from x) e n
theorem Si.ext (x : Si t h i l k) (e : Heap.ExtBut b h h') (n : i ≠ b) : Si t h' i l k := by
  cases t with
  | false => exact Heap.IsListIter.extBut (show h.IsListIter i l k from x) e n
  | true => exact Heap.IsTupleIter.extBut (show h.IsTupleIter i l k from x) e n
theorem Sq.psh (x : Sq t h l xs) (o : Obj) : Sq t (h.push o) l xs := by
  cases t with
  | false => exact Heap.IsList.push (show h.IsList l xs from x) o
  | true => exact Heap.IsTuple.push (show h.IsTuple l xs from x) o
theorem Si.stay (x : Si t h i l k) (e : ∀ o, h.get? i = some o → h'.get? i = some o) : Si t h' i l k := by
  cases t with
  | false => exact Heap.IsListIter.at (show h.IsListIter i l k from x) e
  | true => exact Heap.IsTupleIter.at (show h.IsTupleIter i l k from x) e
theorem Si.obj (x : Si t h i l k) : ∃ o, h.get? i = some o ∧ ∀ v, o.data ≠ .cell v := by
  cases t with
  | false =>
    obtain ⟨o, e, _, d⟩ := (show h.IsListIter i l k from x)
    exact ⟨o, e, fun v q => by rw [d] at q; cases q⟩
  | true =>
    obtain ⟨o, e, _, d⟩ := (show h.IsTupleIter i l k from x)
    exact ⟨o, e, fun v q => by rw [d] at q; cases q⟩
end
section
variable {prog : Program} {w : World} {A : Around} {E : Value → Shared → Prop} {s : Shared} {t u : Bool}
  {z T1 T2 i1 i2 l1 l2 : Addr} {k1 k2 : Nat} {xs ys : Array Value} {x y c d : Value}
theorem draw_item {it l : Addr} {k : Nat} {Q : Value → Shared → Prop} (hi : Si t s.heap it l k) (hl : Sq t s.heap l xs)
    (hx : xs[k]? = some x) (hq : ∀ h', Si t h' it l (k + 1) → Heap.SameBut it s.heap h' → Q x { s with heap := h' }) :
    wpAny (model prog w) A (Builtin.SmallTypes.nextOf (.ref it)) Q E s := by
  cases t with
  | false => exact wpAny_nextOf_list_item (show s.heap.IsListIter it l k from hi) (show s.heap.IsList l xs from hl) hx hq
  | true => exact RZ.nextOf_tuple_item (show s.heap.IsTupleIter it l k from hi) (show s.heap.IsTuple l xs from hl) hx hq
theorem draw_end {it l : Addr} {k : Nat} {Q : Value → Shared → Prop} (hh : A.handled = none) (hi : Si t s.heap it l k)
    (hl : Sq t s.heap l xs) (hx : xs[k]? = none)
    (he : ∀ h' e, Heap.ExtBut it s.heap h' → (∃ o, h'.get? e = some o ∧ o.cls = .type "StopIteration") → E (.ref e) { s with heap := h' }) :
    wpAny (model prog w) A (Builtin.SmallTypes.nextOf (.ref it)) Q E s := by
  cases t with
  | false => exact wpAny_nextOf_list_end hh (show s.heap.IsListIter it l k from hi) (show s.heap.IsList l xs from hl) hx he
  | true => exact RZ.nextOf_tuple_end hh (show s.heap.IsTupleIter it l k from hi) (show s.heap.IsTuple l xs from hl) hx he

/-- what a turn of the zip object leaves -/
structure ZTurn (t u : Bool) (h h' : Heap) (z T1 T2 i1 i2 l1 l2 : Addr) (k1 k2 : Nat) (x y : Value) : Prop where
  zip : IsZip h' z T1 T2 (rawInt h.objs.size)
  out : IsPair h' T2 x y
  it1 : Si t h' i1 l1 (k1 + 1)
  it2 : Si u h' i2 l2 (k2 + 1)
  new : IsPair h' h.objs.size x y
  size : h'.objs.size = h.objs.size + 1
  keep : ∀ b o, b ≠ z → b ≠ T2 → b ≠ i1 → b ≠ i2 → h.get? b = some o → h'.get? b = some o

theorem zmix_item {Q : Value → Shared → Prop} (D : ZipApart z T1 T2 i1 i2 l1 l2) (hz : IsZip s.heap z T1 T2 .none)
    (h1 : IsPair s.heap T1 (.ref i1) (.ref i2)) (h2 : IsPair s.heap T2 c d) (a1 : Si t s.heap i1 l1 k1) (a2 : Si u s.heap i2 l2 k2)
    (b1 : Sq t s.heap l1 xs) (b2 : Sq u s.heap l2 ys) (hx : xs[k1]? = some x) (hy : ys[k2]? = some y)
    (hq : ∀ h', ZTurn t u s.heap h' z T1 T2 i1 i2 l1 l2 k1 k2 x y → Q (.ref s.heap.objs.size) { s with heap := h' }) :
    wpAny (model prog w) A (Builtin.«zip.__next__» ⟨[.ref z], []⟩) (fun fin s' => ∃ v, fin = .done (.ret v) ∧ Q v s') E s := by
  show wpAny _ _ (field (.ref z) 2 >>= _) _ _ _
  refine wpAny_bind (wpAny_field hz rfl (x := .bool false) rfl ?_)
  show wpAny _ _ (field (.ref z) 3 >>= _) _ _ _
  refine wpAny_bind (wpAny_field hz rfl (x := .ref T1) rfl ?_)
  refine wpAny_bind (wpAny_seqItems h1 rfl ?_)
  show wpAny _ _ (Builtin.SmallTypes.ownedTupleIsFree (.ref z) >>= _) _ _ _
  refine wpAny_bind ?_
  unfold Builtin.SmallTypes.ownedTupleIsFree
  refine wpAny_bind (wpAny_field hz rfl (x := .none) rfl (wpAny_pure ?_))
  simp only [if_true]
  refine wpAny_bind (wpAny_rule ?_)
  refine wpAny_bind (wpAny_field hz rfl (x := .ref T2) rfl ?_)
  refine wpAny_bind (wpAny_setField_rec hz (by simp) ?_)
  intro g1 zg1 s1
  replace zg1 : IsZip g1 z T1 T2 .ellipsis := zg1
  refine wpAny_bind ?_
  simp only [List.zipIdx_cons, List.zipIdx_nil, List.forIn_cons, List.forIn_nil]
  -- the first one's item
  refine wpAny_bind (wpAny_bind (wpAny_onRaise ?_))
  show wpAny _ _ (Builtin.SmallTypes.nextOf (.ref i1) >>= _) _ _ _
  refine wpAny_bind (draw_item (a1.ext s1.extBut D.i1z) (b1.ext s1.extBut D.l1z) hx ?_)
  intro g2 n1 s2
  refine wpAny_pure ?_
  have o2 : IsPair g2 T2 c d := s2.extBut _ _ D.TOi1 (s1.extBut _ _ D.TOz h2)
  refine wpAny_bind (wpAny_seqItems o2 rfl ?_)
  refine wpAny_bind (wpAny_updateSeq_pair o2 ?_)
  intro g3 o3 s3
  replace o3 : IsPair g3 T2 x d := o3
  refine wpAny_bind (wpAny_letGo (wpAny_pure ?_))
  -- the second one's
  refine wpAny_bind (wpAny_bind (wpAny_onRaise ?_))
  show wpAny _ _ (Builtin.SmallTypes.nextOf (.ref i2) >>= _) _ _ _
  refine wpAny_bind (draw_item (((a2.ext s1.extBut D.i2z).ext s2.extBut D.i12.symm).ext s3.extBut D.TOi2.symm)
    (((b2.ext s1.extBut D.l2z).ext s2.extBut D.l2i1).ext s3.extBut D.l2TO) hy ?_)
  intro g4 n2 s4
  refine wpAny_pure ?_
  have o4 : IsPair g4 T2 x d := s4.extBut _ _ D.TOi2 o3
  refine wpAny_bind (wpAny_seqItems o4 rfl ?_)
  refine wpAny_bind (wpAny_updateSeq_pair o4 ?_)
  intro g5 o5 s5
  replace o5 : IsPair g5 T2 x y := o5
  refine wpAny_bind (wpAny_letGo (wpAny_pure (wpAny_pure ?_)))
  -- the pair
  refine wpAny_bind (wpAny_seqItems o5 rfl ?_)
  refine wpAny_bind (wpAny_newTuple ?_)
  have sz : g5.objs.size = s.heap.objs.size := by rw [s5.1, s4.1, s3.1, s2.1, s1.1]
  have z5 : IsZip g5 z T1 T2 .ellipsis :=
    s5.extBut _ _ D.TOz.symm (s4.extBut _ _ D.i2z.symm (s3.extBut _ _ D.TOz.symm (s2.extBut _ _ D.i1z.symm zg1)))
  have kp : ∀ b o, b ≠ z → b ≠ T2 → b ≠ i1 → b ≠ i2 → s.heap.get? b = some o → g5.get? b = some o := by
    intro b o e1 e2 e3 e4 e
    exact s5.extBut _ _ e2 (s4.extBut _ _ e4 (s3.extBut _ _ e2 (s2.extBut _ _ e3 (s1.extBut _ _ e1 e))))
  have m1 : Si t g5 i1 l1 (k1 + 1) := ((n1.ext s3.extBut D.TOi1.symm).ext s4.extBut D.i12).ext s5.extBut D.TOi1.symm
  have m2 : Si u g5 i2 l2 (k2 + 1) := n2.ext s5.extBut D.TOi2.symm
  have zlt : z < g5.objs.size := Heap.lt_size z5
  show wpAny _ _ (Builtin.SmallTypes.ownedTupleHandOut (.ref z) (.ref g5.objs.size) >>= _) _ _ _
  refine wpAny_bind ?_
  unfold Builtin.SmallTypes.ownedTupleHandOut
  have z6 : IsZip (g5.push { cls := .type "tuple", data := .seq #[x, y] }) z T1 T2 .ellipsis := Heap.get?_push_of_some _ z5
  refine wpAny_bind (wpAny_setField_rec z6 (by simp) ?_)
  intro g7 z7 s7
  replace z7 : IsZip g7 z T1 T2 (rawInt g5.objs.size) := z7
  refine wpAny_setField_rec z7 (by simp) ?_
  intro g8 z8 s8
  replace z8 : IsZip g8 z T1 T2 (rawInt g5.objs.size) := z8
  have up : ∀ b o, b ≠ z → g5.get? b = some o → g8.get? b = some o := fun b o n e =>
    s8.extBut _ _ n (s7.extBut _ _ n (Heap.get?_push_of_some _ e))
  have nz : g5.objs.size ≠ z := Nat.ne_of_gt zlt
  have p8 : IsPair g8 g5.objs.size x y := s8.extBut _ _ nz (s7.extBut _ _ nz (Heap.get?_push_size _ rfl))
  have l8 : g8.objs.size = g5.objs.size + 1 := by rw [s8.1, s7.1, Heap.size_push]
  rw [sz] at z8 p8 l8
  refine wpAny_pure ⟨_, rfl, ?_⟩
  show Q (.ref g5.objs.size) _
  rw [sz]
  exact hq g8 ⟨z8, up _ _ D.TOz o5, m1.stay (fun o => up _ o D.i1z), m2.stay (fun o => up _ o D.i2z), p8, l8,
    fun b o e1 e2 e3 e4 e => up b o e1 (kp b o e1 e2 e3 e4 e)⟩

theorem zmix_end {Q : Fin → Shared → Prop} (hh : A.handled = none) (D : ZipApart z T1 T2 i1 i2 l1 l2) (hz : IsZip s.heap z T1 T2 .none)
    (h1 : IsPair s.heap T1 (.ref i1) (.ref i2)) (h2 : IsPair s.heap T2 c d) (a1 : Si t s.heap i1 l1 k1) (a2 : Si u s.heap i2 l2 k2)
    (b1 : Sq t s.heap l1 xs) (b2 : Sq u s.heap l2 ys) (hend : xs[k1]? = none ∨ ys[k2]? = none)
    (he : ∀ h' e, (∀ b o, b ≠ z → b ≠ T2 → b ≠ i1 → b ≠ i2 → s.heap.get? b = some o → h'.get? b = some o) →
      (∃ o, h'.get? e = some o ∧ o.cls = .type "StopIteration") → E (.ref e) { s with heap := h' }) :
    wpAny (model prog w) A (Builtin.«zip.__next__» ⟨[.ref z], []⟩) Q E s := by
  show wpAny _ _ (field (.ref z) 2 >>= _) _ _ _
  refine wpAny_bind (wpAny_field hz rfl (x := .bool false) rfl ?_)
  show wpAny _ _ (field (.ref z) 3 >>= _) _ _ _
  refine wpAny_bind (wpAny_field hz rfl (x := .ref T1) rfl ?_)
  refine wpAny_bind (wpAny_seqItems h1 rfl ?_)
  show wpAny _ _ (Builtin.SmallTypes.ownedTupleIsFree (.ref z) >>= _) _ _ _
  refine wpAny_bind ?_
  unfold Builtin.SmallTypes.ownedTupleIsFree
  refine wpAny_bind (wpAny_field hz rfl (x := .none) rfl (wpAny_pure ?_))
  simp only [if_true]
  refine wpAny_bind (wpAny_rule ?_)
  refine wpAny_bind (wpAny_field hz rfl (x := .ref T2) rfl ?_)
  refine wpAny_bind (wpAny_setField_rec hz (by simp) ?_)
  intro g1 zg1 s1
  replace zg1 : IsZip g1 z T1 T2 .ellipsis := zg1
  refine wpAny_bind ?_
  simp only [List.zipIdx_cons, List.zipIdx_nil, List.forIn_cons, List.forIn_nil]
  refine wpAny_bind (wpAny_bind (wpAny_onRaise ?_))
  show wpAny _ _ (Builtin.SmallTypes.nextOf (.ref i1) >>= _) _ _ _
  cases hx : xs[k1]? with
  | none =>
    refine wpAny_bind (draw_end hh (a1.ext s1.extBut D.i1z) (b1.ext s1.extBut D.l1z) hx ?_)
    rintro g2 e s2 ⟨oe, he1, he2⟩
    have zg2 : IsZip g2 z T1 T2 .ellipsis := s2 _ _ D.i1z.symm zg1
    have ez : e ≠ z := by
      rintro rfl
      rw [zg2] at he1
      cases he1
      simp at he2
    refine wpAny_setField_rec zg2 (by simp) ?_
    intro g3 _ s3
    exact he g3 e (fun b o e1 _ e3 _ q => s3.extBut _ _ e1 (s2 _ _ e3 (s1.extBut _ _ e1 q))) ⟨oe, s3.extBut _ _ ez he1, he2⟩
  | some x =>
    have hy : ys[k2]? = none := by
      rcases hend with q | q
      · rw [hx] at q
        cases q
      · exact q
    refine wpAny_bind (draw_item (a1.ext s1.extBut D.i1z) (b1.ext s1.extBut D.l1z) hx ?_)
    intro g2 n1 s2
    refine wpAny_pure ?_
    have o2 : IsPair g2 T2 c d := s2.extBut _ _ D.TOi1 (s1.extBut _ _ D.TOz h2)
    refine wpAny_bind (wpAny_seqItems o2 rfl ?_)
    refine wpAny_bind (wpAny_updateSeq_pair o2 ?_)
    intro g3 o3 s3
    refine wpAny_bind (wpAny_letGo (wpAny_pure ?_))
    refine wpAny_bind (wpAny_bind (wpAny_onRaise ?_))
    show wpAny _ _ (Builtin.SmallTypes.nextOf (.ref i2) >>= _) _ _ _
    refine wpAny_bind (draw_end hh (((a2.ext s1.extBut D.i2z).ext s2.extBut D.i12.symm).ext s3.extBut D.TOi2.symm)
      (((b2.ext s1.extBut D.l2z).ext s2.extBut D.l2i1).ext s3.extBut D.l2TO) hy ?_)
    rintro g4 e s4 ⟨oe, he1, he2⟩
    have zg4 : IsZip g4 z T1 T2 .ellipsis := s4 _ _ D.i2z.symm (s3.extBut _ _ D.TOz.symm (s2.extBut _ _ D.i1z.symm zg1))
    have ez : e ≠ z := by
      rintro rfl
      rw [zg4] at he1
      cases he1
      simp at he2
    refine wpAny_setField_rec zg4 (by simp) ?_
    intro g5 _ s5
    exact he g5 e (fun b o e1 e2 e3 e4 q => s5.extBut _ _ e1 (s4 _ _ e4 (s3.extBut _ _ e2 (s2.extBut _ _ e3 (s1.extBut _ _ e1 q)))))
      ⟨oe, s5.extBut _ _ ez he1, he2⟩
end
end VB
/-! zip of two sequences, each a list or a tuple: its making, its walk -/
namespace VB
open PySem PySem.Spec PyProof.Rows L2
theorem Sv.inj {X : Cx} {pins : List (Addr × Obj)} {σ : L2.St} {H : Hp} {s : Shared} {t : Bool} {a : Addr} {xs ys : List V}
    (I : Inv X pins σ H s) (h : Sv t X.K H a xs) (h' : Sv t X.K H a ys) : xs = ys := by
  cases t with
  | false => exact I.list_inj (show SqL X.K H a xs from h) (show SqL X.K H a ys from h')
  | true => exact I.tuple_inj (show SqT X.K H a xs from h) (show SqT X.K H a ys from h')
theorem Sv.real {X : Cx} {pins : List (Addr × Obj)} {σ : L2.St} {H : Hp} {s : Shared} {t : Bool} {a : Addr} {xs : List V}
    (I : Inv X pins σ H s) (h : Sv t X.K H a xs) : ∃ its : List Value, Vals xs its ∧ Sq t s.heap a its.toArray ∧ a < s.heap.objs.size := by
  cases t with
  | false =>
    obtain ⟨its, r, p, _⟩ := I.list (show SqL X.K H a xs from h)
    exact ⟨its, r, p.isList, p.lt⟩
  | true =>
    obtain ⟨its, r, p, _⟩ := I.tuple (show SqT X.K H a xs from h)
    obtain ⟨o, ho, _⟩ := id p
    exact ⟨its, r, p, Heap.lt_size ho⟩
section
variable {prog : Program} {w : World} {A : Around} {E : Value → Shared → Prop} {s : Shared} {t u : Bool}
  {z T1 T2 i1 i2 l1 l2 : Addr} {k1 k2 : Nat} {xs ys : Array Value} {x y c d : Value}
theorem zmix_next {Q : Option Value → Shared → Prop} (D : ZipApart z T1 T2 i1 i2 l1 l2) (hz : IsZip s.heap z T1 T2 .none)
    (h1 : IsPair s.heap T1 (.ref i1) (.ref i2)) (h2 : IsPair s.heap T2 c d) (a1 : Si t s.heap i1 l1 k1) (a2 : Si u s.heap i2 l2 k2)
    (b1 : Sq t s.heap l1 xs) (b2 : Sq u s.heap l2 ys) (hx : xs[k1]? = some x) (hy : ys[k2]? = some y)
    (hq : ∀ h', ZTurn t u s.heap h' z T1 T2 i1 i2 l1 l2 k1 k2 x y → Q (some (.ref s.heap.objs.size)) { s with heap := h' }) :
    wpAny (model prog w) A (pyNext (.ref z)) Q E s := by
  have ty : s.TypeIs (.ref z) "zip" := ⟨_, hz, rfl⟩
  unfold pyNext
  refine wpAny_bind (wpAny_attempt ?_)
  refine wpAny_callSpecial?_slot (name := Str.ofString "__next__") ty F.slot_zip_next ?_
  refine wpAny_call_entry F.slot_zip_next ty F.entry_zip_next ?_ (F.args_zip_next_1 _)
  exact zmix_item D hz h1 h2 a1 a2 b1 b2 hx hy fun h' q => wpAny_pure (hq h' q)
theorem zmix_stop {Q : Option Value → Shared → Prop} (hh : A.handled = none) (D : ZipApart z T1 T2 i1 i2 l1 l2) (hz : IsZip s.heap z T1 T2 .none)
    (h1 : IsPair s.heap T1 (.ref i1) (.ref i2)) (h2 : IsPair s.heap T2 c d) (a1 : Si t s.heap i1 l1 k1) (a2 : Si u s.heap i2 l2 k2)
    (b1 : Sq t s.heap l1 xs) (b2 : Sq u s.heap l2 ys) (hend : xs[k1]? = none ∨ ys[k2]? = none)
    (hq : ∀ h', (∀ b o, b ≠ z → b ≠ T2 → b ≠ i1 → b ≠ i2 → s.heap.get? b = some o → h'.get? b = some o) → Q none { s with heap := h' }) :
    wpAny (model prog w) A (pyNext (.ref z)) Q E s := by
  have ty : s.TypeIs (.ref z) "zip" := ⟨_, hz, rfl⟩
  unfold pyNext
  refine wpAny_bind (wpAny_attempt ?_)
  refine wpAny_callSpecial?_slot (name := Str.ofString "__next__") ty F.slot_zip_next ?_
  refine wpAny_call_entry F.slot_zip_next ty F.entry_zip_next ?_ (F.args_zip_next_1 _)
  refine zmix_end hh D hz h1 h2 a1 a2 b1 b2 hend ?_
  rintro h' e kp ⟨o, ho, hc⟩
  refine wpAny_bind (wpAny_isInstance (T := "StopIteration") (b := true) ⟨o, ho, hc⟩ isSubtype_stop ?_)
  exact wpAny_pure (hq _ kp)
end
/-- an iterator over l, new -/
def itO (t : Bool) (l : Addr) : Obj := match t with
  | false => { cls := .type "list_iterator", data := .fields #[.ref l, .int 0 0] }
  | true => { cls := .type "tuple_iterator", data := .fields #[.ref l, .int 0 0] }
section
variable (t u : Bool) (h : Heap) (l1 l2 : Addr)
abbrev zm1 : Heap := h.push (itO t l1)
abbrev zm2 : Heap := (zm1 t h l1).push (itO u l2)
abbrev zm3 : Heap := (zm2 t u h l1 l2).push { cls := .type "tuple", data := .seq #[.ref h.objs.size, .ref (zm1 t h l1).objs.size] }
abbrev zm4 : Heap := (zm3 t u h l1 l2).push { cls := .type "tuple", data := .seq #[.none, .none] }
abbrev zm5 : Heap := (zm4 t u h l1 l2).push { cls := .type "zip", data := .fields #[.none, .bool false, .bool false, .ref (zm2 t u h l1 l2).objs.size, .ref (zm3 t u h l1 l2).objs.size] }
end
theorem meets_zmix (t u : Bool) (l1 l2 : Addr) (xs ys : Array Value) :
    Meets (Builtin.«zip.__new__» ⟨[.type "zip", .ref l1, .ref l2], []⟩) (fun _ R s => Sq t s.heap l1 xs ∧ Sq u s.heap l2 ys ∧
      R (.ok (.ret (.ref (zm4 t u s.heap l1 l2).objs.size))) { s with heap := zm5 t u s.heap l1 l2 }) := by
  refine .of_wp ?_
  rintro prog w A R ⟨hp, g, d, tk, os⟩ ⟨b1, b2, h⟩
  have sub := sub_zip
  have c2 : Sq u (hp.push (itO t l1)) l2 ys := b2.psh _
  cases t with
  | false =>
    have e1 : Heap.IsList (Shared.heap ⟨hp, g, d, tk, os⟩) l1 xs := b1
    cases u with
    | false =>
      have e2 : Heap.IsList (Shared.heap ⟨hp.push { cls := .type "list_iterator", data := .fields #[.ref l1, .int 0 0] }, g, d, tk, os⟩) l2 ys := c2
      wp_walk using wpAny_pyIter_list e1, wpAny_pyIter_list e2
      exact ⟨_, rfl, h⟩
    | true =>
      have e2 : Heap.IsTuple (Shared.heap ⟨hp.push { cls := .type "list_iterator", data := .fields #[.ref l1, .int 0 0] }, g, d, tk, os⟩) l2 ys := c2
      wp_walk using wpAny_pyIter_list e1, wpAny_pyIter_tuple e2
      exact ⟨_, rfl, h⟩
  | true =>
    have e1 : Heap.IsTuple (Shared.heap ⟨hp, g, d, tk, os⟩) l1 xs := b1
    cases u with
    | false =>
      have e2 : Heap.IsList (Shared.heap ⟨hp.push { cls := .type "tuple_iterator", data := .fields #[.ref l1, .int 0 0] }, g, d, tk, os⟩) l2 ys := c2
      wp_walk using wpAny_pyIter_tuple e1, wpAny_pyIter_list e2
      exact ⟨_, rfl, h⟩
    | true =>
      have e2 : Heap.IsTuple (Shared.heap ⟨hp.push { cls := .type "tuple_iterator", data := .fields #[.ref l1, .int 0 0] }, g, d, tk, os⟩) l2 ys := c2
      wp_walk using wpAny_pyIter_tuple e1, wpAny_pyIter_tuple e2
      exact ⟨_, rfl, h⟩
theorem si_new {t : Bool} {h : Heap} {i l : Addr} (e : h.get? i = some (itO t l)) : Si t h i l 0 := by
  cases t with
  | false => exact ⟨_, e, rfl, rfl⟩
  | true => exact ⟨_, e, rfl, rfl⟩
section
variable {prog : Program} {w : World} {A : Around} {E : Value → Shared → Prop} {s : Shared} {t u : Bool}
/-- what zip's call leaves -/
structure ZNew (t u : Bool) (h h' : Heap) (l1 l2 : Addr) : Prop where
  zip : IsZip h' (h.objs.size + 4) (h.objs.size + 2) (h.objs.size + 3) .none
  its : IsPair h' (h.objs.size + 2) (.ref h.objs.size) (.ref (h.objs.size + 1))
  out : IsPair h' (h.objs.size + 3) .none .none
  it1 : Si t h' h.objs.size l1 0
  it2 : Si u h' (h.objs.size + 1) l2 0
  keep : ∀ b o, h.get? b = some o → h'.get? b = some o
theorem call_zmix {l1 l2 : Addr} {xs ys : Array Value} {Q : Value → Shared → Prop} (b1 : Sq t s.heap l1 xs) (b2 : Sq u s.heap l2 ys)
    (hq : ∀ h', ZNew t u s.heap h' l1 l2 → Q (.ref (s.heap.objs.size + 4)) { s with heap := h' }) :
    wpAny (model prog w) A (call (.type "zip") [.ref l1, .ref l2]) Q E s := by
  refine callType_new F.called_zip (by decide) (F.typeCall_zip_2 _ _) (F.newCall_zip_2 _ _) (fun obj => F.args_object_init_3 obj _ _)
    F.entry_zip_new (meets_zmix t u l1 l2 xs ys) ⟨b1, b2, ?_⟩
  have n1 : (zm1 t s.heap l1).objs.size = s.heap.objs.size + 1 := Heap.size_push ..
  have n2 : (zm2 t u s.heap l1 l2).objs.size = s.heap.objs.size + 2 := by rw [Heap.size_push, n1]
  have n3 : (zm3 t u s.heap l1 l2).objs.size = s.heap.objs.size + 3 := by rw [Heap.size_push, n2]
  have n4 : (zm4 t u s.heap l1 l2).objs.size = s.heap.objs.size + 4 := by rw [Heap.size_push, n3]
  have f5 : itO t l1 = itO t l1 := rfl
  have nf : ∀ (b : Bool) (l : Addr), (itO b l).isFreed = false := fun b l => by cases b <;> rfl
  have g5 : (zm5 t u s.heap l1 l2).get? (zm4 t u s.heap l1 l2).objs.size = some _ := Heap.get?_push_size _ rfl
  have g4 : (zm5 t u s.heap l1 l2).get? (zm3 t u s.heap l1 l2).objs.size = some _ := Heap.get?_push_of_some _ (Heap.get?_push_size _ rfl)
  have g3 : (zm5 t u s.heap l1 l2).get? (zm2 t u s.heap l1 l2).objs.size = some _ := Heap.get?_push_of_some _ (Heap.get?_push_of_some _ (Heap.get?_push_size _ rfl))
  have g2 : (zm5 t u s.heap l1 l2).get? (zm1 t s.heap l1).objs.size = some (itO u l2) :=
    Heap.get?_push_of_some _ (Heap.get?_push_of_some _ (Heap.get?_push_of_some _ (Heap.get?_push_size _ (nf u l2))))
  have g1 : (zm5 t u s.heap l1 l2).get? s.heap.objs.size = some (itO t l1) :=
    Heap.get?_push_of_some _ (Heap.get?_push_of_some _ (Heap.get?_push_of_some _ (Heap.get?_push_of_some _ (Heap.get?_push_size _ (nf t l1)))))
  show _ ∧ _
  rw [n2, n3, n4] at g5
  rw [n1, n2] at g3
  rw [n3] at g4
  rw [n1] at g2
  rw [n4]
  refine ⟨⟨_, g5, rfl⟩, hq _ ⟨g5, g3, g4, si_new g1, si_new g2, ?_⟩⟩
  intro b o e
  exact Heap.get?_push_of_some _ (Heap.get?_push_of_some _ (Heap.get?_push_of_some _ (Heap.get?_push_of_some _ (Heap.get?_push_of_some _ e))))
end
/-- two sequences as they stand at each turn, the items in new pairs -/
def Itm (t u : Bool) (K : PySem.W.Frag) (a b : Addr) : It :=
  ⟨fun i H => ∃ (xs ys : List V) (x y : V), Sv t K H a xs ∧ Sv u K H b ys ∧ xs[i]? = some x ∧ ys[i]? = some y,
    fun i H v H' => ∃ N x y, v = .ref N ∧ H N = none ∧ H' = upd H N (.tup [x, y]) ∧ (∀ xs, Sv t K H a xs → xs[i]? = some x) ∧ ∀ ys, Sv u K H b ys → ys[i]? = some y,
    fun i H => ∃ xs ys : List V, Sv t K H a xs ∧ Sv u K H b ys ∧ (xs.length ≤ i ∨ ys.length ≤ i)⟩
theorem in5 {a b c d e x : Addr} (h : x ∈ [a, b, c, d, e]) : x = a ∨ x = b ∨ x = c ∨ x = d ∨ x = e := by simpa using h
theorem turn_zmix {P : Program} {w : World} {K : PySem.W.Frag} {t u : Bool} {elts : List Expr} {kk : Nat} {tpos : Pos} {a b z T1 T2 i1 i2 : Addr}
    (D : ZipApart z T1 T2 i1 i2 a b) : Turn P w K (.Tuple elts kk tpos) (Itm t u K a b) [z, T1, T2, i1, i2] z
      (fun i h => IsZip h z T1 T2 .none ∧ IsPair h T1 (.ref i1) (.ref i2) ∧ (∃ x y, IsPair h T2 x y) ∧ Si t h i1 a i ∧ Si u h i2 b i) := by
  refine ⟨by simp, ?_, ?_, ?_, ?_, ?_⟩
  · rintro i h ⟨hz, h1, ⟨x, y, h2⟩, a1, a2⟩ c hc
    rcases in5 hc with rfl | rfl | rfl | rfl | rfl
    · exact ⟨_, hz, fun v q => nomatch q⟩
    · exact ⟨_, h1, fun v q => nomatch q⟩
    · exact ⟨_, h2, fun v q => nomatch q⟩
    · exact a1.obj
    · exact a2.obj
  · rintro i h h' ⟨hz, h1, ⟨x, y, h2⟩, a1, a2⟩ k
    exact ⟨k z (by simp) _ hz, k T1 (by simp) _ h1, ⟨x, y, k T2 (by simp) _ h2⟩, a1.stay fun o q => k i1 (by simp) o q, a2.stay fun o q => k i2 (by simp) o q⟩
  · intro X hP hw hK hc i pins s σ H E I hf st hg
    subst hP hw hK
    obtain ⟨hz, h1, ⟨x0, y0, h2⟩, a1, a2⟩ := st
    obtain ⟨xs, ys, x, y, qx, qy, hx, hy⟩ := hg
    obtain ⟨its, rv, p, _⟩ := qx.real I
    obtain ⟨its2, rv2, p2, _⟩ := qy.real I
    obtain ⟨v1, hv1, r1⟩ := rv.get hx
    obtain ⟨v2, hv2, r2⟩ := rv2.get hy
    have zl : z < s.heap.objs.size := Heap.lt_size hz
    refine zmix_next D hz h1 h2 a1 a2 p p2 (x := v1) (y := v2) (by simpa using hv1) (by simpa using hv2) ?_
    intro g T
    refine ⟨_, rfl, wpAny_letOwnedTupleGo_zip (s := { s with heap := g }) T.zip ?_⟩
    intro g2 z2 sb
    have nN : s.heap.objs.size ≠ z := Nat.ne_of_gt zl
    have pN : g2.get? s.heap.objs.size = some { cls := .type "tuple", data := .seq #[v1, v2] } := (sb.2 _ nN).trans T.new
    have ok : ObjOk X.prog X.w (upd H s.heap.objs.size (.tup [x, y])) g2 s.heap.objs.size (.tup [x, y]) :=
      ⟨by show 2 ≤ sizeLine; decide, [v1, v2], .cons r1 (.cons r2 .nil), ⟨_, pN, rfl, _, rfl⟩⟩
    have J : Inv X pins σ (upd H s.heap.objs.size (.tup [x, y])) { s with heap := g2 } := by
      refine I.turnedNew (t' := s.toks) (ch := [z, T1, T2, i1, i2]) ?_ hf (Nat.le_refl _) ok
      intro c o hb q
      have n : c ≠ z ∧ c ≠ T2 ∧ c ≠ i1 ∧ c ≠ i2 := ⟨fun e => hb (by simp [e]), fun e => hb (by simp [e]), fun e => hb (by simp [e]), fun e => hb (by simp [e])⟩
      exact (sb.2 c n.1).trans (T.keep c o n.1 n.2.1 n.2.2.1 n.2.2.2 q)
    refine ⟨.ref s.heap.objs.size, _, J, rfl, ⟨_, x, y, rfl, I.hok.fresh (Nat.le_refl _), rfl, ?_, ?_⟩, ⟨z2, ?_, ⟨v1, v2, ?_⟩, ?_, ?_⟩, ?_⟩
    · intro l hl
      rw [hl.inj I qx]
      exact hx
    · intro l hl
      rw [hl.inj I qy]
      exact hy
    · exact (sb.2 _ D.TIz).trans (T.keep _ _ D.TIz D.TITO D.TIi1 D.TIi2 h1)
    · exact (sb.2 _ D.TOz).trans T.out
    · exact T.it1.stay fun o q => (sb.2 _ D.i1z).trans q
    · exact T.it2.stay fun o q => (sb.2 _ D.i2z).trans q
    · intro c hcm
      have lt : c < s.heap.objs.size := by
        rcases in5 hcm with rfl | rfl | rfl | rfl | rfl
        · exact zl
        · exact Heap.lt_size h1
        · exact Heap.lt_size h2
        · obtain ⟨_, e, _⟩ := a1.obj
          exact Heap.lt_size e
        · obtain ⟨_, e, _⟩ := a2.obj
          exact Heap.lt_size e
      rw [upd_ne (Nat.ne_of_lt lt)]
      exact (hf c hcm).1
  · intro X hP hw hK hc i pins s σ H E I hf st hg
    subst hP hw hK
    obtain ⟨hz, h1, ⟨x0, y0, h2⟩, a1, a2⟩ := st
    obtain ⟨xs, ys, qx, qy, hend⟩ := hg
    obtain ⟨its, rv, p, _⟩ := qx.real I
    obtain ⟨its2, rv2, p2, _⟩ := qy.real I
    have e1 := rv.length
    have e2 := rv2.length
    have he : its.toArray[i]? = none ∨ its2.toArray[i]? = none := by
      rcases hend with q | q
      · exact .inl (by simp; omega)
      · exact .inr (by simp; omega)
    refine zmix_stop (I.ok.hd hc) D hz h1 h2 a1 a2 p p2 he ?_
    intro g kp
    refine ⟨rfl, I.turnedL (t' := s.toks) (ch := [z, T1, T2, i1, i2]) ?_ hf⟩
    intro c o hb q
    exact kp c o (fun e => hb (by simp [e])) (fun e => hb (by simp [e])) (fun e => hb (by simp [e])) (fun e => hb (by simp [e])) q
  · intro A i s Q E st h
    exact wpAny_pyIter_zip st.1 h
/-- zip(e, e2): lists and tuples, in any mixture -/
def iZm (K : PySem.W.Frag) (ta : TA) : TI := fun σ H R => ta σ H fun vs H1 => ∃ (t u : Bool) (a b : Addr) (xs ys : List V), vs = [.ref a, .ref b] ∧
  Sv t K H1 a xs ∧ Sv u K H1 b ys ∧ R (Itm t u K a b) H1
theorem pi_zm {X : Cx} {K : PySem.W.Frag} {e e2 : Expr} {ta : TA} {p pos tpos : Pos} {elts : List Expr} {kk : Nat} (hg : Gl X "zip") (hm : X.mg "zip" = none) (ha : PA X [e, e2] ta) (hK : X.K = K := by rfl)
    (hs : starEach [e, e2] X.env = (false, eval e X.env) :: starEach [e2] X.env := by rfl) (hpl : (backTo pos (starEach [e2] X.env)).any (·.1) = false := by rfl) :
    PI X (.Tuple elts kk tpos) (.Call (.Name "zip" p) [e, e2] [] pos) (iZm K ta) := by
  subst hK
  constructor
  intro pins s σ H R I h
  refine Call_ (ld_blt I hg hm PyProof.Rows.boot_zip (PyProof.Rows.callWith_type1 (thn (ha.run pos pins s σ H _ I h) ?_) hs hpl))
  rintro us s1 ⟨vs, H1, I1, r1, t, u, a, b, xs, ys, rfl, qx, qy, q⟩
  obtain ⟨w1, w2, rfl, ra, rb⟩ := vals2 r1
  cases (show w1 = Value.ref a from ra)
  cases (show w2 = Value.ref b from rb)
  obtain ⟨its, rv, p1, lt1⟩ := qx.real I1
  obtain ⟨its2, rv2, p2, lt2⟩ := qy.real I1
  refine call_zmix p1 p2 ?_
  intro h' Z
  refine wpAny_pyIter_zip Z.zip ?_
  have I2 : Inv X pins σ H1 { s1 with heap := h' } := I1.kept (t' := s1.toks) Z.keep
  let n := s1.heap.objs.size
  refine ⟨n + 4, [n + 4, n + 2, n + 3, n, n + 1], _, _, H1, rfl, I2, turn_zmix (PySem.W.ktu_apart n a b lt1 lt2), ⟨Z.zip, Z.its, ⟨_, _, Z.out⟩, Z.it1, Z.it2⟩, ?_, q⟩
  intro c hc
  have le : n ≤ c := by
    show s1.heap.objs.size ≤ c
    rcases in5 hc with e | e | e | e | e
    · have e' : @Eq Nat c (s1.heap.objs.size + 4) := e
      omega
    · have e' : @Eq Nat c (s1.heap.objs.size + 2) := e
      omega
    · have e' : @Eq Nat c (s1.heap.objs.size + 3) := e
      omega
    · have e' : @Eq Nat c (s1.heap.objs.size) := e
      omega
    · have e' : @Eq Nat c (s1.heap.objs.size + 1) := e
      omega
  exact I1.fpOk le (I1.hok.fresh le)
/-- the walk -/
theorem walk_zm {t u : Bool} {K : PySem.W.Frag} {a b : Addr} {xs ys : List V} {n : Nat} (hn : n = min xs.length ys.length) :
    Walk (Itm t u K a b) n (fun H => Sv t K H a xs ∧ Sv u K H b ys) (YPair (fun i => xs[i]?) (fun i => ys[i]?)) := by
  subst hn
  refine ⟨?_, ?_, ?_⟩
  · intro i H hi q
    have h1 : i < xs.length := by omega
    have h2 : i < ys.length := by omega
    exact ⟨xs, ys, xs[i], ys[i], q.1, q.2, by simp [h1], by simp [h2]⟩
  · intro H q
    exact ⟨xs, ys, q.1, q.2, by omega⟩
  · rintro i H x H' _ q ⟨N, v, v', h1, h2, h3, h4, h5⟩
    exact ⟨N, v, v', h1, h2, h3, h4 xs q.1, h5 ys q.2⟩
end VB
/-! comprehensions that change nothing, of any values -/
namespace VB
open PySem PySem.Spec PyProof.Rows L2
theorem lc_pureVS {J : It} {G : Hp → Prop} {n j : Nat} {us : List V} {xs : List V} {te : TE} {vs : List Nat} {σ : L2.St} {H1 : Hp} {D : Addr} {Qd : Hp → Prop} (wk : Walk J n G (YAt xs)) (hG : ∀ H, Evl.Ex H1 H → G H)
    (hl : us.length = n) (hz : n ≤ 60000) (hD : H1 D = none) (hw : ∀ x, wipe ((wipe σ vs).set j x) vs = wipe σ vs)
    (hs : ∀ (i : Nat) (x : V) (u : V) (H : Hp) (Q : VK), xs[i]? = some x → us[i]? = some u → Evl.Ex H1 H → (∀ H' : Hp, Evl.Ex H H' → Q u H') → te ((wipe σ vs).set j (some x)) H Q)
    (hd : ∀ H, Evl.Ex H1 H → H D = some (.lst us) → Qd H) :
    ∃ W : Nat → Nat → Hp → Prop, (∃ m, W 0 m (upd H1 D (.lst []))) ∧ ∀ i m H, W i m H →
      (J.stop i H ∧ Qd H) ∨ (J.go i H ∧ ∃ Nx : Hp → Prop, (∀ H', Nx H' → ∃ m', m' < m ∧ W (i + 1) m' H') ∧ ∀ x H', J.yld i H x H' →
        gName j x (wipe σ vs) H' fun σ2 H2 => wipe σ2 vs = wipe σ vs ∧ tYes σ2 H2 fun b H3 =>
        if b = true then te σ2 H3 fun y H4 => ∃ acc, H4 D = some (.lst acc) ∧ acc.length < sizeLine ∧ Nx (upd H4 D (.lst (acc ++ [y]))) else Nx H3) := by
  refine lc_it wk (fun i H' => Evl.Ex H1 H' ∧ i ≤ n ∧ H' D = some (.lst (us.take i))) ⟨Evl.Ex.new hD, Nat.zero_le _, upd_same⟩ (fun i H _ h => hG H h.1) ?_ ?_
  · rintro i x H H' hi ⟨e1, hi2, h1⟩ ⟨rfl, hx⟩
    refine ⟨hw _, ?_⟩
    obtain ⟨u, hu⟩ : ∃ u, us[i]? = some u := ⟨us[i]'(by omega), by simp [show i < us.length by omega]⟩
    show te _ H' _
    refine hs i x u H' _ hx hu e1 fun H'' e2 => ⟨_, e2 D _ h1, ?_, Evl.Ex.mut (e1.trans e2) hD, by omega, ?_⟩
    · rw [List.length_take]
      exact Evl.sz_lt (by omega)
    · rw [upd_same, take_snoc hu]
  · rintro H ⟨e1, _, h1⟩
    refine hd H e1 ?_
    rw [h1, ← hl, List.take_length]
/-- .. over pairs -/
theorem lc_pureVZ {K : PySem.W.Frag} {J : It} {G : Hp → Prop} {n j1 j2 : Nat} {us : List V} {xs ys : Nat → Option V} {te : TE} {vs : List Nat} {σ : L2.St} {H1 : Hp} {D : Addr} {Qd : Hp → Prop} (wk : Walk J n G (YPair xs ys)) (hG : ∀ H, Evl.Ex H1 H → G H)
    (hl : us.length = n) (hz : n ≤ 60000) (hD : H1 D = none) (hw : ∀ x y, wipe (((wipe σ vs).set j1 x).set j2 y) vs = wipe σ vs)
    (hs : ∀ (i : Nat) (x y : V) (u : V) (H : Hp) (Q : VK), xs i = some x → ys i = some y → us[i]? = some u → Evl.Ex H1 H → (∀ H' : Hp, Evl.Ex H H' → Q u H') → te (((wipe σ vs).set j1 (some x)).set j2 (some y)) H Q)
    (hd : ∀ H, Evl.Ex H1 H → H D = some (.lst us) → Qd H) :
    ∃ W : Nat → Nat → Hp → Prop, (∃ m, W 0 m (upd H1 D (.lst []))) ∧ ∀ i m H, W i m H →
      (J.stop i H ∧ Qd H) ∨ (J.go i H ∧ ∃ Nx : Hp → Prop, (∀ H', Nx H' → ∃ m', m' < m ∧ W (i + 1) m' H') ∧ ∀ x H', J.yld i H x H' →
        gTup K 2 (gCons (gName j1) (gCons (gName j2) gNil)) x (wipe σ vs) H' fun σ2 H2 => wipe σ2 vs = wipe σ vs ∧ tYes σ2 H2 fun b H3 =>
        if b = true then te σ2 H3 fun y H4 => ∃ acc, H4 D = some (.lst acc) ∧ acc.length < sizeLine ∧ Nx (upd H4 D (.lst (acc ++ [y]))) else Nx H3) := by
  refine lc_it wk (fun i H' => Evl.Ex H1 H' ∧ i ≤ n ∧ H' D = some (.lst (us.take i))) ⟨Evl.Ex.new hD, Nat.zero_le _, upd_same⟩ (fun i H _ h => hG H h.1) ?_ ?_
  · rintro i v H H' hi ⟨e1, hi2, h1⟩ ⟨T, x, y, rfl, hT, rfl, hx, hy⟩
    have eT := Evl.Ex.new (o := .tup [x, y]) hT
    refine ⟨T, _, rfl, SqT.of upd_same, rfl, x, _, rfl, ⟨y, _, rfl, ?_⟩⟩
    refine ⟨rfl, hw _ _, ?_⟩
    obtain ⟨u, hu⟩ : ∃ u, us[i]? = some u := ⟨us[i]'(by omega), by simp [show i < us.length by omega]⟩
    show te _ _ _
    refine hs i x y u _ _ hx hy hu (e1.trans eT) fun H'' e2 => ⟨_, e2 D _ (eT D _ h1), ?_, Evl.Ex.mut ((e1.trans eT).trans e2) hD, by omega, ?_⟩
    · rw [List.length_take]
      exact Evl.sz_lt (by omega)
    · rw [upd_same, take_snoc hu]
  · rintro H ⟨e1, _, h1⟩
    refine hd H e1 ?_
    rw [h1, ← hl, List.take_length]
/-- a sequence's type -/
theorem Sv.ty {t : Bool} {K : PySem.W.Frag} {H : Hp} {a : Addr} {xs : List V} (h : Sv t K H a xs) : TyX K H (.ref a) (.type (if t then "tuple" else "list")) := by
  cases t with
  | false =>
    have h : SqL K H a xs := h
    rcases h with (h | ⟨o, h⟩) | ⟨o, its, n, h, c, _⟩
    · exact .base (.lst h)
    · exact .base (.frz h)
    · exact .kList h c
  | true =>
    have h : SqT K H a xs := h
    rcases h with (h | ⟨o, h⟩) | ⟨o, its, n, h, c, _⟩
    · exact .base (.tup h)
    · exact .fTuple h
    · exact .kTuple h c
theorem kit_seq (K : PySem.W.Frag) (t : Bool) : PySem.W.kitAny K (.type (if t then "tuple" else "list")) [.type "list", .type "tuple"] = some true := by
  cases t with
  | false => exact kitAny_cons (b := true) (kit_ty (by decide +kernel)) (fun z => nomatch z) (fun _ => rfl)
  | true => exact kitAny_cons (b := false) (kit_ty (by decide +kernel)) (fun _ => kitAny_cons (b := true) (kit_ty (by decide +kernel)) (fun z => nomatch z) (fun _ => rfl)) (fun z => nomatch z)
/-- an int of the module -/
theorem pe_globI {X : Cx} {x : Str} {i : Int} {pos : Pos} (hg : Gl X x) (h : ∃ t, X.mg x = some (.int i t)) (hd : (x == ("__debug__" : Str)) = false := by decide) : PE X (.Name x pos) (tC (.int i)) := by
  obtain ⟨t, h⟩ := h
  exact pe_glob hg h ⟨_, rfl⟩ hd
end VB
/-! what the laws share -/
namespace VB
open PySem PySem.Spec PyProof.Rows L2 BM
section
variable {P : Program} {w : World} {K : PySem.W.Frag} {mg : Str → Option Value} {base : Heap} {f : Addr} {fd : FuncData}
/-- at a: a box: what is left of the digits, whether they count, the seed, the draws so far (below n) -/
def Box (H : Hp) (a : Addr) (n : Int) : Prop := ∃ (d m c : Int) (b : Bool), H a = some (.lst [.int d, .bl b, .int m, .int c]) ∧ 0 ≤ d ∧ 0 ≤ m ∧ m < 2147483629 ∧ 0 ≤ c ∧ c ≤ n
/-- all but what stands at a is as it was -/
def Exb (a : Addr) (H H' : Hp) : Prop := ∀ b o, b ≠ a → H b = some o → H' b = some o
theorem Exb.upd {a : Addr} {H : Hp} {o : HO} : Exb a H (upd H a o) := fun b u n e => by rw [upd_ne n]; exact e
theorem Exb.trans {a : Addr} {H H1 H2 : Hp} (x : Exb a H H1) (y : Exb a H1 H2) : Exb a H H2 := fun b o n e => y b o n (x b o n e)
theorem Exb.of {a : Addr} {H H' : Hp} (x : Evl.Ex H H') : Exb a H H' := fun b o _ e => x b o e
theorem Exb.new {a p : Addr} {H : Hp} {o : HO} (h : H p = none) : Exb a H (L2.upd H p o) := Exb.of (Evl.Ex.new h)
theorem Box.ex {H H' : Hp} {a : Addr} {n : Int} (b : Box H a n) (e : Evl.Ex H H') : Box H' a n := by
  obtain ⟨d, m, c, k, h, r⟩ := b
  exact ⟨d, m, c, k, e _ _ h, r⟩
theorem Box.at {H : Hp} {a p : Addr} {n : Int} (b : Box H a n) (h : H p = none) : p ≠ a := by
  obtain ⟨d, m, c, k, e, r⟩ := b
  rintro rfl
  rw [h] at e
  cases e
theorem Box.le {H : Hp} {a : Addr} {n m : Int} (b : Box H a n) (h : n ≤ m) : Box H a m := by
  obtain ⟨d, m', c, k, e, r1, r2, r3, r4, r5⟩ := b
  exact ⟨d, m', c, k, e, r1, r2, r3, r4, by omega⟩
abbrev ws8 : List Int := [128, 64, 32, 16, 8, 4, 2, 1]
theorem ws8_get {j : Nat} {u : Int} (h : ws8[j]? = some u) : 0 < u ∧ u ≤ 128 := by
  have m := List.mem_of_getElem? h
  simp only [ws8, List.mem_cons, List.not_mem_nil, or_false] at m
  omega
theorem bitsOf_ws (o : Int) : bitsOf o = ws8.map fun u => o / u % 2 := rfl
theorem octetsN_snoc : ∀ (n : Nat) (bs : List Int), octetsN (n + 1) bs = octetsN n bs ++ [octOf ((bs.drop (8 * n)).take 8)]
  | 0, bs => rfl
  | n + 1, bs => by
    show octOf (bs.take 8) :: octetsN (n + 1) (bs.drop 8) = octOf (bs.take 8) :: octetsN n (bs.drop 8) ++ _
    rw [octetsN_snoc n (bs.drop 8), List.drop_drop]
    have e : 8 + 8 * n = 8 * (n + 1) := by omega
    rw [e]
    rfl
theorem octetsN_len : ∀ (n : Nat) (bs : List Int), (octetsN n bs).length = n
  | 0, _ => rfl
  | n + 1, bs => by
    show (octetsN n (bs.drop 8)).length + 1 = _
    rw [octetsN_len n]
theorem cut8 (bs : List Int) (i : Nat) (hi : 8 * i ≤ bs.length) : cutV (IV bs) (some (0 + (i : Int) * 8)) (some (0 + (i : Int) * 8 + 8)) = IV ((bs.drop (8 * i)).take 8) := by
  have e1 : (0 : Int) + (i : Int) * 8 = ((8 * i : Nat) : Int) := by omega
  have e2 : ((8 * i : Nat) : Int) + 8 = ((8 * i + 8 : Nat) : Int) := by omega
  unfold cutV
  rw [e1, e2, HT.sIx_nat, HT.sIx_nat, iv_len, ← List.map_drop, ← List.map_take]
  have e3 : min (8 * i) bs.length = 8 * i := by omega
  rw [e3]
  congr 1
  rw [List.take_eq_take_iff, List.length_drop]
  omega
theorem octOf_snoc (bs : List Int) (b : Int) : octOf (bs ++ [b]) = 2 * octOf bs + b := by
  unfold octOf
  rw [List.foldl_append]
  rfl
theorem if_ne {x y : Int} {A B : Prop} (h1 : x ≠ y → A) (h2 : x = y → B) : if (!decide (V.int x = V.int y)) = true then A else B := by
  by_cases e : x = y
  · rw [decide_eq_true (congrArg V.int e)]
    exact iteF (h2 e)
  · rw [decide_eq_false (fun z => e (V.int.inj z))]
    exact iteT (h1 e)
theorem if_eq {x y : Int} {A B : Prop} (h1 : x = y → A) (h2 : x ≠ y → B) : if decide (V.int x = V.int y) = true then A else B := by
  by_cases e : x = y
  · rw [decide_eq_true (congrArg V.int e)]
    exact iteT (h1 e)
  · rw [decide_eq_false (fun z => e (V.int.inj z))]
    exact iteF (h2 e)
theorem drop_get {α : Type} {l : List α} {i : Nat} {x : α} (h : l[i]? = some x) : l.drop i = x :: l.drop (i + 1) := by
  obtain ⟨hi, e⟩ := List.getElem?_eq_some_iff.mp h
  rw [List.drop_eq_getElem_cons hi, e]
theorem get_lt {α : Type} {l : List α} {i : Nat} (h : i < l.length) : ∃ x, l[i]? = some x := ⟨l[i], by simp [h]⟩
theorem iv_set (pre post : List Int) (x y : Int) : (IV (pre ++ x :: post)).set pre.length (V.int y) = IV (pre ++ y :: post) := by
  rw [← List.map_set, List.set_append_right _ _ (Nat.le_refl _)]
  simp
theorem turned_cons (x y m : Int) (as bs : List Int) : turned (x :: as) (y :: bs) m = if x = y then x :: turned as bs m else (if m % 2 = 1 then y else x) :: turned as bs (m / 2) := by
  rw [turned]
/-- beyond all masks -/
def MM : Int := 2 ^ 4096
theorem MM_eq : (1 : Int) * 2 ^ (4096 : Int).toNat = MM := by
  have e : (4096 : Int).toNat = 4096 := rfl
  rw [e, Int.one_mul]
  rfl
theorem pow_nn (k : Nat) : (0 : Int) < 2 ^ k := Int.pow_pos (by decide)
theorem pow_mono {a b : Nat} (h : a ≤ b) : (2 : Int) ^ a ≤ 2 ^ b := by
  have q : (2 : Nat) ^ a ≤ 2 ^ b := Nat.pow_le_pow_right (by decide) h
  have q2 : (((2 : Nat) ^ a : Nat) : Int) ≤ ((2 ^ b : Nat) : Int) := Int.ofNat_le.mpr q
  simpa using q2
theorem MM_half {k : Nat} (h : k ≤ 4095) : 2 * (2 : Int) ^ k ≤ MM := by
  have q := pow_mono (a := k + 1) (b := 4096) (by omega)
  rw [Int.pow_succ] at q
  unfold MM
  omega
theorem lt_natAbs {x : Int} {n : Nat} (h0 : 0 ≤ x) (h : x < 2 ^ n) : x.natAbs < 2 ^ n := by
  have e : (x.natAbs : Int) = x := Int.natAbs_of_nonneg h0
  have q : (x.natAbs : Int) < ((2 ^ n : Nat) : Int) := by
    rw [e]
    simpa using h
  exact Int.ofNat_lt.mp q
theorem more_bits {x w : Int} {n : Nat} (h0 : 0 ≤ x) (h : x < 2 ^ n) (w0 : 0 ≤ w) (w1 : w < 2 ^ 48) : 0 ≤ x * 2 ^ 48 + w ∧ x * 2 ^ 48 + w < 2 ^ (n + 48) := by
  rw [Int.pow_add]
  have p : (0 : Int) < 2 ^ 48 := pow_nn 48
  have m : (x + 1) * 2 ^ 48 ≤ 2 ^ n * 2 ^ 48 := Int.mul_le_mul_of_nonneg_right (by omega) (Int.le_of_lt p)
  rw [Int.add_mul, Int.one_mul] at m
  have m0 : 0 ≤ x * 2 ^ 48 := Int.mul_nonneg h0 (Int.le_of_lt p)
  omega
theorem oct_snoc {xs : List Int} {r : Int} (h : Oct xs) (h0 : 0 ≤ r) (h1 : r ≤ 255) : Oct (xs ++ [r]) := by
  intro o ho
  rcases List.mem_append.mp ho with q | q
  · exact h o q
  · have e : o = r := by simpa using q
    omega
theorem zip_get {xs ys : List Int} {p : Int × Int} (h : p ∈ xs.zip ys) : ∃ i : Nat, xs[i]? = some p.1 ∧ ys[i]? = some p.2 := by
  obtain ⟨i, hi⟩ := List.mem_iff_getElem?.mp h
  obtain ⟨q1, q2⟩ := List.getElem?_zip_eq_some.mp hi
  exact ⟨i, q1, q2⟩
theorem bitAnd_pp {x y : Int} (hx : 0 ≤ x) (hy : 0 ≤ y) : Builtin.bitAnd x y = ((x.toNat &&& y.toNat : Nat) : Int) := by
  obtain ⟨a, rfl⟩ := nat_of hx
  obtain ⟨b, rfl⟩ := nat_of hy
  rfl
/-- two lists of octets, item by item -/
def both (f : Int → Int → Int) (xs ys : List Int) : List Int := (xs.zip ys).map fun p => f p.1 p.2
theorem both_len {f : Int → Int → Int} {xs ys : List Int} (h : xs.length = ys.length) : (both f xs ys).length = xs.length := by
  unfold both
  rw [List.length_map, List.length_zip]
  omega
theorem both_get {f : Int → Int → Int} {xs ys : List Int} {i : Nat} {u : Int} (h : (both f xs ys)[i]? = some u) : ∃ x y, xs[i]? = some x ∧ ys[i]? = some y ∧ u = f x y := by
  unfold both at h
  rw [List.getElem?_map] at h
  cases e : (xs.zip ys)[i]? with
  | none => rw [e] at h; cases h
  | some p =>
    rw [e] at h
    obtain ⟨q1, q2⟩ := List.getElem?_zip_eq_some.mp e
    exact ⟨p.1, p.2, q1, q2, (Option.some.inj h).symm⟩
theorem both_oct {f : Int → Int → Int} {xs ys : List Int} (ox : Oct xs) (oy : Oct ys) (h : ∀ x y, 0 ≤ x ∧ x ≤ 255 → 0 ≤ y ∧ y ≤ 255 → 0 ≤ f x y ∧ f x y ≤ 255) : Oct (both f xs ys) := by
  intro o ho
  obtain ⟨i, hi⟩ := List.mem_iff_getElem?.mp ho
  obtain ⟨x, y, hx, hy, rfl⟩ := both_get hi
  exact h x y (ox x (List.mem_of_getElem? hx)) (oy y (List.mem_of_getElem? hy))
theorem oct_and {x y : Int} (hx : 0 ≤ x ∧ x ≤ 255) (hy : 0 ≤ y ∧ y ≤ 255) : (0 ≤ Builtin.bitAnd x y ∧ Builtin.bitAnd x y ≤ 255) ∧ Le (bitsOf (Builtin.bitAnd x y)) (bitsOf x) := by
  rw [bitAnd_pp hx.1 hy.1]
  have e : ((x.toNat : Nat) : Int) = x := by omega
  have h := and_oct (a := x.toNat) (b := y.toNat) (by omega)
  refine ⟨by omega, ?_⟩
  have q := and_le x.toNat y.toNat
  rw [e] at q
  exact q
theorem oct_or {x y : Int} (hx : 0 ≤ x ∧ x ≤ 255) (hy : 0 ≤ y ∧ y ≤ 255) : (0 ≤ Builtin.bitOr x y ∧ Builtin.bitOr x y ≤ 255) ∧ Le (bitsOf x) (bitsOf (Builtin.bitOr x y)) := by
  rw [Bits.bitOr_pp hx.1 hy.1]
  have e : ((x.toNat : Nat) : Int) = x := by omega
  have h := or_oct (a := x.toNat) (b := y.toNat) (by omega) (by omega)
  refine ⟨by omega, ?_⟩
  have q := le_or x.toNat y.toNat
  rw [e] at q
  exact q
theorem bitsL_le' {xs ys : List Int} (hl : xs.length = ys.length) (h : ∀ (i : Nat) x y, xs[i]? = some x → ys[i]? = some y → Le (bitsOf x) (bitsOf y)) : Le (bitsL xs) (bitsL ys) :=
  bitsL_le hl fun p hp => by
    obtain ⟨i, h1, h2⟩ := zip_get hp
    exact h i _ _ h1 h2
theorem oct_255 (c : Nat) : Oct (List.replicate c 255) := fun o ho => by
  have e := List.eq_of_mem_replicate ho
  omega
theorem iv_rep (c : Nat) (o : Int) : IV (List.replicate c o) = List.replicate c (V.int o) := List.map_replicate ..
/-- one more octet of a comprehension over a box -/
def Grown (a D : Addr) (H0 : Hp) (m : Int) (i : Nat) (H' : Hp) : Prop := Exb a H0 H' ∧ Box H' a (m + 3 * i) ∧ ∃ xs : List Int, xs.length = i ∧ Oct xs ∧ H' D = some (.lst (IV xs))
theorem Grown.start {a D : Addr} {H : Hp} {m : Int} (B : Box H a m) (hD : H D = none) : Grown a D H m 0 (upd H D (.lst [])) :=
  ⟨Exb.new hD, (B.ex (Evl.Ex.new hD)).le (by omega), [], rfl, fun _ h => (by cases h), upd_same⟩
theorem Grown.more {a D : Addr} {H0 H1 H2 : Hp} {m r : Int} {i : Nat} (g : Grown a D H0 m i H1) (hD : D ≠ a) (hn : H0 D = none) (hi : i ≤ 1000) (e : Exb a H1 H2) (B : Box H2 a (m + 3 * i + 3)) (r0 : 0 ≤ r) (r1 : r ≤ 255) :
    ∃ acc, H2 D = some (.lst acc) ∧ acc.length < sizeLine ∧ Grown a D H0 m (i + 1) (upd H2 D (.lst (acc ++ [V.int r]))) := by
  obtain ⟨e1, B1, xs, hl, ho, h⟩ := g
  have B2 : Box (upd H2 D (.lst (IV xs ++ [V.int r]))) a (m + 3 * i + 3) := by
    obtain ⟨d, m', c, k, hb, q⟩ := B
    exact ⟨d, m', c, k, by rw [upd_ne (Ne.symm hD)]; exact hb, q⟩
  refine ⟨IV xs, e D _ hD h, by rw [iv_len, hl]; exact Evl.sz_lt (by omega), ?_, B2.le (by omega), xs ++ [r], by simp [hl], oct_snoc ho r0 r1, by rw [upd_same, iv_snoc]⟩
  intro b o n q
  have hb : b ≠ D := by
    rintro rfl
    rw [hn] at q
    cases q
  rw [upd_ne hb]
  exact e b o n (e1 b o n q)
/-- keywords in other orders than the parameters' -/
abbrev g1 : List Value → List Value → List Value := fun _ ws => [ws.getD 0 .none]
abbrev g1V : List V → List V → List V := fun _ ws => [ws.getD 0 .non]
abbrev g21 : List Value → List Value → List Value := fun _ ws => [ws.getD 1 .none, ws.getD 0 .none]
abbrev g21V : List V → List V → List V := fun _ ws => [ws.getD 1 .non, ws.getD 0 .non]
abbrev g321 : List Value → List Value → List Value := fun _ ws => [ws.getD 2 .none, ws.getD 1 .none, ws.getD 0 .none]
abbrev g321V : List V → List V → List V := fun _ ws => [ws.getD 2 .non, ws.getD 1 .non, ws.getD 0 .non]
theorem same_ne {x : V} {A B : Prop} (h : B) : if (!decide (x = x)) = true then A else B := by
  rw [decide_eq_true rfl]
  exact iteF h
theorem same_int {x y : Int} {A B : Prop} (e : x = y) (h : B) : if (!decide (V.int x = V.int y)) = true then A else B := by
  subst e
  exact same_ne h
theorem same_bl {x y : Bool} {A B : Prop} (e : x = y) (h : B) : if (!decide (V.bl x = V.bl y)) = true then A else B := by
  subst e
  exact same_ne h
theorem if_dec {p : Prop} [Decidable p] {A B : Prop} (h1 : p → A) (h2 : ¬ p → B) : if decide p = true then A else B := by
  by_cases z : p
  · rw [decide_eq_true z]
    exact iteT (h1 z)
  · rw [decide_eq_false z]
    exact iteF (h2 z)
theorem two_ways {x y : Int} {ta tb : TE} {σ : L2.St} {H : Hp} {Q : VK} (S : V → Hp → Prop) (ha : x = y → ∀ Q' : VK, (∀ v H', S v H' → Q' v H') → ta σ H Q')
    (hb : x ≠ y → ∀ Q' : VK, (∀ v H', S v H' → Q' v H') → tb σ H Q') (hQ : ∀ v H', S v H' → Q v H') : if decide (V.int x = V.int y) = true then ta σ H Q else tb σ H Q :=
  if_eq (fun z => ha z Q hQ) (fun z => hb z Q hQ)
theorem sm_fallen (n : Nat) (as bs : List Int) : ∀ (k : Int), 0 ≤ k → k + (as.length : Int) ≤ 10000 → Sm (fallenL k as bs) := by
  induction as generalizing bs with
  | nil =>
    intro k _ _
    cases bs <;> exact fun n hn => by cases hn
  | cons a as ih =>
    intro k hk hl
    cases bs with
    | nil => exact fun n hn => by cases hn
    | cons b bs =>
      have r := ih bs (k + 1) (by omega) (by simp at hl; omega)
      rw [fallenL]
      split
      · intro n hn
        cases hn with
        | head => simp at hl; omega
        | tail _ hn => exact r n hn
      · exact r
theorem zip8 {f : Int → Int → Int} {a0 a1 a2 a3 a4 a5 a6 a7 b0 b1 b2 b3 b4 b5 b6 b7 : Int} : List.zipWith f [a7, a6, a5, a4, a3, a2, a1, a0] [b7, b6, b5, b4, b3, b2, b1, b0] = [f a7 b7, f a6 b6, f a5 b5, f a4 b4, f a3 b3, f a2 b2, f a1 b1, f a0 b0] := rfl
theorem xor_bits {x y : Int} (hx : 0 ≤ x ∧ x ≤ 255) (hy : 0 ≤ y ∧ y ≤ 255) : bitsOf (Builtin.bitXor x y) = List.zipWith (fun a b => if a = b then 0 else 1) (bitsOf x) (bitsOf y) := by
  obtain ⟨a, rfl⟩ := nat_of hx.1
  obtain ⟨b, rfl⟩ := nat_of hy.1
  rw [Bits.bitXor_pp hx.1 hy.1, Int.toNat_natCast, Int.toNat_natCast, bitsOf_tb, bitsOf_tb, bitsOf_tb, zip8]
  simp only [tb_xor]
theorem and_bits {x y : Int} (hx : 0 ≤ x ∧ x ≤ 255) (hy : 0 ≤ y ∧ y ≤ 255) : bitsOf (Builtin.bitAnd x y) = List.zipWith (fun a b => if a = 1 ∧ b = 1 then 1 else 0) (bitsOf x) (bitsOf y) := by
  obtain ⟨a, rfl⟩ := nat_of hx.1
  obtain ⟨b, rfl⟩ := nat_of hy.1
  rw [bitAnd_pp hx.1 hy.1, Int.toNat_natCast, Int.toNat_natCast, bitsOf_tb, bitsOf_tb, bitsOf_tb, zip8]
  simp only [tb_and]
theorem xor_range {x y : Int} (hx : 0 ≤ x ∧ x ≤ 255) (hy : 0 ≤ y ∧ y ≤ 255) : 0 ≤ Builtin.bitXor x y ∧ Builtin.bitXor x y ≤ 255 := by
  rw [Bits.bitXor_pp hx.1 hy.1]
  have h := xor_oct (a := x.toNat) (b := y.toNat) (by omega) (by omega)
  omega
/-- what falls, octet by octet -/
def fallO (x y : Int) : Int := Builtin.bitAnd x (Builtin.bitXor x y)
def riseO (x y : Int) : Int := Builtin.bitAnd y (Builtin.bitXor x y)
theorem fallO_range {x y : Int} (hx : 0 ≤ x ∧ x ≤ 255) (hy : 0 ≤ y ∧ y ≤ 255) : 0 ≤ fallO x y ∧ fallO x y ≤ 255 := (oct_and hx (xor_range hx hy)).1
theorem riseO_range {x y : Int} (hx : 0 ≤ x ∧ x ≤ 255) (hy : 0 ≤ y ∧ y ≤ 255) : 0 ≤ riseO x y ∧ riseO x y ≤ 255 := (oct_and hy (xor_range hx hy)).1
theorem zw_self {f g : Int → Int → Int} (h : ∀ a b : Int, f a (g a b) = (fun a b => f a (g a b)) a b) : ∀ as bs : List Int, List.zipWith f as (List.zipWith g as bs) = List.zipWith (fun a b => f a (g a b)) as bs
  | [], _ => by simp
  | _ :: _, [] => by simp
  | a :: as, b :: bs => by simp [zw_self h as bs]
theorem zw_other {f g : Int → Int → Int} : ∀ as bs : List Int, List.zipWith f bs (List.zipWith g as bs) = List.zipWith (fun a b => f b (g a b)) as bs
  | [], _ => by simp
  | _ :: _, [] => by simp
  | a :: as, b :: bs => by simp [zw_other as bs]
theorem ones_fall {xs ys : List Int} (ox : Oct xs) (oy : Oct ys) (hl : xs.length = ys.length) : onesL 0 (bitsL (both fallO xs ys)) = fallenL 0 (bitsL xs) (bitsL ys) := by
  have e : bitsL (both fallO xs ys) = List.zipWith (fun a b => if a = 1 ∧ (if a = b then (0 : Int) else 1) = 1 then (1 : Int) else 0) (bitsL xs) (bitsL ys) := by
    refine bitsL_both (fun x y hx hy => ?_) xs ys ox oy
    unfold fallO
    rw [and_bits hx (xor_range hx hy), xor_bits hx hy, zw_self fun _ _ => rfl]
  rw [e]
  refine ones_of (fun as bs k => fallenL k as bs) (fun a b => a = 1 ∧ b = 0) (fun _ => by simp [fallenL]) (fun a as b bs k => by rw [fallenL]) ?_ _ _ 0 (by rw [bitsL_len, bitsL_len, hl]) (bitsL_bit xs) (bitsL_bit ys)
  intro a b ha hb
  rcases ha with rfl | rfl <;> rcases hb with rfl | rfl <;> decide
theorem fallen_swap : ∀ (as bs : List Int) (k : Int) , fallenL k bs as = (fun (as bs : List Int) (k : Int) => fallenL k bs as) as bs k := fun _ _ _ => rfl
theorem ones_rise {xs ys : List Int} (ox : Oct xs) (oy : Oct ys) (hl : xs.length = ys.length) : onesL 0 (bitsL (both riseO xs ys)) = fallenL 0 (bitsL ys) (bitsL xs) := by
  have e : bitsL (both riseO xs ys) = List.zipWith (fun a b => if b = 1 ∧ (if a = b then (0 : Int) else 1) = 1 then (1 : Int) else 0) (bitsL xs) (bitsL ys) := by
    refine bitsL_both (fun x y hx hy => ?_) xs ys ox oy
    unfold riseO
    rw [and_bits hy (xor_range hx hy), xor_bits hx hy, zw_other]
  rw [e]
  refine ones_of (fun as bs k => fallenL k bs as) (fun a b => b = 1 ∧ a = 0) (fun _ => by simp [fallenL]) (fun a as b bs k => by rw [fallenL]) ?_ _ _ 0 (by rw [bitsL_len, bitsL_len, hl]) (bitsL_bit xs) (bitsL_bit ys)
  intro a b ha hb
  rcases ha with rfl | rfl <;> rcases hb with rfl | rfl <;> decide
theorem ones_diff {xs ys : List Int} (ox : Oct xs) (oy : Oct ys) (hl : xs.length = ys.length) : onesL 0 (bitsL (both Builtin.bitXor xs ys)) = diffL 0 (bitsL xs) (bitsL ys) := by
  have e : bitsL (both Builtin.bitXor xs ys) = List.zipWith (fun a b => if a = b then (0 : Int) else 1) (bitsL xs) (bitsL ys) :=
    bitsL_both (fun x y hx hy => xor_bits hx hy) xs ys ox oy
  rw [e]
  refine ones_of (fun as bs k => diffL k as bs) (fun a b => ¬ a = b) (fun _ => by simp [diffL]) (fun a as b bs k => ?_) ?_ _ _ 0 (by rw [bitsL_len, bitsL_len, hl]) (bitsL_bit xs) (bitsL_bit ys)
  · rw [diffL]
    by_cases z : a = b <;> simp [z]
  · intro a b ha hb
    rcases ha with rfl | rfl <;> rcases hb with rfl | rfl <;> decide
/-- the zeros of an octet -/
def zO (n : Nat) : Int := 8 - (([n / 128 % 2, n / 64 % 2, n / 32 % 2, n / 16 % 2, n / 8 % 2, n / 4 % 2, n / 2 % 2, n / 1 % 2].count 1 : Nat) : Int)
theorem zO_eq : ∀ n : Nat, n < 256 → zO n = (((bitsOf (n : Int)).count 0 : Nat) : Int) := by decide +kernel
theorem zO_sum : ∀ os : List Int, Oct os → (os.map fun o => zO o.toNat).sum = zc (bitsL os)
  | [], _ => rfl
  | o :: os, h => by
    have r := zO_sum os fun x hx => h x (List.mem_cons_of_mem _ hx)
    have ho := h o (List.mem_cons_self ..)
    obtain ⟨n, rfl⟩ := nat_of ho.1
    rw [List.map_cons, List.sum_cons, r, Int.toNat_natCast, zO_eq n (by omega), bitsL_cons]
    unfold zc
    rw [List.count_append]
    omega
theorem ty_int (K : PySem.W.Frag) (H : Hp) (i : Int) : TyX K H (.int i) (.type "int") := .base (.int i)
theorem bitAnd_nn (a b : Nat) : Builtin.bitAnd (a : Int) (b : Int) = ((a &&& b : Nat) : Int) := by
  rw [bitAnd_pp (by omega) (by omega)]
  rfl
theorem worth_nat (j : Nat) : (128 : Int) / 2 ^ j = ((128 / 2 ^ j : Nat) : Int) := by
  simp
/-- at bit n of octets -/
theorem at_bit {xs : List Int} {n : Nat} (ox : Oct xs) (h : n < 8 * xs.length) : ∃ o : Nat, o < 256 ∧ xs[n / 8]? = some (o : Int) ∧ (bitsL xs)[n]? = (bitsOf (o : Int))[n % 8]? := by
  obtain ⟨x, hx⟩ := get_lt (l := xs) (i := n / 8) (by omega)
  have hm := ox x (List.mem_of_getElem? hx)
  obtain ⟨o, rfl⟩ := nat_of hm.1
  refine ⟨o, by omega, hx, ?_⟩
  have e := bitsL_get xs (n / 8) (n % 8) (by omega)
  rw [hx] at e
  have e2 : 8 * (n / 8) + n % 8 = n := by omega
  rw [e2] at e
  exact e
theorem both_at {g : Int → Int → Int} {xs ys : List Int} {i : Nat} {x y u : V} (hx : (IV xs)[i]? = some x) (hy : (IV ys)[i]? = some y) (hu : (IV (both g xs ys))[i]? = some u) : ∃ m n : Int, x = .int m ∧ y = .int n ∧ u = .int (g m n) := by
  obtain ⟨m, hm, rfl⟩ := iv_get hx
  obtain ⟨n, hn, rfl⟩ := iv_get hy
  obtain ⟨k, hk, rfl⟩ := iv_get hu
  obtain ⟨m', n', hm', hn', rfl⟩ := both_get hk
  rw [hm] at hm'
  rw [hn] at hn'
  cases hm'
  cases hn'
  exact ⟨_, _, rfl, rfl, rfl⟩
theorem bitXor_nn (a b : Nat) : Builtin.bitXor (a : Int) (b : Int) = ((a ^^^ b : Nat) : Int) := by
  rw [Bits.bitXor_pp (by omega) (by omega)]
  rfl
/-- one unlike bit on -/
theorem one_turn {os done as' bs' U : List Int} {m : Int} {i : Nat} {p : Int} {rest : List Int} (ho : Oct os) (hb : bitsL os = done ++ as') (bb : Bit bs') (hl : as'.length = bs'.length) (hu : diffL (done.length : Int) as' bs' = p :: rest) :
    ∃ (n o : Nat) (x y : Int) (pre as2 bs2 : List Int), p = (n : Int) ∧ o < 256 ∧ os[n / 8]? = some (o : Int) ∧ n / 8 < os.length ∧ as'.length = pre.length + 1 + as2.length ∧ as2.length = bs2.length ∧ Bit bs2 ∧
      (∀ m, turned as' bs' m = pre ++ (if m % 2 = 1 then y else x) :: turned as2 bs2 (m / 2)) ∧ rest = diffL ((done.length + pre.length + 1 : Nat) : Int) as2 bs2 ∧ bitsL os = (done ++ pre ++ [x]) ++ as2 ∧
      Oct (os.set (n / 8) ((o ^^^ (128 / 2 ^ (n % 8)) : Nat) : Int)) ∧ bitsL (os.set (n / 8) ((o ^^^ (128 / 2 ^ (n % 8)) : Nat) : Int)) = (done ++ pre ++ [y]) ++ as2 := by
  obtain ⟨pre, x, y, as2, bs2, h1, h2, h3, h4, h5, h6, h7⟩ := diff_at as' bs' _ p rest hl hu
  have lb := bitsL_len os
  have hn : done.length + pre.length < 8 * os.length := by
    rw [← lb, hb, h1]
    simp
  obtain ⟨o, o1, o2, o3⟩ := at_bit ho hn
  have bx : (bitsL os)[done.length + pre.length]? = some x := by
    rw [hb, h1, List.getElem?_append_right (by omega), Nat.add_sub_cancel_left, List.getElem?_append_right (by omega)]
    simp
  have bx2 : (bitsOf (o : Int))[(done.length + pre.length) % 8]? = some x := by rw [← o3]; exact bx
  have hx : x = 0 ∨ x = 1 := bitsL_bit os x (List.mem_of_getElem? bx)
  have hy : y = 0 ∨ y = 1 := bb y (by rw [h2]; simp)
  have yx : y = 1 - x := by omega
  obtain ⟨t1, t2⟩ := bit_turn o o1 ((done.length + pre.length) % 8) (by omega)
  have gd : (bitsOf (o : Int)).getD ((done.length + pre.length) % 8) 0 = x := by rw [List.getD_eq_getElem?_getD, bx2]; rfl
  rw [gd, ← yx] at t2
  have st := bitsL_set os ((done.length + pre.length) / 8) ((done.length + pre.length) % 8) _ _ _ (by omega) o2 t2
  have e8 : 8 * ((done.length + pre.length) / 8) + (done.length + pre.length) % 8 = done.length + pre.length := by omega
  rw [e8] at st
  refine ⟨done.length + pre.length, o, x, y, pre, as2, bs2, by rw [h4]; simp, o1, o2, by omega, by rw [h1]; simp; omega, h6, fun b hbm => bb b (by rw [h2]; simp [hbm]), h7, by rw [h5, h4]; congr 1, ?_, ?_, ?_⟩
  · rw [hb, h1]
    simp
  · intro z hz
    rcases List.mem_or_eq_of_mem_set hz with z1 | z1
    · exact ho z z1
    · omega
  · rw [st, hb, h1, List.append_assoc, List.append_assoc, List.set_append_right _ _ (by omega), Nat.add_sub_cancel_left]
    congr 1
    rw [List.set_append_right _ _ (Nat.le_refl _), Nat.sub_self]
    rfl
theorem Sv.tupOf {H : Hp} {a : Addr} {xs : List V} {t : Bool} {Q : VK} (S : Sv t K H a xs) (q : ∀ p H', Evl.Ex H H' → SqT K H' p xs → Q (.ref p) H') : rTupI K [.ref a] H Q := by
  unfold rTupI
  cases t with
  | false => exact ⟨a, xs, rfl, .inl ⟨S, fun l hl => q l _ (Evl.Ex.new hl) (SqT.of upd_same)⟩⟩
  | true => exact ⟨a, xs, rfl, .inr ⟨S, q a H (Evl.Ex.refl _) S⟩⟩
theorem Sv.listOf {H : Hp} {a : Addr} {xs : List V} {t : Bool} {Q : VK} (S : Sv t K H a xs) (q : ∀ p, H p = none → Q (.ref p) (upd H p (.lst xs))) : rListI K [.ref a] H Q := by
  unfold rListI
  exact ⟨a, xs, rfl, S.either, q⟩
theorem test_false {c : TT} {t u : TS} {D : Ends} {σ : L2.St} {H : Hp} (hc : ∀ Q' : Bool → Hp → Prop, (∀ H1, Evl.Ex H H1 → Q' false H1) → c σ H Q') (hu : ∀ H1, Evl.Ex H H1 → u D σ H1) : tIfI c t u D σ H := by
  unfold tIfI
  exact hc _ fun H1 e => iteF (hu H1 e)
theorem mem3 {w p q r : Int} {A B : Prop} (h1 : (w = p ∨ w = q ∨ w = r) → A) (h2 : B) : if (if false = true then !inV (V.int w) [.int p, .int q, .int r] else inV (V.int w) [.int p, .int q, .int r]) = true then A else B := by
  have e : (if false = true then !inV (V.int w) [.int p, .int q, .int r] else inV (V.int w) [.int p, .int q, .int r]) = decide (w = p ∨ w = q ∨ w = r) := by
    simp [inV, eqV, Bool.beq_eq_decide_eq, eq_comm]
  rw [e]
  exact if_dec h1 fun _ => h2
theorem in3 (w p q r : Int) : inV (.int w) [.int p, .int q, .int r] = decide (w = p ∨ w = q ∨ w = r) := by
  simp [inV, eqV, Bool.beq_eq_decide_eq, eq_comm]
abbrev tn (xs ys : List Int) (m : Int) : List Int := octetsL (turned (bitsL xs) (bitsL ys) m)
theorem tn_spec {xs ys : List Int} (m : Int) (hl : xs.length = ys.length) : bitsL (tn xs ys m) = turned (bitsL xs) (bitsL ys) m ∧ Oct (tn xs ys m) ∧ (tn xs ys m).length = xs.length := by
  have lx := bitsL_len xs
  have ly := bitsL_len ys
  have l := turned_len (bitsL xs) (bitsL ys) m (by omega)
  exact octetsL_spec (by omega) (turned_bit _ _ m (bitsL_bit xs) (bitsL_bit ys))
theorem sm_oct {xs : List Int} (h : Oct xs) : Sm xs := fun n hn => by
  have := h n hn
  omega
theorem ex_b {a : Addr} {H0 H H' : Hp} (e : Evl.Ex H0 H) (h : H0 a = none) (x : Exb a H H') : Evl.Ex H0 H' := fun b o q => x b o (fun z => by rw [z, h] at q; cases q) (e b o q)
theorem same_eq {x : V} {A B : Prop} (h : A) : if decide (x = x) = true then A else B := by
  rw [decide_eq_true rfl]
  exact iteT h
theorem ones_ok {k : Nat} (h : k ≤ 4096) : 0 ≤ (2 : Int) ^ k - 1 ∧ (2 : Int) ^ k - 1 < MM := by
  have p := pow_nn k
  have q : (2 : Int) ^ k ≤ MM := pow_mono h
  omega
theorem same_v {x y : V} {A B : Prop} (e : x = y) (h : B) : if (!decide (x = y)) = true then A else B := by
  subst e
  exact same_ne h
theorem bits_rep (o b : Int) (h : bitsOf o = List.replicate 8 b) : ∀ c : Nat, bitsL (List.replicate c o) = List.replicate (8 * c) b
  | 0 => rfl
  | c + 1 => by
    rw [List.replicate_succ, bitsL_cons, bits_rep o b h c, h, List.replicate_append_replicate]
    congr 1
    omega
theorem bits_ones (c : Nat) : bitsL (List.replicate c 255) = List.replicate (8 * c) 1 := bits_rep 255 1 (by decide) c
theorem bits_none (c : Nat) : bitsL (List.replicate c 0) = List.replicate (8 * c) 0 := bits_rep 0 0 (by decide) c
theorem oct_0 (c : Nat) : Oct (List.replicate c 0) := fun o h => by rw [List.eq_of_mem_replicate h]; omega
theorem zc_ones (n : Nat) : zc (List.replicate n 1) = 0 := by
  unfold zc
  rw [List.count_replicate]
  rfl
theorem zc_none (n : Nat) : zc (List.replicate n 0) = n := by
  unfold zc
  rw [List.count_replicate_self]
theorem le_rep : ∀ n : Nat, Le (List.replicate n 0) (List.replicate n 1)
  | 0 => Le.refl _
  | n + 1 => by
    rw [List.replicate_succ, List.replicate_succ]
    have := le_rep n
    simp [Le, this]
theorem fallen_rep : ∀ (n : Nat) (k : Int), fallenL k (List.replicate n 1) (List.replicate n 0) = (List.range n).map fun (i : Nat) => k + (i : Int)
  | 0, k => rfl
  | n + 1, k => by
    rw [List.replicate_succ, List.replicate_succ, fallenL, if_pos ⟨rfl, rfl⟩, fallen_rep n (k + 1), List.range_succ_eq_map, List.map_cons, List.map_map]
    congr 1
    · simp
    · apply List.map_congr_left
      intro i _
      simp
      omega
theorem due_long {c n : Nat} {dd : List Int} (hn : n = 512) (h : n ≤ c) (hd : dd = List.replicate n 0 ++ List.replicate (c - n) 255) : octetsL (turned (bitsL (List.replicate c 255)) (bitsL (List.replicate c 0)) (2 ^ 4096 - 1)) = dd := by
  subst hd
  have n8 : 4096 = 8 * n := by omega
  rw [n8]
  clear n8 hn
  have e : 8 * c = 8 * n + 8 * (c - n) := by omega
  rw [bits_ones, bits_none, e, turned_first]
  have e2 : List.replicate (8 * n) (0 : Int) ++ List.replicate (8 * (c - n)) 1 = bitsL (List.replicate n 0 ++ List.replicate (c - n) 255) := by
    rw [bitsL_append, bits_none, bits_ones]
  rw [e2, octetsL_bitsL]
  intro o ho
  rcases List.mem_append.mp ho with z | z
  · exact oct_0 _ o z
  · exact oct_255 _ o z
theorem rep_flat (k : Nat) (o : Int) : (List.replicate k [V.int o]).flatten = IV (List.replicate k o) := by
  rw [iv_rep]
  simp
/-- (o,) * k -/
theorem mulT1 {H : Hp} {t : Addr} {k o : Int} {Q : VK} (S : SqT K H t [V.int o]) (h1 : 1 ≤ k) (h2 : k ≤ 1000) (q : ∀ (n : Nat) p H', (n : Int) = k → Evl.Ex H H' → SqT K H' p (IV (List.replicate n o)) → Q (.ref p) H') : rMulU1 K (.ref t) (.int k) H Q := by
  unfold rMulU1
  by_cases e : k = 1
  · subst e
    exact .inr ⟨t, _, rfl, rfl, S, q 1 t H rfl (Evl.Ex.refl _) S⟩
  · refine .inl (.inr (.inr ⟨t, k, _, rfl, rfl, S, by simp, by omega, h2, by simp, fun p hp => q k.toNat p _ (by omega) (Evl.Ex.new hp) ?_⟩))
    rw [rep_flat]
    exact SqT.of upd_same
theorem mulL1 {H : Hp} {t : Addr} {k o : Int} {Q : VK} (S : H t = some (.lst [V.int o])) (h1 : 1 ≤ k) (h2 : k ≤ 1000) (q : ∀ (n : Nat) p H', (n : Int) = k → H p = none → Evl.Ex H H' → H' p = some (.lst (IV (List.replicate n o))) → Q (.ref p) H') : rMulU1 K (.ref t) (.int k) H Q := by
  unfold rMulU1
  refine .inl (.inr (.inl ⟨t, _, _, rfl, rfl, S, by omega, by omega, ?_, fun p hp => q k.toNat p _ (by omega) hp (Evl.Ex.new hp) ?_⟩))
  · exact Evl.sz_of (by simp; omega)
  · rw [upd_same, rep_flat]
theorem mulI1 {H : Hp} {i j : Int} {Q : VK} (c : CMulX i j) (q : Q (.int (i * j)) H) : rMulU1 K (.int i) (.int j) H Q := by
  unfold rMulU1
  exact .inl (.inl ⟨i, j, rfl, rfl, c, q⟩)
theorem rg_iv (n : Nat) : rgV 0 (n : Int) = IV ((List.range n).map fun (i : Nat) => (0 : Int) + (i : Int)) := by
  have e : ((n : Int) - 0).toNat = n := by omega
  have e2 : ∀ l : List Int, IV l = l.map V.int := fun _ => rfl
  unfold rgV
  rw [e, e2, List.map_map]
  rfl
end
end VB
/-! errors with a value: made, raised, caught by several clauses with a name, their value read -/
namespace VB
open PySem PySem.Spec PyProof.Rows L2
/-! ### try: .. except A as n: .. except B as n: .. -/
/-- what the clauses wish of an exception of the body, one behind the other; slot i is n's -/
def wManyAs (K : PySem.W.Frag) (i : Nat) (Wout : WX) (D : Ends) : List (Value × (Addr → Value → Option Addr → TS)) → WX
  | [] => Wout
  | (c, ts) :: r => fun cls d σ H => ∃ b, PySem.W.exmOne K cls c = some b ∧
      (b = true → ∀ a, H a = none → ts a cls d { nx := fun σ' H' => D.nx (σ'.set i none) H', rt := D.rt, bk := fun σ' H' => D.bk (σ'.set i none) H', ct := fun σ' H' => D.ct (σ'.set i none) H' } (σ.set i (some (.ref a))) H) ∧
      (b = false → wManyAs K i Wout D r cls d σ H)
inductive HdsAs (X : Cx) (i : Nat) (n : Str) : List ExceptHandler → List (Value × (Addr → Value → Option Addr → TS)) → Prop
  | nil : HdsAs X i n [] []
  | cons {x : Str} {c : Value} {ts : Addr → Value → Option Addr → TS} {b₀ : Stmt} {suite : List Stmt} {np pos' : Pos} {hds : List ExceptHandler} {l : List (Value × (Addr → Value → Option Addr → TS))} (hc : Names X x c)
      (hsu : ∀ (a : Addr) (oe : Obj) (cls : Value) (d : Option Addr) (pn : List (Addr × Obj)), Zc cls d oe → (∃ vs, oe.data = .fields vs) → PSs (X.suite a ((a, oe) :: pn)) (b₀ :: suite) (ts a cls d)) (r : HdsAs X i n hds l) :
      HdsAs X i n (.ExceptHandler (some (.Name x np)) (some n) (b₀ :: suite) pos' :: hds) ((c, ts) :: l)
section
variable {X : Cx} {body : List Stmt} {h₀ : ExceptHandler} {hds : List ExceptHandler} {l : List (Value × (Addr → Value → Option Addr → TS))} {pos : Pos} {tb : WX → TS} {Wout : WX} {i : Nat} {n : Str}
theorem ps_try_manyAs (hs : X.stack = X.env :: X.outer) (hf : X.env.frame = some X.env.locals) (hN : X.N.Nodup) (hi : X.N[i]? = some n) (hln : X.env.kindOf n = some .local) (tk : Takes X Wout)
    (hb : ∀ (W : WX) (pn : List (Addr × Obj)) (xe : Value → Shared → Prop), Takes (X.tr pn xe) W → PassesOwn (model X.prog X.w) X.A X.env xe → PSs (X.tr pn xe) body (tb W))
    (hh : HdsAs X i n (h₀ :: hds) l) : PS X (.Try body (h₀ :: hds) [] [] pos) (fun D σ H => tb (wManyAs X.K i Wout D l) D σ H) := by
  refine ⟨fun pins s σ H D I h => ?_⟩
  have ok := I.ok
  have hfr : X.A.frames = some (X.env :: X.outer) := by rw [ok.frames, hs]
  have hloc : Loc X.env.scope n := .inl hln
  refine wpAny_Try_except ?_
  refine wpAny_mono ((hb (wManyAs X.K i Wout D l) (X.pn ++ pins) (fun e s₁ => wpAny (model X.prog X.w) X.A (noteFrame e X.env) (fun _ s₂ => wpAny (model X.prog X.w) X.A (setFlight e none) (fun _ s₃ =>
    wpAny (model X.prog X.w) X.A (handleBy e X.env (h₀ :: hds)) (SP X pins D) X.xe s₃) X.xe s₂) X.xe s₁) (fun u s' xx => ?_) PassesOwn.looking).run [] s σ H D (I.toTry _) h) (fun f s1 hsp => ?_) (fun e s1 he => he)
  · -- the catch
    obtain ⟨a, B, sI, pins', σ', H', cls, d, rfl, J', nb, up, sky, na, os, ag, w⟩ := xx
    have J : Inv X pins σ' H' sI := J'.ofTry ok
    have sky' : Sky B (X.env :: X.outer) a (Zc cls d) X.env.locals s'.heap := by rw [← hs]; exact sky
    show wpAny (model X.prog X.w) X.A (noteFrame (.ref a) X.env) _ _ _
    refine Sky.land Zc.steady hfr hf sky' fun h3 fl3 up3 => ?_
    have J3 : Inv X pins σ' H' { s' with heap := h3 } := J.landed nb fl3.1 (up.trans up3) os ag
    obtain ⟨oe3, vs3, he3, hz3, hd3⟩ := fl3.there
    have notFr : ∀ {h : Heap} {o : Obj} {vs : Array Value}, h.FunFrames B (X.env :: X.outer) → h.get? a = some o → o.data = .fields vs → a ∉ frs (X.env :: X.outer) := fun {h o vs} ff e dd hm => by
      obtain ⟨_, o', e', hnf⟩ := ff.mem hm
      rw [e] at e'; cases e'
      exact hnf _ dd
    have nfr := notFr fl3.2.2.1 he3 hd3
    have nL : a ≠ X.env.locals := fun z => nfr (List.mem_filterMap.mpr ⟨X.env, List.mem_cons_self, by rw [hf, z]⟩)
    have nF : a ∉ X.fs := fun hm => by
      obtain ⟨e, he, q⟩ := List.mem_filterMap.mp hm
      exact nfr (List.mem_filterMap.mpr ⟨e, List.mem_cons_of_mem _ he, q⟩)
    have S3 := J3.suite he3 hd3 na nL nF
    have go : ∀ {hds' : List ExceptHandler} {l' : List (Value × (Addr → Value → Option Addr → TS))}, HdsAs X i n hds' l' → wManyAs X.K i Wout D l' cls d σ' H' →
        wpAny (model X.prog X.w) X.A (handleBy (.ref a) X.env hds') (SP X pins D) X.xe { s' with heap := h3 } := by
      intro hds' l' hk
      induction hk with
      | nil =>
        intro w
        refine wpAny_handleBy_nil ?_
        obtain ⟨k1, k2, k3, oe, vs, T, oT, ts', he, hz, hd, h1, hr⟩ := id fl3
        unfold PySem.passOn
        refine wpAny_bind (wpAny_field he hd h1 ?_)
        rw [if_neg (show ¬ ((Value.ref T == Value.none) = true) from by simp)]
        have fin : wpAny (model X.prog X.w) X.A (setFlight (.ref a) X.env.frame) (fun _ s4 => wpAny (model X.prog X.w) X.A (throw (.ref a) : Sem Flow) (SP X pins D) X.xe s4) X.xe { s' with heap := h3 } := by
          rw [hf]
          refine HandSPX.setFlight_upZ fl3 fun h4 hh4 up4 => wpAny_throw (tk _ _ ?_)
          exact ⟨a, B, sI, pins, σ', H', cls, d, rfl, J, nb, (up.trans up3).trans up4, .inr (.inr (by rw [hs]; exact hh4)), na, os, ag, w⟩
        first
          | exact wpAny_bind (wpAny_pure (wpAny_bind fin))
          | exact wpAny_bind fin
      | @cons x c ts b₀ suite np pos' hds2 l2 hc hsu r ih =>
        intro w
        obtain ⟨b, hb1, hyes, hno⟩ := w
        refine wpAny_handleBy_cons (codeAny_handlers_test ?_) (by intro q; cases q)
        have LT : PySem.W.Looks (model X.prog X.w) h3 (typeOf (.ref a)) cls := fun A Q E s k q => wpAny_typeOf_ref (k _ _ he3) (by rw [hz3.1]; exact q)
        have LM := PySem.W.exm_one (M := model X.prog X.w) (J3.kIn) LT hb1
        have test : ∀ {Q : Value → Shared → Prop} {E : Value → Shared → Prop}, Q c { s' with heap := h3 } → wpAny (model X.prog X.w) (X.A.mark (some (.ref a))) (eval (.Name x np) X.env) Q E { s' with heap := h3 } := fun {Q E} q => by
          obtain ⟨hg, hdbg, hm | ⟨hm, hv, hnn⟩⟩ := hc
          · exact ld_glob (X := X.suite a ((a, oe3) :: (X.pn ++ pins))) S3 hg hm q hdbg
          · exact ld_blt (X := X.suite a ((a, oe3) :: (X.pn ++ pins))) S3 hg hm hv q hnn hdbg
        refine test (LM.here ?_)
        cases b with
        | true =>
          refine codeAny_handlers_suite_as ?_
          refine HandSPX.lands_againZ fl3 fun h4 fl4 up4 => ?_
          have J4 : Inv X pins σ' H' { s' with heap := h4 } := J.landed nb fl4.1 ((up.trans up3).trans up4) os ag
          obtain ⟨oe4, vs4, he4, hz4, hd4⟩ := fl4.there
          have S4 := J4.suite he4 hd4 na nL nF
          refine store_ok (X := X.suite a ((a, oe4) :: (X.pn ++ pins))) (v := .ref a) S4 hN hi hloc rfl (fun s5 S5 => ?_) (.inr hln)
          refine wpAny_mono ((hsu a oe4 cls d (X.pn ++ pins) hz4 ⟨_, hd4⟩).run [] s5 _ H' _ S5 (hyes rfl a na)) (fun f s6 hsp => ?_) (fun _ _ z => False.elim z)
          have end_ : ∀ {σ6 : L2.St} {H6 : Hp} {Q : Shared → Prop}, Inv (X.suite a ((a, oe4) :: (X.pn ++ pins))) [] σ6 H6 s6 → (∀ s7, Inv X pins (σ6.set i none) H6 s7 → Q s7) →
              wpAny (model X.prog X.w) X.A (do bindName X.env n .none; unbindBehindTheSuite X.env n pos') (fun _ s7 => Q s7) X.xe s6 := fun {σ6 H6 Q} S6 hq => gone_ok (S6.unsuite ok) hN hi hln hq
          cases f with
          | next =>
            obtain ⟨σ6, H6, S6, q6⟩ := hsp
            exact end_ S6 fun s7 J7 => ⟨_, _, J7, q6⟩
          | brk =>
            obtain ⟨σ6, H6, S6, q6⟩ := hsp
            exact end_ S6 fun s7 J7 => ⟨_, _, J7, q6⟩
          | cont =>
            obtain ⟨σ6, H6, S6, q6⟩ := hsp
            exact end_ S6 fun s7 J7 => ⟨_, _, J7, q6⟩
          | ret u =>
            obtain ⟨v6, σ6, H6, S6, r6, q6⟩ := hsp
            exact end_ S6 fun s7 J7 => ⟨_, _, _, J7, r6, q6⟩
        | false =>
          show wpAny _ X.A (handleBy (.ref a) X.env hds2) _ _ _
          exact ih (hno rfl)
    exact go hh w
  · cases f with
    | next =>
      obtain ⟨σ', H', J', q⟩ := hsp
      exact wpAny_execs_nil ⟨σ', H', J'.ofTry ok, q⟩
    | brk =>
      obtain ⟨σ', H', J', q⟩ := hsp
      exact ⟨σ', H', J'.ofTry ok, q⟩
    | cont =>
      obtain ⟨σ', H', J', q⟩ := hsp
      exact ⟨σ', H', J'.ofTry ok, q⟩
    | ret u =>
      obtain ⟨v, σ', H', J', r, q⟩ := hsp
      exact ⟨v, σ', H', J'.ofTry ok, r, q⟩
end
/-! ### calls within a try -/
section
variable {X : Cx} {CX : CXT} {k n : Nat} {ps ks : List Str} {sp : Sp} {E : L2.St → XK} {x : Str} {p pos : Pos}
  {e : Expr} {es : List Expr} {kws : List Keyword} {t tk : TA} {g : List Value → List Value → List Value} {gV : List V → List V → List V}
theorem backS {pins : List (Addr × Obj)} {σ : L2.St} {H : Hp} {s s' : Shared} {Q : VK} {E : XK} {r : Result}
    (hx : PassesAt CX X σ E) (I : Inv X pins σ H s) (hq : CR CX X.stack X.prog X.w H s Q E r s') :
    match r with
    | .ok (.ret u) => EP X pins σ Q u s'
    | .ok _ => False
    | .error e => X.xe e s' := by
  cases r with
  | error e => exact hx pins H s e s' I hq
  | ok fl =>
    cases fl with
    | ret u => exact I.after hq
    | next => exact hq
    | brk => exact hq
    | cont => exact hq
theorem enterS {f : Addr} {fd : FuncData} {pins : List (Addr × Obj)} {σ : L2.St} {H : Hp} {s : Shared} {Q : VK} {E : XK}
    {args : Args} {us : List Value} {vs : List V} (F : Fg X.prog X.w X.K X.mg X.base CX k f fd ps sp)
    (hr : Rm k X.A) (hx : PassesAt CX X σ E) (I : Inv X pins σ H s) (hb : BindsTo s fd args (ps.zip us))
    (r : Vals vs us) (h : sp vs H Q E) :
    wpAny (model X.prog X.w) X.A (call (.ref f) args.pos args.kw) (EP X pins σ Q) X.xe s := by
  refine wpAny_call (codeAny_mono (F.go X.A X.stack s H args us vs Q E hr I.env0 hb r h) ?_)
  intro r s' hq
  have z := backS hx I hq
  cases r with
  | error e => exact z
  | ok fl =>
    cases fl with
    | ret u => exact z
    | next => exact z.elim
    | brk => exact z.elim
    | cont => exact z.elim
theorem pe_calS (C : Cal X.prog X.w X.K X.mg X.base CX k x ps sp) (hr : Rm k X.A) (hx : ∀ σ, PassesAt CX X σ (E σ))
    (ha : PA X (e :: es) t) (hg : Gl X x := by rfl) (hdb : (x == ("__debug__" : Str)) = false := by decide)
    (he : starEach (e :: es) X.env = (false, eval e X.env) :: starEach es X.env := by rfl)
    (hpl : (backTo pos (starEach es X.env)).any (·.1) = false := by rfl) :
    PE X (.Call (.Name x p) (e :: es) [] pos) (tCallS sp E t) := by
  obtain ⟨f, fd, F, hm, hk, hb⟩ := C.ex
  constructor
  intro pins s σ H Q I h
  refine wpAny_Call_Name_kw (ld_glob I hg hm ?_ hdb)
  refine PySem.W.callWith_K (h₀ := X.base) I.ok.mod.kin hk (thn (ha.run pos pins s σ H _ I h) ?_) he hpl
  rintro us s1 ⟨vs, H1, I1, r, q⟩
  have q : sp vs H1 Q (E σ) := q
  have l : (us ++ []).length = ps.length := by
    rw [List.append_nil, ← r.length]
    exact F.cnt _ _ _ _ q
  have b := hb s1 us I1.kIn l
  rw [List.append_nil] at b
  exact ⟨I1.kIn, enterS (args := ⟨us, []⟩) F hr (hx σ) I1 b r q⟩
def tCallSN (n m : Nat) (sp : Sp) (gV : List V → List V → List V) (E : L2.St → XK) (tk : TA) : TE := fun σ H Q => tk σ H fun zs H2 => zs.length = m ∧ sp (gV [] zs) H2 Q (E σ)
theorem pe_calkS (C : CalK X.prog X.w X.K X.mg X.base CX k x ps 0 ks g gV sp) (hr : Rm k X.A) (hx : ∀ σ, PassesAt CX X σ (E σ))
    (hkw : PK X kws tk) (hg : Gl X x := by rfl)
    (hall : (backToKw pos (keywordEach kws X.env)).all (·.1.isSome) = true := by rfl)
    (hks : (backToKw pos (keywordEach kws X.env)).filterMap (·.1) = ks := by rfl)
    (hdb : (x == ("__debug__" : Str)) = false := by decide)
    (hpl : ((backTo pos (starEach [] X.env)).any (·.1) || (backToKw pos (keywordEach kws X.env)).any (·.1.isNone)) = false := by rfl) :
    PE X (.Call (.Name x p) [] kws pos) (tCallSN 0 ks.length sp gV E tk) := by
  obtain ⟨f, fd, F, hm, hk, hb⟩ := C.ex
  constructor
  intro pins s σ H Q I h
  refine wpAny_Call_Name_kw (ld_glob I hg hm ?_ hdb)
  have h : tk σ H fun zs H2 => zs.length = ks.length ∧ sp (gV [] zs) H2 Q (E σ) := h
  refine PySem.W.callWith_KW0 (h₀ := X.base) I.ok.mod.kin hk hall (thn (hkw.run pos pins s σ H _ I h) ?_) hpl
  rintro ws s2 ⟨zs, H2, I2, rz, l2, q2⟩
  refine ⟨I2.kIn, ?_⟩
  rw [hks]
  exact enterS (args := ⟨[], ks.zip ws⟩) F hr (hx σ) I2
    (hb.to s2 [] ws I2.kIn rfl (rz.length.symm.trans l2)) (hb.rel .nil rz) q2
end
/-! ### errors that carry one value -/
/-- the __init__ of a class statement -/
def initOf : Stmt → Stmt
  | .ClassDef (body := b) .. => b.headD (.Pass ⟨0, 0, 0, 0⟩)
  | s => s
/-- the class x at C, its __init__ at fI, its value's name g -/
structure ErrC (K : PySem.W.Frag) (mg : Str → Option Value) (x g : Str) (C fI : Addr) : Prop where
  oex : OexC K C
  gC : mg x = some (.ref C)
  iC : PySem.W.findIn K (.ref C) "__init__" = some (some (.ref fI))
  tI : PySem.W.typeIn K (.ref fI) = some (.type "function")
  noG : PySem.W.findIn K (.ref C) g = some none
  xf : XfC K C
/-- what __init__ does -/
def spInit (K : PySem.W.Frag) (g : Str) : Sp := fun vs H Q _ => ∃ (a C : Addr) (y : V), vs = [.ref a, y] ∧ OexC K C ∧ PySem.W.findIn K (.ref C) g = some none ∧ H a = some (exo a C none) ∧
  ∀ dx, H dx = none → dx ≠ a → Q .non (upd (upd H dx (exd dx [(g, y)])) a (exo a C (some dx)))
/-- the reading of C(y), at its end -/
theorem made {K : PySem.W.Frag} {g : Str} {C : Addr} {y : V} {H1 : Hp} {Q : XK} (T : OexC K C) (hn : PySem.W.findIn K (.ref C) g = some none) (q : ∀ d, H1 d = none → Q (.ref C) (some d) (upd H1 d (.xd [(g, y)]))) :
    [y].length ≤ 1000 ∧ ∀ a, H1 a = none → spInit K g (.ref a :: ([y] ++ [])) (upd H1 a (exo a C none))
      (fun v H2 => v = .non ∧ ∃ (d : Addr) (fs : List (Str × V)), H2 a = some (exo a C (some d)) ∧ H2 d = some (exd d fs) ∧ H1 d = none ∧ Q (.ref C) (some d) (upd (del H2 a) d (.xd fs))) (fun _ _ _ => False) := by
  refine ⟨by simp, fun a na => ⟨a, C, y, rfl, T, hn, upd_same, fun dx nd ne => ⟨rfl, dx, [(g, y)], upd_same, ?_, ?_, ?_⟩⟩⟩
  · rw [upd_ne ne, upd_same]
  · rw [upd_ne ne] at nd
    exact nd
  · rw [upd_ne ne] at nd
    have e : upd (del (upd (upd (upd H1 a (exo a C none)) dx (exd dx [(g, y)])) a (exo a C (some dx))) a) dx (.xd [(g, y)]) = upd H1 dx (.xd [(g, y)]) := by
      funext b
      by_cases hb : b = dx
      · subst hb
        rw [upd_same, upd_same]
      · rw [upd_ne hb, upd_ne hb]
        by_cases ha : b = a
        · subst ha
          rw [del_same, na]
        · rw [del_ne ha, upd_ne ha, upd_ne hb, upd_ne ha]
    rw [e]
    exact q dx nd
end VB
/-! methods and makings, of defs told as Fg -/
namespace VB
open PySem PySem.Spec PyProof.Rows L2
theorem Rm.make {k : Nat} {A : Around} (r : Rm (k + 1) A) (C : Addr) (us : List Value) (kw : List (Str × Value)) : Rm k (A.under (.builtin "type.__call__" ⟨.ref C :: us, kw⟩)) :=
  ⟨r.rm.make C us kw, r.gd⟩
section
variable (P : Program) (w : World) (K : PySem.W.Frag) (mg : Str → Option Value) (base : Heap) (CX : CXT) (k : Nat)
/-- a method of the class at C -/
structure CalM (C : Addr) (m : Str) (ps : List Str) (sp : Sp) : Prop where
  ex : ∃ (f : Addr) (fd : FuncData), Fg P w K mg base CX k f fd ps sp ∧ Cls K C ∧ Meth K C m f ∧ Binds K fd ps []
/-- .. called with keywords -/
structure CalMK (C : Addr) (m : Str) (ps : List Str) (n : Nat) (ks : List Str) (g : List Value → List Value → List Value) (gV : List V → List V → List V) (sp : Sp) : Prop where
  ex : ∃ (f : Addr) (fd : FuncData), Fg P w K mg base CX k f fd ps sp ∧ Cls K C ∧ Meth K C m f ∧ KBn K fd ps n ks g gV
/-- the class x, made -/
structure Mak (x : Str) (C : Addr) (ps : List Str) (sp : Sp) : Prop where
  ex : ∃ (f : Addr) (fd : FuncData), Fg P w K mg base CX k f fd ps sp ∧ Mk K C f ∧ mg x = some (.ref C) ∧ Binds K fd ps []
structure MakK (x : Str) (C : Addr) (ps : List Str) (n : Nat) (ks : List Str) (g : List Value → List Value → List Value) (gV : List V → List V → List V) (sp : Sp) : Prop where
  ex : ∃ (f : Addr) (fd : FuncData), Fg P w K mg base CX k f fd ps sp ∧ Mk K C f ∧ mg x = some (.ref C) ∧ KBn K fd ps n ks g gV
end
section
variable {X : Cx} {CX : CXT} {k n : Nat} {ps ks : List Str} {sp : Sp} {E : XK} {x m : Str} {p pos apos : Pos} {C : Addr}
  {e o : Expr} {es : List Expr} {kws : List Keyword} {t tk : TA} {ta : TE}
  {g : List Value → List Value → List Value} {gV : List V → List V → List V}
/-- what a call of a method is, step by step -/
abbrev askM (X : Cx) (o : Expr) (m : Str) (pl : Sem Bool) (apos pos : Pos) (zs : List Expr) : Sem Value := do let u ← eval o X.env; standAt apos.atName; let (g, as) ← holding [u] (getMethod u m pl); callWith pos g as (backTo pos (starEach zs X.env)) (backToKw pos (keywordEach [] X.env))
theorem pe_calM {pl : Sem Bool} (M : CalM X.prog X.w X.K X.mg X.base CX k C m ps sp) (hr : Rm k X.A) (hx : Passes CX X E) (he : PE X o ta) (ha : PA X (e :: es) t)
    (hst : starEach (e :: es) X.env = (false, eval e X.env) :: starEach es X.env := by rfl) (hpl : (backTo pos (starEach es X.env)).any (·.1) = false := by rfl)
    (ht : eval (.Call (.Attribute o m apos) (e :: es) [] pos) X.env = askM X o m pl apos pos (e :: es) := by rfl) :
    PE X (.Call (.Attribute o m apos) (e :: es) [] pos) (tMeth C m sp [] E ta t) := by
  obtain ⟨f, fd, F, c, hm, hb⟩ := M.ex
  constructor
  intro pins s σ H Q I h
  refine PySem.W.methodCall_KW (pl := pl) (thn (he.run pins s σ H _ I h) ?_) ht
  rintro u s1 ⟨x, H1, I1, rx, a, dx, fs, rfl, ea, l, q⟩
  obtain rfl : u = Value.ref a := rx
  refine getmeth_ok I1 ea c hm l ?_
  refine PySem.W.callWith_K (first := [.ref a]) (h₀ := X.base) I.ok.mod.kin hm.kp (thn (ha.run pos pins s1 σ H1 _ I1 q) ?_) hst hpl
  rintro us s2 ⟨vs, H2, I2, r, q2⟩
  have q3 : sp (.ref a :: (vs ++ [])) H2 Q E := q2
  rw [List.append_nil] at q3
  have r2 : Vals (V.ref a :: vs) (Value.ref a :: us) := .cons rfl r
  have b := hb s2 (.ref a :: us) I2.kIn (by rw [List.append_nil, ← r2.length]; exact F.cnt _ _ _ _ q3)
  rw [List.append_nil] at b
  exact ⟨I2.kIn, enter (args := ⟨.ref a :: us, []⟩) F hr hx I2 b r2 q3⟩
theorem pe_calM0 {pl : Sem Bool} (M : CalM X.prog X.w X.K X.mg X.base CX k C m ps sp) (hr : Rm k X.A) (hx : Passes CX X E) (he : PE X o ta)
    (ht : eval (.Call (.Attribute o m apos) [] [] pos) X.env = askM X o m pl apos pos [] := by rfl) :
    PE X (.Call (.Attribute o m apos) [] [] pos) (tMeth C m sp [] E ta tNil) := by
  obtain ⟨f, fd, F, c, hm, hb⟩ := M.ex
  constructor
  intro pins s σ H Q I h
  refine PySem.W.methodCall_KW (pl := pl) (thn (he.run pins s σ H _ I h) ?_) ht
  rintro u s1 ⟨x, H1, I1, rx, a, dx, fs, rfl, ea, l, q⟩
  obtain rfl : u = Value.ref a := rx
  refine getmeth_ok I1 ea c hm l ?_
  have q3 : sp [.ref a] H1 Q E := q
  have b := hb s1 [.ref a] I1.kIn (F.cnt _ _ _ _ q3)
  exact PySem.W.callWith_K0 (first := [.ref a]) I1.kIn hm.kp (enter (args := ⟨[.ref a], []⟩) F hr hx I1 b (show Vals [V.ref a] [Value.ref a] from .cons rfl .nil) q3)
theorem run_mak {f : Addr} {fd : FuncData} {pins : List (Addr × Obj)} {σ : L2.St} {H : Hp} {s : Shared} {Q : VK} {us : List Value} {kw : List (Str × Value)} {zs : List Value} {vs : List V} (M : Mk X.K C f) (F : Fg X.prog X.w X.K X.mg X.base CX k f fd ps sp) (hr : Rm (k + 1) X.A)
    (hx : Passes CX X E) (I : Inv X pins σ H s)
    (h : ∀ x dx, H x = none → H dx = none → dx ≠ x → sp (.ref x :: vs) (upd (upd H dx (.own x)) x (.ins C dx [])) (fun v H2 => v = .non ∧ Q (.ref x) H2) E)
    (hb : ∀ (s2 : Shared), X.K.In s2.heap → BindsTo s2 fd ⟨.ref (s.heap.objs.size + 1) :: us, kw⟩ (ps.zip (.ref (s.heap.objs.size + 1) :: zs))) (r : Vals vs zs) :
    wpAny (model X.prog X.w) X.A (call (.ref C) us kw) (EP X pins σ Q) X.xe s := by
  have hq := h (s.heap.objs.size + 1) s.heap.objs.size (I.hok.fresh (Nat.le_succ _)) (I.hok.fresh (Nat.le_refl _)) (Nat.ne_of_lt (Nat.lt_succ_self _))
  have I2 := Inv.made (C := C) I
  refine wpAny_call (make_map (f := f) I.kIn M.makes M.init (beq_iff_eq.mp M.fn) (codeAny_mono (F.go _ X.stack _ _ ⟨.ref (s.heap.objs.size + 1) :: us, kw⟩ (.ref (s.heap.objs.size + 1) :: zs) _ _ E (hr.make C us kw)
    (I2.env0.make C us kw) (hb _ I2.kIn) (show Vals (V.ref (s.heap.objs.size + 1) :: vs) (Value.ref (s.heap.objs.size + 1) :: zs) from .cons rfl r) hq) ?_))
  intro r' s' hq'
  cases r' with
  | error e => exact hx pins σ _ _ e s' I2 hq'
  | ok fl =>
    cases fl with
    | ret u =>
      obtain ⟨v, H', I3, rv, ev, q3⟩ := I2.after hq'
      subst ev
      exact ⟨rv, ⟨V.ref (s.heap.objs.size + 1), H', I3, rfl, q3⟩⟩
    | next => exact False.elim hq'
    | brk => exact False.elim hq'
    | cont => exact False.elim hq'
theorem pe_mak (M : Mak X.prog X.w X.K X.mg X.base CX k x C ps sp) (hr : Rm (k + 1) X.A) (hx : Passes CX X E) (ha : PA X (e :: es) t) (hg : Gl X x := by rfl) (hdb : (x == ("__debug__" : Str)) = false := by decide)
    (he : starEach (e :: es) X.env = (false, eval e X.env) :: starEach es X.env := by rfl) (hpl : (backTo pos (starEach es X.env)).any (·.1) = false := by rfl) :
    PE X (.Call (.Name x p) (e :: es) [] pos) (tMake C sp [] E t) := by
  obtain ⟨f, fd, F, mk, hm, hb⟩ := M.ex
  constructor
  intro pins s σ H Q I h
  refine wpAny_Call_Name_kw (ld_glob I hg hm ?_ hdb)
  refine PySem.W.callWith_K (h₀ := X.base) I.ok.mod.kin mk.kp (thn (ha.run pos pins s σ H _ I h) ?_) he hpl
  rintro us s1 ⟨vs, H1, I1, r, q⟩
  refine ⟨I1.kIn, run_mak (vs := vs) (zs := us) mk F hr hx I1 (fun x dx a b c => ?_) (fun s2 k2 => ?_) r⟩
  · have z := q x dx a b c
    rw [List.append_nil] at z
    exact z
  · have q0 := q (s1.heap.objs.size + 1) s1.heap.objs.size (I1.hok.fresh (Nat.le_succ _)) (I1.hok.fresh (Nat.le_refl _)) (Nat.ne_of_lt (Nat.lt_succ_self _))
    have l := F.cnt _ _ _ _ q0
    have b := hb s2 (.ref (s1.heap.objs.size + 1) :: us) k2 (by rw [List.append_nil, ← l, List.append_nil, List.length_cons, List.length_cons, r.length])
    rw [List.append_nil] at b
    exact b
/-- +: ints, lists, and tuples of any length -/
def rAddA (K : PySem.W.Frag) : R2 := fun x y H Q => rAddU K x y H Q ∨ rCatA K x y H Q
theorem u_addA {K : PySem.W.Frag} (hK : X.K = K := by rfl) : OpR X (binaryOp .Add) (rAddA K) := by
  subst hK
  exact (u_add rfl).or op_catA
/-- an item of a list, at a place from the front -/
def rGetL (K : PySem.W.Frag) : R2 := fun x y H Q => ∃ p xs i z, x = .ref p ∧ y = .int (i : Nat) ∧ SqL K H p xs ∧ xs[i]? = some z ∧ i < 1000000 ∧ Q z H
theorem get_list {K : PySem.W.Frag} (hK : X.K = K := by rfl) : PGet X (rGetL K) := by
  subst hK
  intro pins s σ H x y v u Q I rx ry h
  obtain ⟨p, xs, i, z, rfl, rfl, hq, he, hi, q⟩ := h
  cases rx
  obtain ⟨t, rfl⟩ := ry
  obtain ⟨its, r, pl, hz⟩ := I.list hq
  obtain ⟨w, ew, rw'⟩ := r.get he
  exact wpAny_getItem_list pl.isList (by omega) (by omega) (by simpa using ew) ⟨z, H, I, rw', q⟩
theorem pe_fldU {K : PySem.W.Frag} {f : Str} (he : PE X e ta) (hb : attributeBase e f X.env (eval e X.env) = eval e X.env) (hK : X.K = K := by rfl) : PE X (.Attribute e f pos) (tFld K ta f) := by
  subst hK
  exact pe_fld he hb
theorem ps_fldU {K : PySem.W.Frag} {value : Expr} {tv : TE} {f : Str} {pos' : Pos} (ha : PE X o ta) (hv : PE X value tv) (hs : swapsWith value (some (.Attribute o f pos')) pos.line X.env = pure false) (hK : X.K = K := by rfl) : PS X (.Assign [.Attribute o f pos'] value pos) (sFld K ta tv f) := by
  subst hK
  exact ps_fld ha hv hs
theorem ps_fldaugU {K : PySem.W.Frag} {value : Expr} {tv : TE} {f : Str} {tpos : Pos} {op : Operator} {rd : V → V → Hp → VK → Prop} (ha : PE X o ta) (hv : PE X value tv) (hop : InOp X op rd) (hK : X.K = K := by rfl) : PS X (.AugAssign (.Attribute o f tpos) op value pos) (sFldAug K ta tv rd f) := by
  subst hK
  exact ps_fldaug ha hv hop
theorem pe_dpop2U {f : Expr} {cpos : Pos} {td ty tx : TE} (ho : PE X o td) (he : PE X e ty) (hf : PE X f tx) (h1 : attributeBase o "pop" X.env (eval o X.env) = eval o X.env := by rfl)
    (h2 : ((backTo cpos (starEach [e, f] X.env)).all (fun x => !x.1) && (backToKw cpos (keywordEach [] X.env)).all (fun x => x.1.isSome)
      && decide (([e, f] : List Expr).length + ([] : List Keyword).length + (if ([] : List Keyword).isEmpty then 0 else 1) < 30)) = true := by rfl)
    (h3 : (apos.endLine == cpos.line) = true := by rfl) (h4 : backTo cpos (starEach [e, f] X.env) = [(false, eval e X.env), (false, eval f X.env)] := by rfl) :
    PE X (.Call (.Attribute o "pop" apos) [e, f] [] cpos) (tDPop2 td ty tx) := pe_dpop2 ho he hf ⟨h1, h2, h3, h4⟩
end
end VB
/-! repr of data, of truths and of ints -/
namespace VB
open PySem PySem.Spec PyProof.Rows L2
section
variable {X : Cx}
theorem call_repr_bl : CallR X (.builtin "repr") (fun xs H Q => ∃ b : Bool, xs = [.bl b] ∧ Q (.str (if b then "True" else "False")) H) := by
  intro pins s σ H xs us Q I r h
  obtain ⟨b, rfl, q⟩ := h
  obtain ⟨u, rfl, ru⟩ := vals1 r
  cases (show u = Value.bool b from ru)
  exact PySem.P.repr_of_bool ⟨.str _, H, I.tok _, ⟨_, rfl⟩, q⟩
end
def rReprU (K : PySem.W.Frag) : List V → Hp → VK → Prop := fun xs H Q => rRepr K xs H Q ∨ ((∃ i, xs = [.int i] ∧ i.natAbs.log2 < 1920 ∧ Q (.str (toString i)) H) ∨ ∃ b : Bool, xs = [.bl b] ∧ Q (.str (if b then "True" else "False")) H)
section
variable {X : Cx} {K : PySem.W.Frag} {H : Hp} {Q : VK}
theorem u_reprU {k : Nat} (hr : Rm k X.A) (hK : X.K = K := by rfl) : CallR X (.builtin "repr") (rReprU K) := by
  subst hK
  exact (call_repr hr).or (CallR.or (SkE.call_repr_int (X := X)) (call_repr_bl (X := X)))
theorem rp_bl (b : Bool) (q : Q (.str (if b then "True" else "False")) H) : rReprU K [.bl b] H Q := .inr (.inr ⟨b, rfl, q⟩)
theorem rp_int {i : Int} (h : i.natAbs.log2 < 1920) (q : Q (.str (toString i)) H) : rReprU K [.int i] H Q := .inr (.inl ⟨i, rfl, h, q⟩)
end
end VB
/-! raising an error that carries one value -/
namespace VB
open PySem PySem.Spec PyProof.Rows L2
/-- the class x at C with the value's name g, and its __init__ -/
structure MkE (P : Program) (w : World) (K : PySem.W.Frag) (mg : Str → Option Value) (base : Heap) (x g : Str) (C fI : Addr) : Prop where
  err : ErrC K mg x g C fI
  ini : ∃ fd, FnOk P w K mg base CX0 1 fI fd ["self", g] (spInit K g) ∧ Binds K fd ["self", g] []
section
variable {X : Cx} {x g : Str} {C fI : Addr} {p pos : Pos} {e : Expr} {ta : TA}
theorem pmk_err {k : Nat} (M : MkE X.prog X.w X.K X.mg X.base x g C fI) (hr : Rm k X.A) (ha : PA X [e] ta) (hk : 2 ≤ k := by omega) (hg : Gl X x := by rfl) (hdb : (x == ("__debug__" : Str)) = false := by decide)
    (he : starEach [e] X.env = (false, eval e X.env) :: starEach [] X.env := by rfl) (hpl : (backTo pos (starEach [] X.env)).any (·.1) = false := by rfl) :
    PMk X (.Call (.Name x p) [e] [] pos) (tMkO C (spInit X.K g) [] ta) := by
  obtain ⟨fd, F, b⟩ := M.ini
  exact pmk_oex M.err.oex M.err.iC M.err.tI F (hr.rm.mono hk) b .nil pass0 hg M.err.gC ha hdb he hpl
theorem ps_raiseE {k : Nat} {W : WX} (M : MkE X.prog X.w X.K X.mg X.base x g C fI) (hr : Rm k X.A) (tk : Takes X W) (hc : X.calm = true) (ha : PA X [e] ta) {pos' : Pos} (hk : 2 ≤ k := by omega) (hg : Gl X x := by rfl) (hdb : (x == ("__debug__" : Str)) = false := by decide)
    (he : starEach [e] X.env = (false, eval e X.env) :: starEach [] X.env := by rfl) (hpl : (backTo pos (starEach [] X.env)).any (·.1) = false := by rfl) :
    PS X (.Raise (some (.Call (.Name x p) [e] [] pos)) none pos') (fun _ σ H => tMkO C (spInit X.K g) [] ta σ H fun cls d H' => W cls d σ H') :=
  ps_raise hc tk (pmk_err M hr ha hk hg hdb he hpl)
end
end VB
/-! methods called within a try -/
namespace VB
open PySem PySem.Spec PyProof.Rows L2
def tMethS (C : Addr) (m : Str) (sp : Sp) (E : L2.St → XK) (ta : TE) (t : TA) : TE := fun σ H Q => tMeth C m sp [] (E σ) ta t σ H Q
section
variable {X : Cx} {CX : CXT} {k n : Nat} {ps ks : List Str} {sp : Sp} {E : L2.St → XK} {x m : Str} {p pos apos : Pos} {C : Addr} {e o : Expr} {es : List Expr} {t tk : TA} {ta : TE}
theorem pe_calMS {pl : Sem Bool} (M : CalM X.prog X.w X.K X.mg X.base CX k C m ps sp) (hr : Rm k X.A) (hx : ∀ σ, PassesAt CX X σ (E σ)) (he : PE X o ta) (ha : PA X (e :: es) t)
    (hst : starEach (e :: es) X.env = (false, eval e X.env) :: starEach es X.env := by rfl) (hpl : (backTo pos (starEach es X.env)).any (·.1) = false := by rfl)
    (ht : eval (.Call (.Attribute o m apos) (e :: es) [] pos) X.env = askM X o m pl apos pos (e :: es) := by rfl) :
    PE X (.Call (.Attribute o m apos) (e :: es) [] pos) (tMethS C m sp E ta t) := by
  obtain ⟨f, fd, F, c, hm, hb⟩ := M.ex
  constructor
  intro pins s σ H Q I h
  refine PySem.W.methodCall_KW (pl := pl) (thn (he.run pins s σ H _ I h) ?_) ht
  rintro u s1 ⟨x, H1, I1, rx, a, dx, fs, rfl, ea, l, q⟩
  obtain rfl : u = Value.ref a := rx
  refine getmeth_ok I1 ea c hm l ?_
  refine PySem.W.callWith_K (first := [.ref a]) (h₀ := X.base) I.ok.mod.kin hm.kp (thn (ha.run pos pins s1 σ H1 _ I1 q) ?_) hst hpl
  rintro us s2 ⟨vs, H2, I2, r, q2⟩
  have q3 : sp (.ref a :: (vs ++ [])) H2 Q (E σ) := q2
  rw [List.append_nil] at q3
  have r2 : Vals (V.ref a :: vs) (Value.ref a :: us) := .cons rfl r
  have b := hb s2 (.ref a :: us) I2.kIn (by rw [List.append_nil, ← r2.length]; exact F.cnt _ _ _ _ q3)
  rw [List.append_nil] at b
  exact ⟨I2.kIn, enterS (args := ⟨.ref a :: us, []⟩) F hr (hx σ) I2 b r2 q3⟩
theorem takes_no : Takes X (fun _ _ _ _ => False) := fun _ _ ⟨_, _, _, _, _, _, _, _, _, _, _, _, _, _, _, _, w⟩ => w.elim
theorem op_isT : OpR X (compareOp .Is) (fun x y H Q => ∃ b : Bool, y = .bl b ∧ (x = .non ∨ ∃ a, x = .bl a) ∧ Q (.bl (decide (x = .bl b))) H) := by
  intro pins s σ H x y v u Q I rx ry h
  obtain ⟨b, rfl, hx, q⟩ := h
  cases (show u = Value.bool b from ry)
  rcases hx with rfl | ⟨a, rfl⟩
  · cases (show v = Value.none from rx)
    exact wpAny_is_other rfl (fun z => by cases z) ⟨.bl false, H, I, rfl, by simpa using q⟩
  · cases (show v = Value.bool a from rx)
    by_cases e : a = b
    · subst e
      exact wpAny_is_self rfl ⟨.bl true, H, I, rfl, by simpa using q⟩
    · exact wpAny_is_other rfl (fun z => e (Value.bool.inj z)) ⟨.bl false, H, I, rfl, by simpa [e] using q⟩
end
end VB
/-! methods with keywords within a try, makings within a try, makings with keywords -/
namespace VB
open PySem PySem.Spec PyProof.Rows L2
def tMethKS (C : Addr) (m : Str) (sp : Sp) (n : Nat) (gV : List V → List V → List V) (E : L2.St → XK) (ta : TE) (tk : TA) : TE := fun σ H Q => ta σ H fun x H1 => ∃ a dx fs, x = .ref a ∧ H1 a = some (.ins C dx fs) ∧ fs.lookup m = none ∧
  tk σ H1 fun zs H2 => zs.length = n ∧ sp (gV [.ref a] zs) H2 Q (E σ)
def tMakeS (C : Addr) (sp : Sp) (E : L2.St → XK) (t : TA) : TE := fun σ H Q => tMake C sp [] (E σ) t σ H Q
section
variable {X : Cx} {CX : CXT} {k n : Nat} {ps ks : List Str} {sp : Sp} {x m : Str} {p pos apos : Pos} {C : Addr} {e o : Expr} {es : List Expr} {kws : List Keyword} {t tk : TA} {ta : TE}
  {g : List Value → List Value → List Value} {gV : List V → List V → List V}
abbrev askMK (X : Cx) (o : Expr) (m : Str) (pl : Sem Bool) (apos pos : Pos) (kws : List Keyword) : Sem Value := do let u ← eval o X.env; standAt apos.atName; let (g, as) ← holding [u] (getMethod u m pl); callWith pos g as (backTo pos (starEach [] X.env)) (backToKw pos (keywordEach kws X.env))
theorem pe_calMkS {E : L2.St → XK} {pl : Sem Bool} (M : CalMK X.prog X.w X.K X.mg X.base CX k C m ps 1 ks g gV sp) (hr : Rm k X.A) (hx : ∀ σ, PassesAt CX X σ (E σ)) (he : PE X o ta) (hkw : PK X kws tk)
    (hall : (backToKw pos (keywordEach kws X.env)).all (·.1.isSome) = true := by rfl)
    (hks : (backToKw pos (keywordEach kws X.env)).filterMap (·.1) = ks := by rfl)
    (hpl : ((backTo pos (starEach [] X.env)).any (·.1) || (backToKw pos (keywordEach kws X.env)).any (·.1.isNone)) = false := by rfl)
    (ht : eval (.Call (.Attribute o m apos) [] kws pos) X.env = askMK X o m pl apos pos kws := by rfl) :
    PE X (.Call (.Attribute o m apos) [] kws pos) (tMethKS C m sp ks.length gV E ta tk) := by
  obtain ⟨f, fd, F, c, hm, hb⟩ := M.ex
  constructor
  intro pins s σ H Q I h
  refine PySem.W.methodCall_KW (pl := pl) (thn (he.run pins s σ H _ I h) ?_) ht
  rintro u s1 ⟨x, H1, I1, rx, a, dx, fs, rfl, ea, l, q⟩
  obtain rfl : u = Value.ref a := rx
  refine getmeth_ok I1 ea c hm l ?_
  refine PySem.W.callWith_KW0 (first := [.ref a]) (h₀ := X.base) I.ok.mod.kin hm.kp hall (thn (hkw.run pos pins s1 σ H1 _ I1 q) ?_) hpl
  rintro ws s2 ⟨zs, H2, I2, rz, l2, q2⟩
  refine ⟨I2.kIn, ?_⟩
  rw [hks]
  have r1 : Vals [V.ref a] [Value.ref a] := .cons rfl .nil
  exact enterS (args := ⟨[.ref a], ks.zip ws⟩) F hr (hx σ) I2 (hb.to s2 [.ref a] ws I2.kIn rfl (rz.length.symm.trans l2)) (hb.rel r1 rz) q2
theorem run_makS {E : XK} {f : Addr} {fd : FuncData} {pins : List (Addr × Obj)} {σ : L2.St} {H : Hp} {s : Shared} {Q : VK} {us : List Value} {kw : List (Str × Value)} {zs : List Value} {vs : List V} (M : Mk X.K C f) (F : Fg X.prog X.w X.K X.mg X.base CX k f fd ps sp) (hr : Rm (k + 1) X.A)
    (hx : PassesAt CX X σ E) (I : Inv X pins σ H s)
    (h : ∀ x dx, H x = none → H dx = none → dx ≠ x → sp (.ref x :: vs) (upd (upd H dx (.own x)) x (.ins C dx [])) (fun v H2 => v = .non ∧ Q (.ref x) H2) E)
    (hb : ∀ (s2 : Shared), X.K.In s2.heap → BindsTo s2 fd ⟨.ref (s.heap.objs.size + 1) :: us, kw⟩ (ps.zip (.ref (s.heap.objs.size + 1) :: zs))) (r : Vals vs zs) :
    wpAny (model X.prog X.w) X.A (call (.ref C) us kw) (EP X pins σ Q) X.xe s := by
  have hq := h (s.heap.objs.size + 1) s.heap.objs.size (I.hok.fresh (Nat.le_succ _)) (I.hok.fresh (Nat.le_refl _)) (Nat.ne_of_lt (Nat.lt_succ_self _))
  have I2 := Inv.made (C := C) I
  refine wpAny_call (make_map (f := f) I.kIn M.makes M.init (beq_iff_eq.mp M.fn) (codeAny_mono (F.go _ X.stack _ _ ⟨.ref (s.heap.objs.size + 1) :: us, kw⟩ (.ref (s.heap.objs.size + 1) :: zs) _ _ E (hr.make C us kw)
    (I2.env0.make C us kw) (hb _ I2.kIn) (show Vals (V.ref (s.heap.objs.size + 1) :: vs) (Value.ref (s.heap.objs.size + 1) :: zs) from .cons rfl r) hq) ?_))
  intro r' s' hq'
  cases r' with
  | error e => exact hx pins _ _ e s' I2 hq'
  | ok fl =>
    cases fl with
    | ret u =>
      obtain ⟨v, H', I3, rv, ev, q3⟩ := I2.after hq'
      subst ev
      exact ⟨rv, ⟨V.ref (s.heap.objs.size + 1), H', I3, rfl, q3⟩⟩
    | next => exact False.elim hq'
    | brk => exact False.elim hq'
    | cont => exact False.elim hq'
theorem pe_makS {E : L2.St → XK} (M : Mak X.prog X.w X.K X.mg X.base CX k x C ps sp) (hr : Rm (k + 1) X.A) (hx : ∀ σ, PassesAt CX X σ (E σ)) (ha : PA X (e :: es) t) (hg : Gl X x := by rfl) (hdb : (x == ("__debug__" : Str)) = false := by decide)
    (he : starEach (e :: es) X.env = (false, eval e X.env) :: starEach es X.env := by rfl) (hpl : (backTo pos (starEach es X.env)).any (·.1) = false := by rfl) :
    PE X (.Call (.Name x p) (e :: es) [] pos) (tMakeS C sp E t) := by
  obtain ⟨f, fd, F, mk, hm, hb⟩ := M.ex
  constructor
  intro pins s σ H Q I h
  refine wpAny_Call_Name_kw (ld_glob I hg hm ?_ hdb)
  refine PySem.W.callWith_K (h₀ := X.base) I.ok.mod.kin mk.kp (thn (ha.run pos pins s σ H _ I h) ?_) he hpl
  rintro us s1 ⟨vs, H1, I1, r, q⟩
  refine ⟨I1.kIn, run_makS (vs := vs) (zs := us) mk F hr (hx σ) I1 (fun x dx a b c => ?_) (fun s2 k2 => ?_) r⟩
  · have z := q x dx a b c
    rw [List.append_nil] at z
    exact z
  · have q0 := q (s1.heap.objs.size + 1) s1.heap.objs.size (I1.hok.fresh (Nat.le_succ _)) (I1.hok.fresh (Nat.le_refl _)) (Nat.ne_of_lt (Nat.lt_succ_self _))
    have l := F.cnt _ _ _ _ q0
    have b := hb s2 (.ref (s1.heap.objs.size + 1) :: us) k2 (by rw [List.append_nil, ← l, List.append_nil, List.length_cons, List.length_cons, r.length])
    rw [List.append_nil] at b
    exact b
def tMakK (C : Addr) (sp : Sp) (n : Nat) (gV : List V → List V → List V) (E : XK) (tk : TA) : TE := fun σ H Q => tk σ H fun zs H2 => zs.length = n ∧ ∀ x dx, H2 x = none → H2 dx = none → dx ≠ x → sp (gV [.ref x] zs) (upd (upd H2 dx (.own x)) x (.ins C dx [])) (fun v H3 => v = .non ∧ Q (.ref x) H3) E
/-- C(k = v, ..) -/
theorem pe_makK {E : XK} (M : MakK X.prog X.w X.K X.mg X.base CX k x C ps 1 ks g gV sp) (hr : Rm (k + 1) X.A) (hx : Passes CX X E) (hkw : PK X kws tk) (hg : Gl X x := by rfl)
    (hall : (backToKw pos (keywordEach kws X.env)).all (·.1.isSome) = true := by rfl) (hks : (backToKw pos (keywordEach kws X.env)).filterMap (·.1) = ks := by rfl) (hdb : (x == ("__debug__" : Str)) = false := by decide)
    (hpl : ((backTo pos (starEach [] X.env)).any (·.1) || (backToKw pos (keywordEach kws X.env)).any (·.1.isNone)) = false := by rfl) :
    PE X (.Call (.Name x p) [] kws pos) (tMakK C sp ks.length gV E tk) := by
  obtain ⟨f, fd, F, mk, hm, hb⟩ := M.ex
  constructor
  intro pins s σ H Q I h
  refine wpAny_Call_Name_kw (ld_glob I hg hm ?_ hdb)
  refine PySem.W.callWith_KW0 (h₀ := X.base) I.ok.mod.kin mk.kp hall (thn (hkw.run pos pins s σ H _ I h) ?_) hpl
  rintro ws s2 ⟨zs, H2, I2, rz, l2, q2⟩
  refine ⟨I2.kIn, ?_⟩
  rw [hks]
  have hq := q2 (s2.heap.objs.size + 1) s2.heap.objs.size (I2.hok.fresh (Nat.le_succ _)) (I2.hok.fresh (Nat.le_refl _)) (Nat.ne_of_lt (Nat.lt_succ_self _))
  have I3 := Inv.made (C := C) I2
  have r1 : Vals [V.ref (s2.heap.objs.size + 1)] [Value.ref (s2.heap.objs.size + 1)] := .cons rfl .nil
  have r2 := hb.rel r1 rz
  refine wpAny_call (make_map (f := f) I2.kIn mk.makes mk.init (beq_iff_eq.mp mk.fn) (codeAny_mono (F.go _ X.stack _ _ ⟨[Value.ref (s2.heap.objs.size + 1)], ks.zip ws⟩ (g [Value.ref (s2.heap.objs.size + 1)] ws) _ _ E (hr.make C [] (ks.zip ws))
    (I3.env0.make C [] (ks.zip ws)) (hb.to _ [Value.ref (s2.heap.objs.size + 1)] ws I3.kIn rfl (rz.length.symm.trans l2)) r2 hq) fun r s' hq' => ?_))
  cases r with
  | error e => exact hx pins σ _ _ e s' I3 hq'
  | ok fl =>
    cases fl with
    | ret u =>
      obtain ⟨v, H', I4, rv, ev, q3⟩ := I3.after hq'
      subst ev
      exact ⟨rv, ⟨V.ref (s2.heap.objs.size + 1), H', I4, rfl, q3⟩⟩
    | next => exact False.elim hq'
    | brk => exact False.elim hq'
    | cont => exact False.elim hq'
end
end VB
/-! a list, longer by a tuple's items -/
namespace VB
open PySem PySem.Spec PyProof.Rows L2
theorem list_extend_tup (l : Addr) (items : Array Value) (n : Nat) (b : Addr) (items2 : Array Value) (n2 : Nat) (dd : Option Addr) (sl : Array (Option Value)) (hs0 : ¬(!items.isEmpty && Builtin.List.listTooLong (items.size + items2.size)) = true) (hs1 : items.size ≤ sizeLine) (hs2 : items.size + items2.size ≤ sizeLine + 1) :
    Meets (Builtin.«list.extend» ⟨[.ref l, .ref b], []⟩) (fun _ R s => s.heap.get? l = some { cls := .type "list", dict := none, data := .seq items n, slots := #[] } ∧ s.heap.get? b = some { cls := .type "tuple", dict := dd, data := .seq items2 n2, slots := sl } ∧ R (.ok (.ret Value.none)) { s with heap := s.heap.update l (Obj.mapSeq fun x => x ++ items2), toks := s.toks }) :=
  .of_wp fun prog w A R s h => by
    obtain ⟨hp, g, d, tk, os⟩ := s; obtain ⟨hl, hb, h⟩ := h; have f1 := AutoSeq1.idx_int; have f2 := AutoSeq1.sub_tuple_tuple; have f3 := AutoSeq1.sub_list_list; have f4 := AutoSeq1.sub_tuple_list; have f5 := AutoSeq1.sub_list_tuple;
    have hz' : (items ++ items2).size ≤ sizeLine + 1 := by rw [Array.size_append]; exact hs2
    wp_walk using (wpAny_updateSeq hl rfl (hz := hs1) (_hz' := hz')), wpAny_loadPart' hl, wpAny_loadPart' hb; exact ⟨_, rfl, h⟩
def rExtT (K : PySem.W.Frag) : V → List V → Hp → VK → Prop := fun x vs H Q => ∃ l b xs zs, x = .ref l ∧ vs = [.ref b] ∧ H l = some (.lst xs) ∧ SqT K H b zs ∧ xs.length + zs.length ≤ sizeLine ∧ Q .non (upd H l (.lst (xs ++ zs)))
def rExtU (K : PySem.W.Frag) : V → List V → Hp → VK → Prop := fun x vs H Q => rExtend x vs H Q ∨ rExtT K x vs H Q
section
variable {X : Cx} {K : PySem.W.Frag}
theorem mt_extU (hK : X.K = K := by rfl) : MtM X "list.extend" (rExtU K) := by
  subst hK
  intro pins s σ H x vs v us Q I rx rv h
  rcases h with h | h
  · exact mt_extend pins s σ H x vs v us Q I rx rv h
  obtain ⟨l, b, xs, zs, rfl, rfl, hH, hB, hz, q⟩ := h
  cases rx
  obtain ⟨u, rfl, ru⟩ := rv.one
  cases ru
  obtain ⟨z, its, n, r, hl, e⟩ := I.lstM hH
  obtain ⟨its2, r2, ⟨⟨cls, dd, data, sl⟩, e2, hc, n2, hd⟩, hl2⟩ := I.tuple hB
  simp only at hc hd
  subst hc hd
  have l1 := r.length
  have l2 := r2.length
  have hsz : its.toArray.size + its2.toArray.size ≤ sizeLine := by rw [List.size_toArray, List.size_toArray]; omega
  have hlong : ¬ (!its.toArray.isEmpty && Builtin.List.listTooLong (its.toArray.size + its2.toArray.size)) = true := by
    rw [notLongL hsz, Bool.and_false]
    exact Bool.false_ne_true
  refine call_meets F.slot_list_extend ⟨_, e, rfl⟩ F.entry_list_extend (F.args_list_extend_2 _ _)
    (list_extend_tup l its.toArray n b its2.toArray n2 dd sl hlong (by rw [List.size_toArray]; omega) (by omega)) ⟨e, e2, ?_⟩
  refine ⟨.non, _, I.lset (its' := its ++ its2) hH e (by simp) (r.append r2) ?_, rfl, q⟩
  rw [List.length_append]
  omega
theorem u_max1 (hc : X.calm = true) (hK : X.K = K := by rfl) : CallR X (.builtin "max") (rMax K) := by
  subst hK
  exact cr_max hc
end
/-- what isinstance asks of instances of the class at C -/
structure InsC (K : PySem.W.Frag) (C : Addr) : Prop where
  ha : PySem.W.findIn K (.ref C) "__class__" = some (some (.builtin "object.__class__"))
  hn : PySem.W.specialIn K (.builtin "object.__class__") "__get__" = some (some (.builtin "getset_descriptor.__get__"))
  htk : PySem.W.takesIn K (.builtin "object.__class__") = some true
  hm : PySem.W.mroIn K C (.type "object") = some true
  kit : PySem.W.kitOne K (.ref C) (.ref C) = some true
def insB (K : PySem.W.Frag) (C : Addr) : Bool := decide (PySem.W.findIn K (.ref C) "__class__" = some (some (.builtin "object.__class__"))) && (decide (PySem.W.specialIn K (.builtin "object.__class__") "__get__" = some (some (.builtin "getset_descriptor.__get__"))) && (decide (PySem.W.takesIn K (.builtin "object.__class__") = some true) &&
  (decide (PySem.W.mroIn K C (.type "object") = some true) && decide (PySem.W.kitOne K (.ref C) (.ref C) = some true))))
theorem insB_ok {K : PySem.W.Frag} {C : Addr} (h : insB K C = true) : InsC K C := by
  unfold insB at h
  obtain ⟨h1, h⟩ := Bool.and_eq_true_iff.mp h
  obtain ⟨h2, h⟩ := Bool.and_eq_true_iff.mp h
  obtain ⟨h3, h⟩ := Bool.and_eq_true_iff.mp h
  obtain ⟨h4, h5⟩ := Bool.and_eq_true_iff.mp h
  exact ⟨of_decide_eq_true h1, of_decide_eq_true h2, of_decide_eq_true h3, of_decide_eq_true h4, of_decide_eq_true h5⟩
end VB
/-! error classes that carry one value, from what is looked at -/
namespace VB
open PySem PySem.Spec PyProof.Rows L2
def oexB (K : PySem.W.Frag) (C : Addr) : Bool := match K.lookup C with
  | some ⟨.type "type", _, .cls cd, sl⟩ => (match cd.mro, sl.toList with
    | .ref C' :: bm, [_, _, _, _, some (.builtin n), _] => decide (C' = C) && (decide (n = "ValueError.__new__") && (!cd.hasDel && (cd.hasDict && PySem.HandSPX.refsVE bm)))
    | _, _ => false)
  | _ => false
theorem oexB_cls {K : PySem.W.Frag} {C : Addr} (q : oexB K C = true) : ∃ nm q N bs bm sn sub ab col dd k0 k1 k2 k3 k5, K.lookup C = some (excClassObj nm q C N bs bm true sn sub ab col dd k0 k1 k2 k3 k5 "ValueError.__new__") ∧ PySem.HandSPX.refsVE bm = true := by
  unfold oexB at q
  split at q
  · rename_i dd cd sl ho
    split at q
    · rename_i C' bm k0 k1 k2 k3 n k5 hm hs
      simp only [Bool.and_eq_true, decide_eq_true_eq, Bool.not_eq_true'] at q
      obtain ⟨rfl, rfl, hdel, hdic, ht⟩ := q
      obtain ⟨nm, bs, mro, ns, qn, hd, sn, sub, ab, col, del⟩ := cd
      dsimp only at hm hdel hdic
      subst hm hdel hdic
      have hsl : sl = #[k0, k1, k2, k3, some (.builtin "ValueError.__new__"), k5] := by
        obtain ⟨l⟩ := sl
        simp only at hs
        rw [hs]
      subst hsl
      exact ⟨nm, qn, ns, bs, bm, sn, sub, ab, col, dd, k0, k1, k2, k3, k5, ho, ht⟩
    · cases q
  · cases q
def errB (K : PySem.W.Frag) (x g : Str) : Bool := oexB K (He.ga K x) && (decide (PySem.W.findIn K (.ref (He.ga K x)) "__setattr__" = some (some (.builtin "object.__setattr__"))) && (decide (PySem.W.subIn K (.ref (He.ga K x)) (.type "BaseException") = some true) && (decide (PySem.W.typeIn K (.ref (He.ga K x)) = some (.type "type")) && (PySem.W.keepIn K (.ref (He.ga K x)) &&
  (decide (PySem.W.findIn K (.ref (He.ga K x)) "__init__" = some (some (.ref (He.ma K (He.ga K x) "__init__")))) && (decide (PySem.W.typeIn K (.ref (He.ma K (He.ga K x) "__init__")) = some (.type "function")) && (decide (PySem.W.findIn K (.ref (He.ga K x)) g = some none) && (xfB K (He.ga K x) && decide (PySem.W.exmOne K (.ref (He.ga K x)) (.ref (He.ga K x)) = some true)))))))))
theorem errB_ok {K : PySem.W.Frag} {mg : Str → Option Value} {x g : Str} (h : errB K x g = true) (gC : mg x = some (.ref (He.ga K x))) : ErrC K mg x g (He.ga K x) (He.ma K (He.ga K x) "__init__") ∧ PySem.W.exmOne K (.ref (He.ga K x)) (.ref (He.ga K x)) = some true := by
  unfold errB at h
  obtain ⟨h1, h⟩ := Bool.and_eq_true_iff.mp h
  obtain ⟨h2, h⟩ := Bool.and_eq_true_iff.mp h
  obtain ⟨h3, h⟩ := Bool.and_eq_true_iff.mp h
  obtain ⟨h4, h⟩ := Bool.and_eq_true_iff.mp h
  obtain ⟨h5, h⟩ := Bool.and_eq_true_iff.mp h
  obtain ⟨h6, h⟩ := Bool.and_eq_true_iff.mp h
  obtain ⟨h7, h⟩ := Bool.and_eq_true_iff.mp h
  obtain ⟨h8, h⟩ := Bool.and_eq_true_iff.mp h
  obtain ⟨h9, h10⟩ := Bool.and_eq_true_iff.mp h
  exact ⟨⟨⟨oexB_cls h1, of_decide_eq_true h2, of_decide_eq_true h3, of_decide_eq_true h4, h5⟩, gC, of_decide_eq_true h6, of_decide_eq_true h7, of_decide_eq_true h8, xfB_ok h9⟩, of_decide_eq_true h10⟩
end VB
namespace K12
open PySem PySem.Spec PyProof.Rows L2 VB
theorem sc_Head____init__ : FnScope ["self", "seq", "tail", "is_cleaning"] ["self", "seq", "tail", "is_cleaning"] (defScope s_Head____init__) := ⟨rfl, rfl, rfl, by decide +kernel, rfl, by decide +kernel, by decide +kernel⟩
theorem sc_Head____eq__ : FnScope ["self", "other"] ["self", "other"] (defScope s_Head____eq__) := ⟨rfl, rfl, rfl, by decide +kernel, rfl, by decide +kernel, by decide +kernel⟩
theorem sc_Seal____init__ : FnScope ["self", "tail", "count"] ["self", "tail", "count"] (defScope s_Seal____init__) := ⟨rfl, rfl, rfl, by decide +kernel, rfl, by decide +kernel, by decide +kernel⟩
theorem sc_Seal____eq__ : FnScope ["self", "other"] ["self", "other"] (defScope s_Seal____eq__) := ⟨rfl, rfl, rfl, by decide +kernel, rfl, by decide +kernel, by decide +kernel⟩
theorem sc_Node____init__ : FnScope ["self", "deed", "at", "of", "node", "what", "size", "chunks", "until"] ["self", "deed", "at", "of", "node", "what", "size", "chunks", "until"] (defScope s_Node____init__) := ⟨rfl, rfl, rfl, by decide +kernel, rfl, by decide +kernel, by decide +kernel⟩
theorem sc_Node____eq__ : FnScope ["self", "other"] ["self", "other"] (defScope s_Node____eq__) := ⟨rfl, rfl, rfl, by decide +kernel, rfl, by decide +kernel, by decide +kernel⟩
theorem sc_Node__key : FnScope ["self"] ["self"] (defScope s_Node__key) := ⟨rfl, rfl, rfl, by decide +kernel, rfl, by decide +kernel, by decide +kernel⟩
theorem sc_Node__fact : FnScope ["self"] ["self"] (defScope s_Node__fact) := ⟨rfl, rfl, rfl, by decide +kernel, rfl, by decide +kernel, by decide +kernel⟩
theorem sc_Name____init__ : FnScope ["self", "deed", "at", "of", "directory", "name", "node", "until"] ["self", "deed", "at", "of", "directory", "name", "node", "until"] (defScope s_Name____init__) := ⟨rfl, rfl, rfl, by decide +kernel, rfl, by decide +kernel, by decide +kernel⟩
theorem sc_Name____eq__ : FnScope ["self", "other"] ["self", "other"] (defScope s_Name____eq__) := ⟨rfl, rfl, rfl, by decide +kernel, rfl, by decide +kernel, by decide +kernel⟩
theorem sc_Name__key : FnScope ["self"] ["self"] (defScope s_Name__key) := ⟨rfl, rfl, rfl, by decide +kernel, rfl, by decide +kernel, by decide +kernel⟩
theorem sc_Name__fact : FnScope ["self"] ["self"] (defScope s_Name__fact) := ⟨rfl, rfl, rfl, by decide +kernel, rfl, by decide +kernel, by decide +kernel⟩
theorem sc_Chunk____init__ : FnScope ["self", "deed", "at", "of", "node", "index", "octets", "until"] ["self", "deed", "at", "of", "node", "index", "octets", "until"] (defScope s_Chunk____init__) := ⟨rfl, rfl, rfl, by decide +kernel, rfl, by decide +kernel, by decide +kernel⟩
theorem sc_Chunk____eq__ : FnScope ["self", "other"] ["self", "other"] (defScope s_Chunk____eq__) := ⟨rfl, rfl, rfl, by decide +kernel, rfl, by decide +kernel, by decide +kernel⟩
theorem sc_Chunk__key : FnScope ["self"] ["self"] (defScope s_Chunk__key) := ⟨rfl, rfl, rfl, by decide +kernel, rfl, by decide +kernel, by decide +kernel⟩
theorem sc_Chunk__fact : FnScope ["self"] ["self"] (defScope s_Chunk__fact) := ⟨rfl, rfl, rfl, by decide +kernel, rfl, by decide +kernel, by decide +kernel⟩
theorem sc_Keep____init__ : FnScope ["self", "deed", "at", "of", "name", "is_kept", "until"] ["self", "deed", "at", "of", "name", "is_kept", "until"] (defScope s_Keep____init__) := ⟨rfl, rfl, rfl, by decide +kernel, rfl, by decide +kernel, by decide +kernel⟩
theorem sc_Keep____eq__ : FnScope ["self", "other"] ["self", "other"] (defScope s_Keep____eq__) := ⟨rfl, rfl, rfl, by decide +kernel, rfl, by decide +kernel, by decide +kernel⟩
theorem sc_Keep__key : FnScope ["self"] ["self"] (defScope s_Keep__key) := ⟨rfl, rfl, rfl, by decide +kernel, rfl, by decide +kernel, by decide +kernel⟩
theorem sc_Keep__fact : FnScope ["self"] ["self"] (defScope s_Keep__fact) := ⟨rfl, rfl, rfl, by decide +kernel, rfl, by decide +kernel, by decide +kernel⟩
theorem sc__wall : FnScope ["k"] ["k"] (defScope s__wall) := ⟨rfl, rfl, rfl, by decide +kernel, rfl, by decide +kernel, by decide +kernel⟩
theorem sc_chunk_count : FnScope ["size"] ["size"] (defScope s_chunk_count) := ⟨rfl, rfl, rfl, by decide +kernel, rfl, by decide +kernel, by decide +kernel⟩
theorem sc_is_int_from : FnScope ["value", "least", "greatest"] ["value", "least", "greatest"] (defScope s_is_int_from) := ⟨rfl, rfl, rfl, by decide +kernel, rfl, by decide +kernel, by decide +kernel⟩
theorem sc_is_list : FnScope ["value"] ["value"] (defScope s_is_list) := ⟨rfl, rfl, rfl, by decide +kernel, rfl, by decide +kernel, by decide +kernel⟩
theorem sc_is_octets : FnScope ["value", "octet"] ["value"] (defScope s_is_octets) := ⟨rfl, rfl, rfl, by decide +kernel, rfl, by decide +kernel, by decide +kernel⟩
theorem sc_is_octets_of : FnScope ["value", "count"] ["value", "count"] (defScope s_is_octets_of) := ⟨rfl, rfl, rfl, by decide +kernel, rfl, by decide +kernel, by decide +kernel⟩
theorem sc_is_name : FnScope ["value", "sign"] ["value"] (defScope s_is_name) := ⟨rfl, rfl, rfl, by decide +kernel, rfl, by decide +kernel, by decide +kernel⟩
theorem sc_number_told_by : FnScope ["octets", "number", "octet"] ["octets"] (defScope s_number_told_by) := ⟨rfl, rfl, rfl, by decide +kernel, rfl, by decide +kernel, by decide +kernel⟩
theorem sc_octets_telling : FnScope ["number", "count", "k"] ["number", "count"] (defScope s_octets_telling) := ⟨rfl, rfl, rfl, by decide +kernel, rfl, by decide +kernel, by decide +kernel⟩
theorem sc_is_tree_record : FnScope ["value"] ["value"] (defScope s_is_tree_record) := ⟨rfl, rfl, rfl, by decide +kernel, rfl, by decide +kernel, by decide +kernel⟩
theorem sc_record_of : FnScope ["fact", "deed", "at", "of", "until", "_", "node", "what", "size", "chunks", "directory", "name", "index", "octets", "is_kept"] ["fact", "deed", "at", "of", "until"] (defScope s_record_of) := ⟨rfl, rfl, rfl, by decide +kernel, rfl, by decide +kernel, by decide +kernel⟩
theorem sc_moved : FnScope ["record", "until"] ["record", "until"] (defScope s_moved) := ⟨rfl, rfl, rfl, by decide +kernel, rfl, by decide +kernel, by decide +kernel⟩
theorem sc_written : FnScope ["record", "kind", "fact", "numbers"] ["record"] (defScope s_written) := ⟨rfl, rfl, rfl, by decide +kernel, rfl, by decide +kernel, by decide +kernel⟩
theorem sc_read_record : FnScope ["data"] ["data"] (defScope s_read_record) := ⟨rfl, rfl, rfl, by decide +kernel, rfl, by decide +kernel, by decide +kernel⟩
theorem sc_record_told_by : FnScope ["octets", "record"] ["octets"] (defScope s_record_told_by) := ⟨rfl, rfl, rfl, by decide +kernel, rfl, by decide +kernel, by decide +kernel⟩
theorem sc__check_number : FnScope ["value", "least", "greatest"] ["value", "least", "greatest"] (defScope s__check_number) := ⟨rfl, rfl, rfl, by decide +kernel, rfl, by decide +kernel, by decide +kernel⟩
theorem sc__check_flag : FnScope ["value"] ["value"] (defScope s__check_flag) := ⟨rfl, rfl, rfl, by decide +kernel, rfl, by decide +kernel, by decide +kernel⟩
theorem sc__check_name : FnScope ["value"] ["value"] (defScope s__check_name) := ⟨rfl, rfl, rfl, by decide +kernel, rfl, by decide +kernel, by decide +kernel⟩
theorem sc__check_stamp : FnScope ["deed", "at", "of"] ["deed", "at", "of"] (defScope s__check_stamp) := ⟨rfl, rfl, rfl, by decide +kernel, rfl, by decide +kernel, by decide +kernel⟩
theorem sc__check_until : FnScope ["until", "deed", "of"] ["until", "deed", "of"] (defScope s__check_until) := ⟨rfl, rfl, rfl, by decide +kernel, rfl, by decide +kernel, by decide +kernel⟩
theorem sc__head_parts : FnScope ["head"] ["head"] (defScope s__head_parts) := ⟨rfl, rfl, rfl, by decide +kernel, rfl, by decide +kernel, by decide +kernel⟩
theorem sc__parts : FnScope ["record"] ["record"] (defScope s__parts) := ⟨rfl, rfl, rfl, by decide +kernel, rfl, by decide +kernel, by decide +kernel⟩
theorem sc__filled : FnScope ["octets", "count"] ["octets", "count"] (defScope s__filled) := ⟨rfl, rfl, rfl, by decide +kernel, rfl, by decide +kernel, by decide +kernel⟩
theorem sc__octets_of_fact : FnScope ["fact", "_", "node", "what", "size", "chunks", "directory", "name", "index", "octets", "is_kept"] ["fact"] (defScope s__octets_of_fact) := ⟨rfl, rfl, rfl, by decide +kernel, rfl, by decide +kernel, by decide +kernel⟩
theorem sc__octets_of_name : FnScope ["name", "letter"] ["name"] (defScope s__octets_of_name) := ⟨rfl, rfl, rfl, by decide +kernel, rfl, by decide +kernel, by decide +kernel⟩
theorem sc__seeming_record : FnScope ["octets", "kind", "fact"] ["octets"] (defScope s__seeming_record) := ⟨rfl, rfl, rfl, by decide +kernel, rfl, by decide +kernel, by decide +kernel⟩
theorem sc__seeming_fact : FnScope ["kind", "octets", "number"] ["kind", "octets"] (defScope s__seeming_fact) := ⟨rfl, rfl, rfl, by decide +kernel, rfl, by decide +kernel, by decide +kernel⟩
theorem sc__seeming_name : FnScope ["octets", "octet"] ["octets"] (defScope s__seeming_name) := ⟨rfl, rfl, rfl, by decide +kernel, rfl, by decide +kernel, by decide +kernel⟩
theorem sc__seeming_letter : FnScope ["octet"] ["octet"] (defScope s__seeming_letter) := ⟨rfl, rfl, rfl, by decide +kernel, rfl, by decide +kernel, by decide +kernel⟩
theorem sc__law_cell : FnScope ["_law_script", "_law_k"] ["_law_script", "_law_k"] (defScope s__law_cell) := ⟨rfl, rfl, rfl, by decide +kernel, rfl, by decide +kernel, by decide +kernel⟩
theorem sc__law_box : FnScope ["_law_great"] ["_law_great"] (defScope s__law_box) := ⟨rfl, rfl, rfl, by decide +kernel, rfl, by decide +kernel, by decide +kernel⟩
theorem sc__law_take : FnScope ["_law_box_here", "_law_many", "_law_digit", "_law_mixed"] ["_law_box_here", "_law_many"] (defScope s__law_take) := ⟨rfl, rfl, rfl, by decide +kernel, rfl, by decide +kernel, by decide +kernel⟩
theorem sc__law_number : FnScope ["_law_box_here", "_law_least", "_law_most", "_law_way", "_law_menu"] ["_law_box_here", "_law_least", "_law_most"] (defScope s__law_number) := ⟨rfl, rfl, rfl, by decide +kernel, rfl, by decide +kernel, by decide +kernel⟩
theorem sc__law_octet : FnScope ["_law_box_here", "_law_digit"] ["_law_box_here"] (defScope s__law_octet) := ⟨rfl, rfl, rfl, by decide +kernel, rfl, by decide +kernel, by decide +kernel⟩
theorem sc__law_letters : FnScope ["_law_box_here", "_law_k"] ["_law_box_here"] (defScope s__law_letters) := ⟨rfl, rfl, rfl, by decide +kernel, rfl, by decide +kernel, by decide +kernel⟩
theorem sc__law_until : FnScope ["_law_box_here", "_law_place"] ["_law_box_here", "_law_place"] (defScope s__law_until) := ⟨rfl, rfl, rfl, by decide +kernel, rfl, by decide +kernel, by decide +kernel⟩
theorem sc__law_drawn : FnScope ["_law_box_here", "_law_kind", "_law_seq", "_law_total", "_law_place", "_law_until_here", "_law_what", "_law_size", "_law_most", "_law_chunks", "_law_node", "_law_octets_here", "_law_k"] ["_law_box_here", "_law_kind"] (defScope s__law_drawn) := ⟨rfl, rfl, rfl, by decide +kernel, rfl, by decide +kernel, by decide +kernel⟩
theorem sc__law_made : FnScope ["_law_row"] ["_law_row"] (defScope s__law_made) := ⟨rfl, rfl, rfl, by decide +kernel, rfl, by decide +kernel, by decide +kernel⟩
theorem sc__law_told : FnScope ["_law_thing", "_law_place"] ["_law_thing"] (defScope s__law_told) := ⟨rfl, rfl, rfl, by decide +kernel, rfl, by decide +kernel, by decide +kernel⟩
theorem sc__law_digits : FnScope ["_law_number_here", "_law_count", "_law_found", "_law_left", "_law_k"] ["_law_number_here", "_law_count"] (defScope s__law_digits) := ⟨rfl, rfl, rfl, by decide +kernel, rfl, by decide +kernel, by decide +kernel⟩
theorem sc__law_octets : FnScope ["_law_row", "_law_found", "_law_letters_here", "_law_letter"] ["_law_row"] (defScope s__law_octets) := ⟨rfl, rfl, rfl, by decide +kernel, rfl, by decide +kernel, by decide +kernel⟩
theorem sc__law_value : FnScope ["_law_octets_here", "_law_found", "_law_octet_here"] ["_law_octets_here"] (defScope s__law_value) := ⟨rfl, rfl, rfl, by decide +kernel, rfl, by decide +kernel, by decide +kernel⟩
theorem sc__law_good : FnScope ["_law_row"] ["_law_row"] (defScope s__law_good) := ⟨rfl, rfl, rfl, by decide +kernel, rfl, by decide +kernel, by decide +kernel⟩
theorem sc__law_word : FnScope ["_law_octets_here", "_law_count", "_law_signs", "_law_octet_here"] ["_law_octets_here", "_law_count"] (defScope s__law_word) := ⟨rfl, rfl, rfl, by decide +kernel, rfl, by decide +kernel, by decide +kernel⟩
theorem sc__law_read : FnScope ["_law_octets_here", "_law_kind", "_law_number_here", "_law_one", "_law_place", "_law_until_here", "_law_row"] ["_law_octets_here"] (defScope s__law_read) := ⟨rfl, rfl, rfl, by decide +kernel, rfl, by decide +kernel, by decide +kernel⟩
theorem sc__law_field : FnScope ["_law_box_here", "_law_octets_here", "_law_next_one", "_law_menu", "_law_place", "_law_put"] ["_law_box_here", "_law_octets_here"] (defScope s__law_field) := ⟨rfl, rfl, rfl, by decide +kernel, rfl, by decide +kernel, by decide +kernel⟩
theorem sc__law_spoilt : FnScope ["_law_box_here", "_law_octets_here", "_law_way", "_law_at", "_law_fresh", "_law_worth", "_law_other", "_law_k"] ["_law_box_here", "_law_octets_here"] (defScope s__law_spoilt) := ⟨rfl, rfl, rfl, by decide +kernel, rfl, by decide +kernel, by decide +kernel⟩
theorem sc__law_read_right : FnScope ["_law_box_here", "_law_octets_here", "_law_due", "_law_way", "_law_handed", "_law_thing"] ["_law_box_here", "_law_octets_here"] (defScope s__law_read_right) := ⟨rfl, rfl, rfl, by decide +kernel, rfl, by decide +kernel, by decide +kernel⟩
theorem sc__law_moved_right : FnScope ["_law_box_here", "_law_thing", "_law_row", "_law_untils", "_law_rows", "_law_first", "_law_other", "_law_pairs", "_law_told_here", "_law_due", "_law_until_here"] ["_law_box_here", "_law_thing", "_law_row"] (defScope s__law_moved_right) := ⟨rfl, rfl, rfl, by decide +kernel, rfl, by decide +kernel, by decide +kernel⟩
theorem sc__law_right : FnScope ["_law_box_here", "_law_base", "_law_rows", "_law_things", "_law_order", "_law_octets_here", "_law_turn", "_law_k", "_law_row"] ["_law_box_here"] (defScope s__law_right) := ⟨rfl, rfl, rfl, by decide +kernel, rfl, by decide +kernel, by decide +kernel⟩
theorem sc_law : FnScope ["_law_script", "_law_k"] ["_law_script"] (defScope s_law) := ⟨rfl, rfl, rfl, by decide +kernel, rfl, by decide +kernel, by decide +kernel⟩
abbrev FnP (K : PySem.W.Frag) (x : Str) (st : Stmt) (f : Addr) (fd : FuncData) : Prop := FunD K x x (defArgs st) (defBody st) (defScope st) [] [] f fd
abbrev FnM (K : PySem.W.Frag) (m q : Str) (st : Stmt) (f : Addr) (fd : FuncData) : Prop := FunD K m q (defArgs st) (defBody st) (defScope st) [] [] f fd
structure Txt (K : PySem.W.Frag) (mg : Str → Option Value) : Prop where
  f_abs : mg "abs" = none
  f_all : mg "all" = none
  f_bool : mg "bool" = none
  f_int : mg "int" = none
  f_isinstance : mg "isinstance" = none
  f_len : mg "len" = none
  f_list : mg "list" = none
  f_max : mg "max" = none
  f_min : mg "min" = none
  f_ord : mg "ord" = none
  f_range : mg "range" = none
  f_repr : mg "repr" = none
  f_reversed : mg "reversed" = none
  f_str : mg "str" = none
  f_sum : mg "sum" = none
  f_tuple : mg "tuple" = none
  g_CHUNK_OCTETS : ∃ t, mg "CHUNK_OCTETS" = some (.int 16 t)
  g_CLEANING_KIND : ∃ t, mg "CLEANING_KIND" = some (.int 2 t)
  g_Chunk : mg "Chunk" = some (.ref (He.ga K "Chunk"))
  g_DATA_OCTETS : ∃ t, mg "DATA_OCTETS" = some (.int 30 t)
  g_DIRECTORY : ∃ t, mg "DIRECTORY" = some (.int 2 t)
  g_FACT_KINDS : mg "FACT_KINDS" = some (.ref (He.ga K "FACT_KINDS"))
  g_FACT_PLACE : ∃ t, mg "FACT_PLACE" = some (.int 7 t)
  g_FILE : ∃ t, mg "FILE" = some (.int 1 t)
  g_FIRST_LETTER : ∃ t, mg "FIRST_LETTER" = some (.int 97 t)
  g_GONE : ∃ t, mg "GONE" = some (.int 0 t)
  g_HEAD_KIND : ∃ t, mg "HEAD_KIND" = some (.int 1 t)
  g_Head : mg "Head" = some (.ref (He.ga K "Head"))
  g_Keep : mg "Keep" = some (.ref (He.ga K "Keep"))
  g_LETTERS : ∃ t, mg "LETTERS" = some (.str "abcdefghijklmnopqrstuvwxyz" t)
  g_MOST_CHUNKS : ∃ t, mg "MOST_CHUNKS" = some (.int 6 t)
  g_MOST_ID : ∃ t, mg "MOST_ID" = some (.int 65535 t)
  g_MOST_LETTERS : ∃ t, mg "MOST_LETTERS" = some (.int 8 t)
  g_MOST_MOVED : ∃ t, mg "MOST_MOVED" = some (.int 14 t)
  g_MOST_NUMBER : ∃ t, mg "MOST_NUMBER" = some (.int 4294967295 t)
  g_MOST_RECORDS : ∃ t, mg "MOST_RECORDS" = some (.int 6 t)
  g_MOST_SIZE : ∃ t, mg "MOST_SIZE" = some (.int 96 t)
  g_NO_NODE : ∃ t, mg "NO_NODE" = some (.int 0 t)
  g_Name : mg "Name" = some (.ref (He.ga K "Name"))
  g_Node : mg "Node" = some (.ref (He.ga K "Node"))
  g_ROOT : ∃ t, mg "ROOT" = some (.int 1 t)
  g_SEAL_KIND : ∃ t, mg "SEAL_KIND" = some (.int 3 t)
  g_Seal : mg "Seal" = some (.ref (He.ga K "Seal"))
  g_UNTIL_PLACE : ∃ t, mg "UNTIL_PLACE" = some (.int 26 t)
end K12
namespace K12
open PySem PySem.Spec PyProof.Rows L2 VB BM
section
variable {P : Program} {w : World} {K : PySem.W.Frag} {mg : Str → Option Value} {base : Heap} {f : Addr} {fd : FuncData}
def spTake : Sp := fun vs H Q _ => ∃ (a : Addr) (many n : Int), vs = [.ref a, .int many] ∧ Box H a n ∧ 0 < many ∧ many < 1099511627776 ∧ n < 100000000 ∧
  ∀ (r : Int) (H' : Hp), 0 ≤ r → r < many → Exb a H H' → Box H' a (n + 1) → Q (.int r) H'
theorem ok_take (T : Txt K mg) (F : FnP K "_law_take" s__law_take f fd) : Fg P w K mg base CX0 1 f fd ["_law_box_here", "_law_many"] spTake := by
  refine fg_of F sc__law_take (fun vs H Q E h => ?_) (fun cdv A outer s H vs Q E hr h => ⟨_, (PSs.nox (pss_cons (ps_if (PW.pt (pw_and (pt_tru (K := K) (pe_ix (u_ix (K := K)) (pv 0) pe_int (fun _ _ => rfl)) (by intro _; rfl)) (pw_and1 (pt_cmpR op_gt (pe_ix (u_ix (K := K)) (pv 0) pe_int (fun _ _ => rfl)) pe_int (nomark _)))))
  (pss_cons (ps_set (i := 2) sc__law_take.nd rfl (by first | exact Or.inl rfl | exact Or.inr rfl) (pe_op u_mod (pe_callTy call_int1 (by rfl) T.f_int (by decide +kernel) (pa_cons (pe_ix (u_ix (K := K)) (pv 0) pe_int (fun _ _ => rfl)) pa_nil)) (pv 1)))
  (pss_cons (ps_asg (pe_op op_fdivW (pe_ix (u_ix (K := K)) (pv 0) pe_int (fun _ _ => rfl)) (pv 1)) (pg_sub (pv 0) pe_int set_list))
  (pss_one (ps_ret (pv 2))))) pss_nil)
  (pss_cons (ps_asg (pe_op (u_add (K := K)) (pe_ix (u_ix (K := K)) (pv 0) pe_int (fun _ _ => rfl)) pe_int) (pg_sub (pv 0) pe_int set_list))
  (pss_cons (ps_set (i := 3) sc__law_take.nd rfl (by first | exact Or.inl rfl | exact Or.inr rfl) (pe_op u_mod (pe_callTy call_int1 (by rfl) T.f_int (by decide +kernel) (pa_cons (pe_op op_pow (pe_op (u_add (K := K)) (pe_op (u_add (K := K)) (pe_ix (u_ix (K := K)) (pv 0) pe_int (fun _ _ => rfl)) (pe_op (u_mul (K := K)) pe_int (pe_ix (u_ix (K := K)) (pv 0) pe_int (fun _ _ => rfl)))) pe_int) pe_int) pa_nil)) pe_int))
  (pss_one (ps_ret (pe_op u_mod (pe_op op_fdivW (pe_op u_mod (pe_callTy call_int1 (by rfl) T.f_int (by decide +kernel) (pa_cons (pe_op op_pow (pe_op (u_add (K := K)) (pe_op (u_mul (K := K)) (pv 3) pe_int) (pe_op (u_mul (K := K)) pe_int (pe_ix (u_ix (K := K)) (pv 0) pe_int (fun _ _ => rfl)))) pe_int) pa_nil)) pe_int) pe_int) (pv 1)))))))), ?_⟩)
  · obtain ⟨a, many, n, rfl, _⟩ := h
    rfl
  · obtain ⟨a, many, n, rfl, ⟨d, m, c, b, hb, hd, hm, hm2, hc, hc2⟩, h1, h2, hn, q⟩ := h
    have S : SqL K H a [.int d, .bl b, .int m, .int c] := SqL.of hb
    -- the digits' way
    have A1 : b = true → 0 < d → Q (.int (d % many)) (upd H a (.lst [.int (d / many), .bl b, .int m, .int c])) := by
      intro _ _
      refine q _ _ (Int.emod_nonneg _ (by omega)) (Int.emod_lt_of_pos _ h1) Exb.upd ⟨d / many, m, c, b, upd_same, Int.ediv_nonneg hd (by omega), hm, hm2, hc, by omega⟩
    -- the mixed way
    have A2 : ∀ z : Int, Q (.int (z % many)) (upd H a (.lst [.int d, .bl b, .int m, .int (c + 1)])) := by
      intro z
      exact q _ _ (Int.emod_nonneg _ (by omega)) (Int.emod_lt_of_pos _ h1) Exb.upd ⟨d, m, c + 1, b, upd_same, hd, hm, hm2, by omega, by omega⟩
    have S1 : SqL K (upd H a (.lst [.int d, .bl b, .int m, .int (c + 1)])) a [.int d, .bl b, .int m, .int (c + 1)] := SqL.of upd_same
    have k1 : CMulX 15485867 (c + 1) := mulx_ok (a := 30) (b := 30) (by decide) (by show _ < 1073741824; omega) (by decide)
    have k2 : ∀ x : Int, 0 ≤ x → x < 2147483647 → CMulX x 48271 := fun x _ _ => mulx_ok (a := 32) (b := 20) (by show _ < 4294967296; omega) (by decide) (by decide)
    have k3 : CMulX 7919 (c + 1) := mulx_ok (a := 30) (b := 30) (by decide) (by show _ < 1073741824; omega) (by decide)
    have p1 : CPow (m + 15485867 * (c + 1) + 179425033) 5 := ⟨by decide, by decide, by show _ < 18446744073709551616; omega⟩
    have p2 : ∀ x : Int, 0 ≤ x → x < 2147483647 → CPow (x * 48271 + 7919 * (c + 1)) 3 := fun x _ _ => ⟨by decide, by decide, by show _ < 18446744073709551616; omega⟩
    have nz1 : (0 : Int) < 2147483647 := by decide
    have nz2 : (0 : Int) < 2147483587 := by decide
    have cd64 : ∀ x : Int, CDivW x 64 := fun x => ⟨by decide, by decide⟩
    have cdm : ∀ x : Int, CDivW x many := fun x => ⟨h1, by
      have z : many.natAbs < 2 ^ 40 := by show _ < 1099511627776; omega
      have := (Nat.log2_lt (by omega)).2 z
      omega⟩
    have hx0 : ∀ z : Int, 0 ≤ z % 2147483647 ∧ z % 2147483647 < 2147483647 := by
      intro z
      exact ⟨Int.emod_nonneg _ (by decide), Int.emod_lt_of_pos _ (by decide)⟩
    refine ⟨_, rfl, .inl ⟨a, _, 1, _, rfl, rfl, S, rfl, b, rfl, ?_⟩⟩
    by_cases hbd : b = true ∧ 0 < d
    · obtain ⟨rfl, hd0⟩ := hbd
      refine iteT ⟨_, rfl, .inl ⟨a, _, 0, _, rfl, rfl, S, rfl, _, _, rfl, rfl, _, rfl, ?_⟩⟩
      rw [decide_eq_true hd0]
      refine iteT ⟨_, rfl, .inl ⟨a, _, 0, _, rfl, rfl, S, rfl, .inl ⟨_, rfl, _, rfl, _, _, rfl, rfl, h1, ?_⟩⟩⟩
      refine ⟨_, rfl, .inl ⟨a, _, 0, _, rfl, rfl, S, rfl, _, rfl, _, _, rfl, rfl, cdm _, _, rfl, a, _, _, _, rfl, rfl, hb, rfl, ?_⟩⟩
      exact ⟨_, rfl, A1 rfl hd0⟩
    · apply once
      · intro rest
        cases b with
        | false => exact iteF (iteF rest)
        | true =>
          refine iteT ⟨_, rfl, .inl ⟨a, _, 0, _, rfl, rfl, S, rfl, _, _, rfl, rfl, _, rfl, ?_⟩⟩
          rw [decide_eq_false (fun z => hbd ⟨rfl, z⟩)]
          exact iteF rest
      refine ⟨_, rfl, .inl ⟨a, _, 3, _, rfl, rfl, S, rfl, .inl ⟨_, _, rfl, rfl, _, rfl, a, _, _, _, rfl, rfl, hb, rfl, ?_⟩⟩⟩
      refine ⟨_, rfl, .inl ⟨a, _, 2, _, rfl, rfl, S1, rfl, ?_⟩⟩
      refine ⟨_, rfl, .inl ⟨a, _, 3, _, rfl, rfl, S1, rfl, .inl ⟨_, _, rfl, rfl, k1, .inl ⟨_, _, rfl, rfl, .inl ⟨_, _, rfl, rfl, _, _, rfl, rfl, p1, .inl ⟨_, rfl, _, _, rfl, rfl, nz1, ?_⟩⟩⟩⟩⟩⟩
      refine ⟨_, rfl, .inl ⟨_, _, rfl, rfl, k2 _ (hx0 _).1 (hx0 _).2, ?_⟩⟩
      refine ⟨_, rfl, .inl ⟨a, _, 3, _, rfl, rfl, S1, rfl, .inl ⟨_, _, rfl, rfl, k3, .inl ⟨_, _, rfl, rfl, _, _, rfl, rfl, p2 _ (hx0 _).1 (hx0 _).2, .inl ⟨_, rfl, _, _, rfl, rfl, nz2, ?_⟩⟩⟩⟩⟩
      refine ⟨_, _, rfl, rfl, cd64 _, _, rfl, _, _, rfl, rfl, h1, ?_⟩
      exact A2 _
/-! ### cells and boxes -/
def spBox : Sp := fun vs H Q _ => ∃ g : Int, vs = [.int g] ∧ ∀ (p : Addr) (H' : Hp), H p = none → Evl.Ex H H' → Box H' p 0 → Q (.ref p) H'
theorem ok_box (T : Txt K mg) (F : FnP K "_law_box" s__law_box f fd) : Fg P w K mg base CX0 1 f fd ["_law_great"] spBox := by
  refine fg_of F sc__law_box (fun vs H Q E h => ?_) (fun cdv A outer s H vs Q E hr h => ⟨_, (PSs.nox (pss_one (ps_ret (pe_lst (pa_cons (pe_callB call_abs (by rfl) T.f_abs (by decide +kernel) (pa_cons (pv 0) pa_nil)) (pa_cons (pe_cmpR op_ge (pe_callB call_abs (by rfl) T.f_abs (by decide +kernel) (pa_cons (pv 0) pa_nil)) (pe_op op_pow pe_int pe_int) (nomark _)) (pa_cons (pe_op u_mod (pe_callTy call_int1 (by rfl) T.f_int (by decide +kernel) (pa_cons (pe_callB call_abs (by rfl) T.f_abs (by decide +kernel) (pa_cons (pv 0) pa_nil)) pa_nil)) pe_int) (pa_cons pe_int pa_nil)))))))), ?_⟩)
  · obtain ⟨g, rfl, _⟩ := h
    rfl
  · obtain ⟨g, rfl, q⟩ := h
    have nz : (0 : Int) < 2147483629 := by decide
    have hp : CPow 10 18 := ⟨by decide, by decide, by decide⟩
    refine ⟨_, rfl, _, rfl, _, rfl, _, rfl, _, _, rfl, rfl, hp, _, _, rfl, rfl, _, rfl, _, rfl, .inl ⟨_, rfl, _, _, rfl, rfl, nz, ?_⟩⟩
    refine ⟨by show 4 ≤ sizeLine; decide, fun p hp => q p _ hp (Evl.Ex.new hp) ⟨_, _, _, _, upd_same, ?_, ?_, ?_, by omega, by omega⟩⟩
    · split <;> omega
    · exact Int.emod_nonneg _ (by decide)
    · exact Int.emod_lt_of_pos _ (by decide)
def spCell (K : PySem.W.Frag) : Sp := fun vs H Q _ => ∃ (a : Addr) (ns : List Int) (k : Int), vs = [.ref a, .int k] ∧ SqL K H a (ns.map V.int) ∧ 0 ≤ k ∧ k ≤ 100 ∧ ns.length ≤ 1000 ∧
  ∀ (g : Int) (H' : Hp), Evl.Ex H H' → Q (.int g) H'
theorem ok_cell (T : Txt K mg) (F : FnP K "_law_cell" s__law_cell f fd) : Fg P w K mg base CX0 1 f fd ["_law_script", "_law_k"] (spCell K) := by
  refine fg_of F sc__law_cell (fun vs H Q E h => ?_) (fun cdv A outer s H vs Q E hr h => ⟨_, (PSs.nox (pss_one (ps_ret (pe_ifExp (pt_cmpR op_lt (pv 1) (pe_callB (u_len (K := K)) (by rfl) T.f_len (by decide +kernel) (pa_cons (pv 0) pa_nil)) (nomark _)) (pe_ix (u_ix (K := K)) (pv 0) (pv 1) (fun _ _ => rfl)) (pe_op (u_add (K := K)) (pe_op (u_add (K := K)) (pe_op (u_mul (K := K)) pe_int (pv 1)) pe_int) (pe_op u_mod (pe_callB (u_sum (K := K) rfl) (by rfl) T.f_sum (by decide +kernel) (pa_cons (pe_slice (u_sl (K := K)) (pv 0) po_none (po_some pe_int)) pa_nil)) pe_int)))))), ?_⟩)
  · obtain ⟨a, ns, k, rfl, _⟩ := h
    rfl
  · obtain ⟨a, ns, k, rfl, S, k0, k1, hl, q⟩ := h
    have nz : (0 : Int) < 1000003 := by decide
    refine ⟨_, rfl, _, rfl, _, _, rfl, .inl ⟨_, S, rfl⟩, _, _, rfl, rfl, _, rfl, ?_⟩
    rw [List.length_map]
    refine ite2 (fun h => ?_) (fun h => ?_)
    · have h' : k < (ns.length : Int) := by simpa using h
      obtain ⟨j, rfl⟩ : ∃ j : Nat, k = j := ⟨k.toNat, by omega⟩
      have hj : j < ns.length := by omega
      refine ⟨_, rfl, _, rfl, .inl ⟨a, _, _, .int ns[j], rfl, rfl, S, ?_, q _ _ (Evl.Ex.refl _)⟩⟩
      rw [atI_nat]
      simp [hj]
    · have km : CMulX 7919 k := mulx_ok (a := 30) (b := 30) (by decide) (by show _ < 1073741824; omega) (by decide)
      have cut : ∃ ms : List Int, cutV (ns.map V.int) none (some 1) = ms.map V.int := ⟨(ns.drop _).take _, by unfold cutV; rw [← List.map_drop, ← List.map_take]⟩
      obtain ⟨ms, hms⟩ := cut
      refine ⟨_, rfl, .inl ⟨_, _, rfl, rfl, km, .inl ⟨_, _, rfl, rfl, _, rfl, _, rfl, .inl ⟨a, _, rfl, S, fun p hp => ⟨p, ms, rfl, ?_, _, _, rfl, rfl, nz, .inl ⟨_, _, rfl, rfl, q _ _ (Evl.Ex.new hp)⟩⟩⟩⟩⟩⟩
      rw [hms]
      exact SqL.of upd_same
end
end K12
/-! repr of data, of truths, of ints, of None and of texts -/
namespace VB
open PySem PySem.Spec PyProof.Rows L2
section
variable {X : Cx}
theorem call_repr_non : CallR X (.builtin "repr") (fun xs H Q => xs = [.non] ∧ Q (.str "None") H) := by
  intro pins s σ H xs us Q I r h
  obtain ⟨rfl, q⟩ := h
  obtain ⟨u, rfl, ru⟩ := vals1 r
  cases (show u = Value.none from ru)
  exact PySem.P.repr_of_none ⟨.str _, H, I.tok _, ⟨_, rfl⟩, q⟩
theorem call_repr_str : CallR X (.builtin "repr") (fun xs H Q => ∃ x : Str, xs = [.str x] ∧ (reprText x).length ≤ sizeLine ∧ Q (.str (reprText x)) H) := by
  intro pins s σ H xs us Q I r h
  obtain ⟨x, rfl, hl, q⟩ := h
  obtain ⟨u, rfl, ru⟩ := vals1 r
  obtain ⟨t, rfl⟩ := (show ∃ t, u = Value.str x t from ru)
  exact PySem.P.repr_of_str ⟨.str _, H, I.tok _, ⟨_, rfl⟩, q⟩ hl
end
def rReprA (K : PySem.W.Frag) : List V → Hp → VK → Prop := fun xs H Q => rReprU K xs H Q ∨ ((xs = [.non] ∧ Q (.str "None") H) ∨ ∃ x : Str, xs = [.str x] ∧ (reprText x).length ≤ sizeLine ∧ Q (.str (reprText x)) H)
section
variable {X : Cx} {K : PySem.W.Frag} {H : Hp} {Q : VK}
theorem u_reprA {k : Nat} (hr : Rm k X.A) (hK : X.K = K := by rfl) : CallR X (.builtin "repr") (rReprA K) := by
  subst hK
  exact (u_reprU hr).or (call_repr_non.or call_repr_str)
end
end VB
/-! repr of an int of any size below the limit of digits, where nothing has set that limit -/
namespace VB
open PySem PySem.Spec PyProof.Rows L2
section
variable {prog : Program} {w : World} {A : Around} {E : Value → Shared → Prop} {s : Shared} {a : Int} {t : Tok}
theorem call_int_repr_big {Q : Value → Shared → Prop} (hn : s.heap.NoDigits) (ha : a.natAbs < 10 ^ 4300) (h : Q (.str (toString a) s.toks) { s with toks := s.toks + 1 }) :
    wpAny (model prog w) A (call (.builtin "int.__repr__") [.int a t]) Q E s := by
  refine wpAny_call_entry F.slot_int_repr (typeIs_int s a t) F.entry_int_repr ?_ (F.args_int_repr_1 _)
  unfold Builtin.«int.__repr__»
  show wpAny _ _ (do let r ← Builtin.overDigitLimit? a; _) _ _ s
  exact wpAny_bind (overDigitLimit_any hn (fun hlt => wpAny_bind (wpAny_mkStr (wpAny_pure ⟨_, rfl, h⟩) (int_text_fits10 hlt))) (fun hge => absurd hge (Nat.not_le.mpr ha)))
theorem repr_of_int_big {Q : Value → Shared → Prop} (hn : s.heap.NoDigits) (ha : a.natAbs < 10 ^ 4300) (h : Q (.str (toString a) s.toks) { s with toks := s.toks + 1 }) :
    wpAny (model prog w) A (call (.builtin "repr") [.int a t]) Q E s := by
  have hT := typeIs_int s a t
  have hv : [Value.int a t].any Value.onHeap = false := rfl
  refine Calls.call_function_entry F.kind_repr F.plain_repr F.entry_repr (F.args_repr1 _) ?_
  unfold Builtin.«repr»
  refine wpAny_bind (m := oneArg "repr" _) (wpAny_pure ?_)
  simp only [cRoomFor, hv, Bool.false_eq_true, if_false, pure_bind]
  refine wpAny_bind (wpAny_specialOf (name := Str.ofString "__repr__") hT F.slot_int_repr.lookup ?_)
  refine wpAny_bind (m := callSpecialIfBound? (.int a t) (Str.ofString "__repr__")) (wpAny_callSpecialIfBound?_slot (name := Str.ofString "__repr__") hT F.slot_int_repr (call_int_repr_big hn ha ?_))
  refine wpAny_bind (wpAny_isInstance (T := "str") (b := true) rfl isSubtype_str_str ?_)
  exact wpAny_pure ⟨_, rfl, h⟩
end
section
variable {X : Cx}
def rReprB : List V → Hp → VK → Prop := fun xs H Q => ∃ i, xs = [.int i] ∧ i.natAbs < 10 ^ 4300 ∧ Q (.str (toString i)) H
theorem call_repr_big (hd : X.base.NoDigits) : CallR X (.builtin "repr") rReprB := by
  intro pins s σ H xs us Q I r h
  obtain ⟨i, rfl, hz, q⟩ := h
  obtain ⟨u, rfl, t, rfl⟩ := vals1 r
  exact repr_of_int_big (hd.keeps I.bk) hz ⟨.str _, H, I.tok _, ⟨_, rfl⟩, q⟩
end
theorem first_callD {P : Program} {w : World} {K : PySem.W.Frag} {mg mb : Str → Option Value} {CX : CXT} {k : Nat}
    {fa a : Addr} {fd : FuncData} {x : Str} {sp : Sp} {s : Shared} {vs : List Value} {ns : List Int}
    (KX : K.In s.heap) (hns : s.heap.Ns mainGlobals mg) (hb : s.heap.Ns builtinsNs mb)
    (hbb : ∀ x : Str, x ≠ "__name__" → mb x = bootBuiltins x) (hlim : s.heap.NoLimit) (hdig : s.heap.NoDigits) (hg : s.gens = #[])
    (ha : s.heap.get? a = some { cls := .type "list", data := .seq vs.toArray }) (hi : IntsAre vs ns)
    (hl : ns.length ≤ sizeLine) (hr : Rm k callerA)
    (F : ∀ base : Heap, K.In base → base.Ns mainGlobals mg → base.NoDigits → Fg P w K mg base CX k fa fd [x] sp)
    (hbind : ∀ (s : Shared) (u : Value), BindsTo s fd ⟨[u], []⟩ [(x, u)])
    (hsp : ∀ H : Hp, Only H → SqL K H a (ns.map V.int) → sp [.ref a] H (fun v _ => v = .bl true) fun _ _ _ => False)
    (hCX : ∀ H e s', CX [] H s (fun _ _ _ => False) e s' → False) :
    codeAny (model P w) callerA (.call (.ref fa) ⟨[.ref a], []⟩)
      (fun r s' => r = .ok (.ret (.bool true)) ∧ OldK s.heap s'.heap ∧ s'.os = s.os ∧ AllBare s'.gens) s := by
  -- what is tracked at first: the script at most
  let o : Obj := { cls := .type "list", data := .seq vs.toArray }
  have main : ∀ H : Hp, (∀ b, H b = none ∨ (b = a ∧ H b = some (.frz o (.lst (ns.map V.int))) ∧ K.lookup a = none)) →
      SqL K H a (ns.map V.int) → HOk P w H s.heap → codeAny (model P w) callerA (.call (.ref fa) ⟨[.ref a], []⟩)
      (fun r s' => r = .ok (.ret (.bool true)) ∧ OldK s.heap s'.heap ∧ s'.os = s.os ∧ AllBare s'.gens) s := by
    intro H hH hS hok
    have dictFree : ∀ {b : Addr} {ob : Obj} {es : Array DictEntry} {ep : Nat}, s.heap.get? b = some ob →
        ob.data = .dict es ep → H b = none := by
      intro b ob es ep e d
      rcases hH b with q | ⟨rfl, q, _⟩
      · exact q
      · rw [ha] at e
        cases e
        exact nomatch d
    have nsB : ∀ {b : Addr} {m : Str → Option Value}, s.heap.Ns b m → (hidT s.heap H).Ns b m := by
      rintro b m ⟨ob, es, ep, e, d, r⟩
      exact ⟨ob, es, ep, hidT_get e (dictFree e d), d, r⟩
    have kB : K.In (hidT s.heap H) := by
      intro b ob e
      refine hidT_get (KX b ob e) ?_
      rcases hH b with q | ⟨rfl, _, q⟩
      · exact q
      · rw [e] at q
        cases q
    have lim' : (hidT s.heap H).NoLimit := by
      obtain ⟨mc, h1, h2⟩ := hlim
      exact ⟨mc, nsB h1, h2⟩
    have dig' : (hidT s.heap H).NoDigits := by
      obtain ⟨mc, h1, h2⟩ := hdig
      exact ⟨mc, nsB h1, h2⟩
    have md : Mod K mg (hidT s.heap H) := ⟨kB, nsB hns, ⟨mb, nsB hb, hbb⟩, lim'⟩
    have nob : ∀ b ∈ frs ([] : List Env), H b = none := fun b hb => by cases hb
    have e0 : Env0 P w K mg (hidT s.heap H) callerA [] s H :=
      ⟨rfl, md, fun b ob e => of_hidT e, Nat.le_of_eq (hidT_size _ _), trivial, nob, hok, .of_eq hg⟩
    have oH : Only H := by
      intro b
      rcases hH b with q | ⟨_, q, _⟩
      · exact .inl q
      · exact .inr ⟨_, _, q⟩
    have run := (F _ kB (nsB hns) dig').go callerA [] s H ⟨[.ref a], []⟩ [.ref a] [.ref a] _ _ hr e0
      (hbind s (.ref a)) (.cons rfl .nil) (hsp H oH hS)
    refine codeAny_mono run ?_
    intro r s' h
    match r, h with
    | .error e, h => exact (hCX H e s' h).elim
    | .ok .next, h => exact False.elim h
    | .ok .brk, h => exact False.elim h
    | .ok .cont, h => exact False.elim h
    | .ok (.ret u), h =>
      obtain ⟨v, H', os, bare, un, hok', rv, q⟩ := h
      have q : v = .bl true := q
      subst q
      have ru : u = Value.bool true := rv
      subst ru
      refine ⟨rfl, OldK.of_keep ?_, os, bare⟩
      intro b ob e
      rcases hH b with q | ⟨_, q, _⟩
      · exact un.keep b ob e q (fun z => by cases z) (fun z => by cases z)
      · obtain ⟨e1, _⟩ := hok b _ q
        obtain ⟨e2, _⟩ := hok' b _ (un.frzs b o _ q)
        rw [e] at e1
        cases e1
        exact e2
  have rv := vals_ints hi
  cases hk : K.lookup a with
  | some ob =>
    have e := KX a ob hk
    rw [ha] at e
    cases e
    refine main (fun _ => none) (fun b => .inl rfl) (.inr ⟨_, vs.toArray, _, hk, rfl, rfl, rfl, ?_, by simpa using rv⟩) (fun b u z => by cases z)
    rw [List.size_toArray, hi.length]
    exact hl
  | none =>
    let H1 : Hp := fun b => if b = a then some (.frz o (.lst (ns.map V.int))) else none
    have at1 : H1 a = some (.frz o (.lst (ns.map V.int))) := if_pos rfl
    refine main H1 ?_ (.inl (.inr ⟨o, at1⟩)) ?_
    · intro b
      by_cases hb : b = a
      · subst hb
        exact .inr ⟨rfl, at1, hk⟩
      · exact .inl (if_neg hb)
    · intro b u z
      by_cases hb : b = a
      · subst hb
        rw [at1] at z
        cases z
        exact ⟨ha, by rw [List.length_map]; exact hl, vs, _, rv, ha⟩
      · have z' : H1 b = none := if_neg hb
        rw [z'] at z
        cases z

/-- law_walk, the heap's digits let be -/
theorem law_walkD {l : PySem.W.OpenLaw} {n k : Nat} {q : Program} {loose : List Str} {XP : (Str → Option Value) → Heap → Prop}
    {YP : World → Heap → Prop} {d : DefRec} {CX : CXT} {x : Str}
    (hn : l.most = some n) (hn2 : n ≤ sizeLine) (hdf : d.params.defaults = []) (hr : Rm k callerA)
    (F : ∀ (w : World) (mg : Str → Option Value) (fa : Addr) (h : Heap), YP w h → h.Ns mainGlobals mg → mg d.name = some (.ref fa) → h.NoDigits →
      ∃ (K : PySem.W.Frag) (fd : FuncData) (sp : Sp), K.In h ∧ (∀ (s : Shared) (u : Value), BindsTo s fd ⟨[u], []⟩ [(x, u)]) ∧
        (∀ (H : Hp) (a : Addr) (ns : List Int), ns.length ≤ n → Only H → SqL K H a (ns.map V.int) →
          sp [.ref a] H (fun v _ => v = .bl true) fun _ _ _ => False) ∧
        ∀ base : Heap, K.In base → base.Ns mainGlobals mg → base.NoDigits → Fg l.prog w K mg base CX k fa fd [x] sp)
    (hCX : ∀ (H : Hp) (s : Shared) (e : Value) (s' : Shared), CX [] H s (fun _ _ _ => False) e s' → False) :
    PySem.W.WalkO q loose XP YP l.row.toRowW d [] (fun f vs => PySem.call f vs) := by
  refine Att.attach_call hn hdf ?_
  intro w s₀ s₁ mg mb fa o pm cd doc a vs ns G Y ho hd hcd hmg hobj hints hlen hg
  obtain ⟨K, fd, sp, KX, hb, hsp, hF⟩ := F w mg fa _ Y G.T.g hmg G.T.nodigits
  exact first_callD KX G.T.g G.T.b G.T.builtins G.T.nolimit G.T.nodigits hg hobj hints (Nat.le_trans hlen hn2) hr hF hb
    (fun H hO hS => hsp H a ns hlen hO hS) (fun H e s' => hCX H s₁ e s')
end VB
/-! repr of a list of flat values, ints of any size below the limit of digits among them -/
namespace VB
open PySem PySem.Spec PyProof.Rows L2
/-- what a flat value is shown as -/
inductive Tx : V → Str → Prop
  | non : Tx .non "None"
  | bl (b : Bool) : Tx (.bl b) (if b then "True" else "False")
  | int (i : Int) (h : i.natAbs < 10 ^ 4300) : Tx (.int i) (toString i)
  | str (x : Str) (h : (reprText x).length ≤ sizeLine) : Tx (.str x) (reprText x)
section
variable {prog : Program} {w : World} {A : Around} {E : Value → Shared → Prop} {s : Shared} {a : Int} {t : Tok}
theorem pyReprObj_big {Q : Value → Shared → Prop} (hn : s.heap.NoDigits) (ha : a.natAbs < 10 ^ 4300) (h : Q (.str (toString a) s.toks) { s with toks := s.toks + 1 }) :
    wpAny (model prog w) A (pyReprObj (.int a t)) Q E s := by
  have hT := typeIs_int s a t
  have hv : [Value.int a t].any Value.onHeap = false := rfl
  unfold pyReprObj
  simp only [cRoomFor, hv, Bool.false_eq_true, if_false, pure_bind]
  refine wpAny_bind (wpAny_specialOf (name := Str.ofString "__repr__") hT F.slot_int_repr.lookup ?_)
  refine wpAny_bind (m := callSpecialIfBound? (.int a t) (Str.ofString "__repr__")) (wpAny_callSpecialIfBound?_slot (name := Str.ofString "__repr__") hT F.slot_int_repr (call_int_repr_big hn ha ?_))
  refine wpAny_bind (wpAny_isInstance (T := "str") (b := true) rfl isSubtype_str_str ?_)
  exact wpAny_pure h
theorem reprK_tx {h₀ : Heap} {y : V} {u : Value} {x : Str} (hd : h₀.NoDigits) (r : RelV y u) (e : Tx y x) : ReprK prog w [] h₀ 0 u x := by
  cases e with
  | non => cases r; exact .of_is ReprIs.none _ _ _
  | bl b => cases r; exact .of_is (ReprIs.bool b) _ _ _
  | str z hz =>
    obtain ⟨k, rfl⟩ := r
    exact .of_is (ReprIs.str z k hz) _ _ _
  | int i hi =>
    obtain ⟨k, rfl⟩ := r
    intro base hb A g E s Q hg hcl hu hk hQ
    rw [pyReprUnder_leaf (v := .int i k) (by omega) (fun _ z => nomatch z)]
    unfold pyRepr
    exact wpAny_bind (pyReprObj_big (hd.keeps hk) hi (wpAny_pure (hQ s.heap _ fun _ _ z => z)))
end
section
variable {X : Cx} {k : Nat}
/-- repr(l), l a list of flat values, not empty -/
def rReprL (K : PySem.W.Frag) : List V → Hp → VK → Prop := fun xs H Q => ∃ (a : Addr) (ys : List V) (ts : List Str), xs = [.ref a] ∧ SqL K H a ys ∧ ys ≠ [] ∧ Paired Tx ys ts ∧ (listText ts).length ≤ sizeLine ∧ Q (.str (listText ts)) H
theorem paired_at {α β : Type} {R : α → β → Prop} : ∀ {xs : List α} {ys : List β}, Paired R xs ys → ∀ {i : Nat} {x : α}, xs[i]? = some x → ∃ y, ys[i]? = some y ∧ R x y
  | _, _, .nil, _, _, h => by cases h
  | _, _, .cons r t, 0, _, h => by cases h; exact ⟨_, rfl, r⟩
  | _, _, .cons r t, i + 1, _, h => paired_at t (i := i) h
theorem paired_len {α β : Type} {R : α → β → Prop} : ∀ {xs : List α} {ys : List β}, Paired R xs ys → xs.length = ys.length
  | _, _, .nil => rfl
  | _, _, .cons _ t => congrArg (· + 1) (paired_len t)
theorem call_reprL (hr : Rm k X.A) (hd : X.base.NoDigits) : CallR X (.builtin "repr") (rReprL X.K) := by
  intro pins s σ H xs us Q I r h
  obtain ⟨a, ys, ts, rfl, hs, ne, pt, hz, q⟩ := h
  obtain ⟨u, rfl, ru⟩ := vals1 r
  cases (show u = Value.ref a from ru)
  obtain ⟨its, rv, ⟨⟨cls, dd, data, sl⟩, n, ho, hc, hdn, hdt⟩, hlen⟩ := I.list hs
  simp only at hc hdt
  subst hc hdt
  have hu := hr.rm.un
  have hD : s.heap.NoDigits := hd.keeps I.bk
  cases its with
  | nil => cases rv; exact absurd rfl ne
  | cons x l =>
    have hl := rv.length
    have hl2 := paired_len pt
    refine call_repr_slot (T := "list") (by omega) ⟨_, ho, rfl⟩ F.slot_list_repr.toG ?_
    refine call_list_reprK (as := []) (d := 0) ho rfl rfl (fun z => nomatch z) (by simpa using (hl2.symm.trans hl)) (fun i y hy => ?_) (A := X.A.in1) (g := []) hr.gd (fun b _ => Clear.nil b) (by show X.A.units + 1 + (0 + 1) < cLine; omega) (fun _ _ z => z) (fun h' u' tk kp => ⟨_, _, rfl, ?_⟩) hz
    · have hy' : (x :: l)[i]? = some y := by simpa using hy
      have hi : i < ys.length := by
        obtain ⟨h1, _⟩ := List.getElem?_eq_some_iff.mp hy'
        rw [hl]
        exact h1
      obtain ⟨t, ht, hT⟩ := paired_at pt (List.getElem?_eq_getElem hi)
      obtain ⟨u2, hu2, ru2⟩ := rv.get (List.getElem?_eq_getElem hi)
      rw [hu2] at hy'
      cases hy'
      exact ⟨t, ht, reprK_tx hD ru2 hT⟩
    · exact ⟨.str (listText ts), H, I.un (Un.kept kp) (I.hok.kept kp), ⟨u', rfl⟩, q⟩
end
end VB
/-! repr of a dict whose keys and values are flat -/
namespace VB
open PySem PySem.Spec PyProof.Rows L2
/-- an entry's text -/
def TxE (p : Key × V) (x : Str) : Prop := ∃ a b : Str, Tx (kV p.1) a ∧ Tx p.2 b ∧ x = a ++ ": " ++ b
theorem key_rel {k : Key} {v : Value} (h : keyIs k v = true) : RelV (kV k) v := by
  rcases keyIs_shape h with ⟨i, t, rfl, rfl⟩ | ⟨x, t, rfl, rfl⟩
  · exact ⟨t, rfl⟩
  · exact ⟨t, rfl⟩
theorem entriesK {prog : Program} {w : World} {h₀ : Heap} (hd : h₀.NoDigits) : ∀ {kvs : List (Key × V)} {vs : List (Key × Value)} {es : List DictEntry} {ps : List Str},
    L2.KV kvs vs → Pairs (mixKind prog w) es vs → Paired TxE kvs ps → ReprEntriesK prog w [] h₀ 0 es ps
  | _, _, _, _, .nil, .nil, .nil => .nil
  | _, _, _, _, .cons r rs, .cons hk hv ts, .cons te tt => by
    obtain ⟨a, b, ta, tb, rfl⟩ := te
    obtain ⟨e1, rv⟩ := r
    refine .cons (reprK_tx hd (key_rel ?_) ta) (reprK_tx hd (hv ▸ rv) tb) (entriesK hd rs ts tt)
    rw [e1]
    exact hk
section
variable {X : Cx} {k : Nat}
def rReprD : List V → Hp → VK → Prop := fun xs H Q => ∃ (a : Addr) (kvs : List (Key × V)) (ps : List Str), xs = [.ref a] ∧ H a = some (.dK kvs) ∧ Paired TxE kvs ps ∧ (dictText ps).length ≤ sizeLine ∧ Q (.str (dictText ps)) H
theorem call_reprD (hr : Rm k X.A) (hd : X.base.NoDigits) : CallR X (.builtin "repr") rReprD := by
  intro pins s σ H xs us Q I r h
  obtain ⟨a, kvs, ps, rfl, ha, pt, hz, q⟩ := h
  obtain ⟨u, rfl, ru⟩ := vals1 r
  cases (show u = Value.ref a from ru)
  have hx : ObjOk X.prog X.w H s.heap a (.dK kvs) := I.hok a _ ha
  obtain ⟨_, hsys, vs, hkv, o, es, ep, ho, hex, hda, _, hp, _⟩ := hx
  have hu := hr.rm.un
  have hD : s.heap.NoDigits := hd.keeps I.bk
  have hc : o.cls = .type "dict" := hex.1
  refine call_repr_slot (T := "dict") (by omega) ⟨o, ho, hc⟩ F.slot_dict_repr ?_
  refine call_dict_reprK (as := []) (d := 0) ho hc hda hsys (fun z => nomatch z) (entriesK hD hkv hp pt) (A := X.A.in1) (g := []) hr.gd (fun b _ => Clear.nil b) (by show X.A.units + 1 + (0 + 1) < cLine; omega) (fun _ _ z => z) (fun h' u' tk kp => ⟨_, _, rfl, ?_⟩) hz
  exact ⟨.str (dictText ps), H, I.un (Un.kept kp) (I.hok.kept kp), ⟨u', rfl⟩, q⟩
end
end VB
/-! repr of lists, tuples and dicts in one another, ints of any size below the limit of digits -/
namespace VB
open PySem PySem.Spec PyProof.Rows L2
mutual
/-- y is shown as t; bs: the lists, tuples and dicts that are opened for it; d: how deep -/
inductive Shw (H : Hp) : V → Str → List Addr → Nat → Prop
  | flat {y : V} {t : Str} : Tx y t → Shw H y t [] 0
  | dct {a : Addr} {kvs : List (Key × V)} {ps : List Str} : H a = some (.dK kvs) → Paired TxE kvs ps → Shw H (.ref a) (dictText ps) [a] 1
  | lst0 {a : Addr} : H a = some (.lst []) → Shw H (.ref a) "[]" [] 0
  | lst {a : Addr} {ys : List V} {ts : List Str} {bs : List Addr} {d : Nat} : H a = some (.lst ys) → ys ≠ [] → ShwAll H ys ts bs d → a ∉ bs → Shw H (.ref a) (listText ts) (a :: bs) (d + 1)
  | tup {a : Addr} {ys : List V} {ts : List Str} {bs : List Addr} {d : Nat} : H a = some (.tup ys) → ShwAll H ys ts bs d → a ∉ bs → Shw H (.ref a) (tupleText ts) (a :: bs) (d + 1)
inductive ShwAll (H : Hp) : List V → List Str → List Addr → Nat → Prop
  | nil {bs : List Addr} {d : Nat} : ShwAll H [] [] bs d
  | cons {y : V} {t : Str} {cs bs : List Addr} {e d : Nat} {ys : List V} {ts : List Str} : Shw H y t cs e → (∀ b ∈ cs, b ∈ bs) → e ≤ d → ShwAll H ys ts bs d → ShwAll H (y :: ys) (t :: ts) bs d
end
section
variable {P : Program} {w : World} {H : Hp} {h₀ : Heap}
theorem all_at {as : List Addr} {d : Nat} : ∀ {us : List Value} {ts : List Str}, ReprAllK P w as h₀ d us ts → ∀ {i : Nat} {u : Value}, us[i]? = some u → ∃ t, ts[i]? = some t ∧ ReprK P w as h₀ d u t
  | _, _, .nil, _, _, h => by cases h
  | _, _, .cons r t, 0, _, h => by cases h; exact ⟨_, rfl, r⟩
  | _, _, .cons r t, i + 1, _, h => all_at t (i := i) h
mutual
theorem shw_K (hok : HOk P w H h₀) (hd : h₀.NoDigits) : ∀ {y : V} {t : Str} {bs : List Addr} {d : Nat} {u : Value}, Shw H y t bs d → RelV y u → ReprK P w bs h₀ d u t
  | _, _, _, _, _, .flat tx, r => reprK_tx hd r tx
  | _, _, _, _, u, .dct (a := a) ha pt, r => by
    cases (show u = Value.ref a from r)
    have hx : ObjOk P w H h₀ a (.dK _) := hok a _ ha
    obtain ⟨_, hsys, vs, hkv, o, es, ep, ho, hex, hda, _, hp, _⟩ := hx
    exact ReprK.dict ho hex.1 hda hsys (fun z => nomatch z) (entriesK hd hkv hp pt)
  | _, _, _, _, u, .lst0 (a := a) ha, r => by
    cases (show u = Value.ref a from r)
    have hx : ObjOk P w H h₀ a (.lst _) := hok a _ ha
    obtain ⟨_, its, n, rv, ho⟩ := hx
    cases rv
    exact ReprK.listEmpty ho rfl rfl
  | _, _, _, _, u, .lst (a := a) ha ne hs na, r => by
    cases (show u = Value.ref a from r)
    have hx : ObjOk P w H h₀ a (.lst _) := hok a _ ha
    obtain ⟨_, its, n, rv, ho⟩ := hx
    have k := shw_all hok hd hs rv
    cases its with
    | nil => cases rv; exact absurd rfl ne
    | cons x l => exact ReprK.list ho rfl rfl na (by simpa using k.length_eq) (fun i y hy => all_at k (by simpa using hy))
  | _, _, _, _, u, .tup (a := a) ha hs na, r => by
    cases (show u = Value.ref a from r)
    have hx : ObjOk P w H h₀ a (.tup _) := hok a _ ha
    obtain ⟨_, its, rv, ho⟩ := hx
    have k := shw_all hok hd hs rv
    obtain ⟨o, e2, hc, n2, hdt⟩ := ho
    exact ReprK.tuple e2 hc hdt na (by simpa using k)
theorem shw_all (hok : HOk P w H h₀) (hd : h₀.NoDigits) : ∀ {ys : List V} {ts : List Str} {bs : List Addr} {d : Nat} {us : List Value}, ShwAll H ys ts bs d → Vals ys us → ReprAllK P w bs h₀ d us ts
  | _, _, _, _, _, .nil, .nil => .nil
  | _, _, _, _, _, .cons s hb he t, .cons r rs => .cons (((shw_K hok hd s r).more hb).level_le he) (shw_all hok hd t rs)
end
end
section
variable {X : Cx} {k : Nat}
/-- repr(y) -/
def rReprS : List V → Hp → VK → Prop := fun xs H Q => ∃ (y : V) (t : Str) (bs : List Addr) (d : Nat), xs = [y] ∧ Shw H y t bs d ∧ d ≤ 60 ∧ t.length ≤ sizeLine ∧ Q (.str t) H
theorem call_reprS (hr : Rm k X.A) (hd : X.base.NoDigits) : CallR X (.builtin "repr") rReprS := by
  intro pins s σ H xs us Q I r h
  obtain ⟨y, t, bs, d, rfl, hs, h60, hz, q⟩ := h
  have hu := hr.rm.un
  have hD : s.heap.NoDigits := hd.keeps I.bk
  have fin : ∀ (h' : Heap) (u' tk : Tok), (∀ b o, s.heap.get? b = some o → h'.get? b = some o) → EP X pins σ Q (.str t u') { s with heap := h', toks := tk } := fun h' u' tk kp => ⟨.str t, H, I.un (Un.kept kp) (I.hok.kept kp), ⟨u', rfl⟩, q⟩
  cases hs with
  | flat tx =>
    cases tx with
    | non => exact call_repr_non pins s σ H _ us Q I r ⟨rfl, q⟩
    | bl b => exact call_repr_bl pins s σ H _ us Q I r ⟨b, rfl, q⟩
    | int i hi => exact call_repr_big hd pins s σ H _ us Q I r ⟨i, rfl, hi, q⟩
    | str x hx => exact call_repr_str pins s σ H _ us Q I r ⟨x, rfl, hx, q⟩
  | dct ha pt => exact call_reprD hr hd pins s σ H _ us Q I r ⟨_, _, _, rfl, ha, pt, hz, q⟩
  | @lst0 a ha =>
    obtain ⟨u, rfl, ru⟩ := vals1 r
    cases (show u = Value.ref a from ru)
    have hx : ObjOk X.prog X.w H s.heap a (.lst _) := I.hok a _ ha
    obtain ⟨_, its, n, rv, ho⟩ := hx
    cases rv
    exact call_repr_slot (T := "list") (by omega) ⟨_, ho, rfl⟩ F.slot_list_repr.toG (call_list_repr_empty ⟨_, ho, rfl⟩ ho rfl ⟨_, _, rfl, fin s.heap _ _ fun _ _ z => z⟩)
  | @lst a ys ts bs d ha ne hs na =>
    obtain ⟨u, rfl, ru⟩ := vals1 r
    cases (show u = Value.ref a from ru)
    have hx : ObjOk X.prog X.w H s.heap a (.lst _) := I.hok a _ ha
    obtain ⟨_, its, n, rv, ho⟩ := hx
    have kk := shw_all (P := X.prog) (w := X.w) I.hok hD hs rv
    cases its with
    | nil => cases rv; exact absurd rfl ne
    | cons x l =>
      refine call_repr_slot (T := "list") (by omega) ⟨_, ho, rfl⟩ F.slot_list_repr.toG ?_
      exact call_list_reprK ho rfl rfl na (by simpa using kk.length_eq) (fun i y hy => all_at kk (by simpa using hy)) (A := X.A.in1) (g := []) hr.gd (fun b _ => Clear.nil b) (by show X.A.units + 1 + (d + 1) < cLine; omega) (fun _ _ z => z) (fun h' u' tk kp => ⟨_, _, rfl, fin h' u' tk kp⟩) hz
  | @tup a ys ts bs d ha hs na =>
    obtain ⟨u, rfl, ru⟩ := vals1 r
    cases (show u = Value.ref a from ru)
    have hx : ObjOk X.prog X.w H s.heap a (.tup _) := I.hok a _ ha
    obtain ⟨_, its, rv, o, e2, hc, n2, hdt⟩ := hx
    have kk := shw_all (P := X.prog) (w := X.w) I.hok hD hs rv
    refine call_repr_slot (T := "tuple") (by omega) ⟨o, e2, hc⟩ F.slot_tuple_repr ?_
    exact call_tuple_reprK e2 hc hdt na (by simpa using kk) (A := X.A.in1) (g := []) hr.gd (fun b _ => Clear.nil b) (by show X.A.units + 1 + (d + 1) < cLine; omega) (fun _ _ z => z) (fun h' u' tk kp => ⟨_, _, rfl, fin h' u' tk kp⟩) hz
end
end VB
/-! isinstance of a caught error that has a dict; == and index of own instances -/
namespace VB
open PySem PySem.Spec PyProof.Rows L2
/-- what isinstance asks of instances of the error class D, and that they are of class F -/
structure IsE (K : PySem.W.Frag) (D F : Addr) : Prop where
  ha : PySem.W.findIn K (.ref D) "__class__" = some (some (.builtin "object.__class__"))
  hn : PySem.W.specialIn K (.builtin "object.__class__") "__get__" = some (some (.builtin "getset_descriptor.__get__"))
  ht : PySem.W.takesIn K (.builtin "object.__class__") = some true
  hm : PySem.W.mroIn K D (.type "object") = some true
  kit : PySem.W.kitOne K (.ref D) (.ref F) = some true
def isEB (K : PySem.W.Frag) (D F : Addr) : Bool := decide (PySem.W.findIn K (.ref D) "__class__" = some (some (.builtin "object.__class__"))) && (decide (PySem.W.specialIn K (.builtin "object.__class__") "__get__" = some (some (.builtin "getset_descriptor.__get__"))) && (decide (PySem.W.takesIn K (.builtin "object.__class__") = some true) &&
  (decide (PySem.W.mroIn K D (.type "object") = some true) && decide (PySem.W.kitOne K (.ref D) (.ref F) = some true))))
theorem isEB_ok {K : PySem.W.Frag} {D F : Addr} (h : isEB K D F = true) : IsE K D F := by
  unfold isEB at h
  obtain ⟨h1, h⟩ := Bool.and_eq_true_iff.mp h
  obtain ⟨h2, h⟩ := Bool.and_eq_true_iff.mp h
  obtain ⟨h3, h⟩ := Bool.and_eq_true_iff.mp h
  obtain ⟨h4, h5⟩ := Bool.and_eq_true_iff.mp h
  exact ⟨of_decide_eq_true h1, of_decide_eq_true h2, of_decide_eq_true h3, of_decide_eq_true h4, of_decide_eq_true h5⟩
/-- isinstance(e, F), e the caught error -/
def rIsED (D F a : Addr) (cls : Value) (d : Option Addr) : List V → Hp → VK → Prop := fun xs H Q => xs = [.ref a, .ref F] ∧ cls = .ref D ∧ ∃ (dd : Addr) (fs : List (Str × V)), d = some dd ∧ H dd = some (.xd fs) ∧ Q (.bl true) H
theorem call_isED {X : Cx} {a D F : Addr} {oe : Obj} {cls : Value} {d : Option Addr} {pn : List (Addr × Obj)} (T : XfC X.K D) (C : IsE X.K D F) (hz : Zc cls d oe) (hf : ∃ vs, oe.data = .fields vs) : CallR (X.suite a ((a, oe) :: pn)) (.builtin "isinstance") (rIsED D F a cls d) := by
  intro pins s σ H xs us Q I r h
  obtain ⟨rfl, ec, dd, fs, ed, ea, q⟩ := h
  cases r with
  | cons rx rr =>
    cases rr with
    | cons rt rr =>
      cases rr
      cases rx
      cases rt
      subst ec
      subst ed
      obtain ⟨hget, _⟩ := I.pin (a, oe) (List.mem_append.mpr (.inl List.mem_cons_self))
      obtain ⟨vs, hd⟩ := hf
      have hx : ObjOk X.prog X.w H s.heap dd (.xd fs) := I.hok dd _ ea
      obtain ⟨mA, hns, hr⟩ := hx
      obtain ⟨od, ho, hl⟩ := lookIn_ns hns
      have J : PySem.W.InstAt s.heap a oe D (some od) := ⟨hget, hz.1, by unfold PySem.W.notCls; rw [hd] <;> rfl, by rw [hz.2]; exact ho⟩
      have hcl : (PySem.W.clsIn X.K D).isSome = true := by
        obtain ⟨cd, hc, _⟩ := PySem.W.any_some T.hdC
        rw [hc]
        rfl
      exact PySem.W.kia_one (PySem.W.kitx_exc hcl T.ga T.gg T.exC C.ha C.hn C.ht C.hm) I.kIn J C.kit (fun z => nomatch z) fun tk => ⟨.bl true, H, I.kept (t' := tk) fun _ _ z => z, rfl, q⟩
/-- what == asks of the class -/
def nsB (K : PySem.W.Frag) (N : Addr) : Bool := match K.lookup N with
  | some ⟨_, _, .dict es _, _⟩ => es.toList.all (fun e => match e.key with | .str _ _ => true | _ => false) && ((es.toList.find? (·.key.isStr "__eq__")).isNone && (es.toList.find? (·.key.isStr "__ne__")).isNone)
  | _ => false
def slB : List (Option Value) → Bool
  | [_, _, _, _, some (.builtin _), _] => true
  | _ => false
def cmpB (K : PySem.W.Frag) (C : Addr) : Bool := match K.lookup C with
  | some ⟨c, _, .cls cd, sl⟩ => decide (c = .type "type") && (decide (cd.mro = [.ref C, .type "object"]) && (!cd.hasDel && (slB sl.toList && nsB K cd.ns)))
  | _ => false
theorem cmp_ok {K : PySem.W.Frag} {h : Heap} {C a dx : Addr} (B : cmpB K C = true) (X : K.In h) (ha : h.get? a = some (PySem.W.instObj C dx)) : h.CmpInst a C [.type "object"] := by
  unfold cmpB at B
  split at B
  · rename_i c dd cd sl ho
    obtain ⟨b1, B⟩ := Bool.and_eq_true_iff.mp B
    obtain ⟨b2, B⟩ := Bool.and_eq_true_iff.mp B
    obtain ⟨b3, B⟩ := Bool.and_eq_true_iff.mp B
    obtain ⟨b4, b5⟩ := Bool.and_eq_true_iff.mp B
    have e1 : c = .type "type" := of_decide_eq_true b1
    have e2 : cd.mro = [.ref C, .type "object"] := of_decide_eq_true b2
    have e3 : cd.hasDel = false := by simpa using b3
    obtain ⟨nm, bs, mro, N, q, hdct, sn, sub, ab, col, del⟩ := cd
    dsimp only at e2 e3 b5
    subst e1 e2 e3
    obtain ⟨sl⟩ := sl
    unfold slB at b4
    split at b4
    · rename_i k0 k1 k2 k3 newId k5 es
      dsimp only at es
      subst es
      unfold nsB at b5
      split at b5
      · rename_i c' d' es ep sl' hN
        obtain ⟨n1, b5⟩ := Bool.and_eq_true_iff.mp b5
        obtain ⟨n2, n3⟩ := Bool.and_eq_true_iff.mp b5
        refine ⟨_, nm, q, N, bs, hdct, sn, sub, ab, col, dd, k0, k1, k2, k3, k5, newId, nsFind es, ha, rfl, X _ _ ho, ⟨_, es, ep, X _ _ hN, rfl, fun e he => ?_, fun _ => rfl⟩, ?_, ?_⟩
        · have := List.all_eq_true.mp n1 e (by simpa using he)
          split at this
          · rename_i n t hk
            exact ⟨n, t, hk⟩
          · cases this
        · show (es.find? fun e => e.key.isStr "__eq__").map (·.val) = none
          rw [← Array.find?_toList]
          rw [Option.isNone_iff_eq_none] at n2
          rw [n2]
          rfl
        · show (es.find? fun e => e.key.isStr "__ne__").map (·.val) = none
          rw [← Array.find?_toList]
          rw [Option.isNone_iff_eq_none] at n3
          rw [n3]
          rfl
      · cases b5
    · cases b4
  · cases B
/-- a == b, two own instances without an __eq__ of their own -/
def rEqI (C : Addr) : R2 := fun x y H Q => ∃ (a b da db : Addr) (fa fb : List (Str × V)), x = .ref a ∧ y = .ref b ∧ a ≠ b ∧ H a = some (.ins C da fa) ∧ H b = some (.ins C db fb) ∧ Q (.bl false) H
theorem op_eqI {X : Cx} {C : Addr} {k : Nat} (hr : Rm k X.A) (B : cmpB X.K C = true) : OpR X (compareOp .Eq) (rEqI C) := by
  intro pins s σ H x y v u Q I rx ry h
  obtain ⟨a, b, da, db, fa, fb, rfl, rfl, ne, ea, eb, q⟩ := h
  cases rx
  cases ry
  have oa : ObjOk X.prog X.w H s.heap a (.ins C da fa) := I.hok a _ ea
  have ob : ObjOk X.prog X.w H s.heap b (.ins C db fb) := I.hok b _ eb
  obtain ⟨_, _, _, ga, _⟩ := oa
  obtain ⟨_, _, _, gb, _⟩ := ob
  have hu := hr.rm.units
  obtain ⟨hp, g, d, t, os⟩ := s
  exact compareOp_eq_other F.cmp_object F.cmp_object (cmp_ok B I.kIn ga) (cmp_ok B I.kIn gb) ne (by omega) ⟨.bl false, H, I, rfl, q⟩
/-- l.index(b), l = [a, b] -/
def rIdx2 (C : Addr) : V → List V → Hp → VK → Prop := fun x xs H Q => ∃ (l a b da db : Addr) (fa fb : List (Str × V)), x = .ref l ∧ xs = [.ref b] ∧ H l = some (.lst [.ref a, .ref b]) ∧ a ≠ b ∧ H a = some (.ins C da fa) ∧ H b = some (.ins C db fb) ∧ Q (.int 1) H
theorem mt_idx2 {X : Cx} {C : Addr} {k : Nat} (hr : Rm k X.A) (B : cmpB X.K C = true) : MtR X "list.index" (rIdx2 C) := by
  intro pins s σ H x xs v us Q I rx rxs h
  obtain ⟨l, a, b, da, db, fa, fb, rfl, rfl, hl, ne, ea, eb, q⟩ := h
  cases rx
  obtain ⟨u, rfl, ru⟩ := rxs.one
  cases ru
  have oa : ObjOk X.prog X.w H s.heap a (.ins C da fa) := I.hok a _ ea
  have ob : ObjOk X.prog X.w H s.heap b (.ins C db fb) := I.hok b _ eb
  obtain ⟨_, _, _, ga, _⟩ := oa
  obtain ⟨_, _, _, gb, _⟩ := ob
  have hu := hr.rm.units
  obtain ⟨z, its, n, r, _, ho⟩ := I.lstM hl
  obtain ⟨u1, r', rfl, r1, r2⟩ : ∃ u1 r', its = u1 :: r' ∧ RelV (.ref a) u1 ∧ Vals [.ref b] r' := by
    cases r with
    | cons r1 r2 => exact ⟨_, _, rfl, r1, r2⟩
  obtain ⟨u2, rfl, r3⟩ := r2.one
  cases r1
  cases r3
  refine call_meets PySem.F.slot_list_index ⟨_, ho, rfl⟩ PySem.F.entry_list_index (PySem.F.args_list_index_2 _ _)
    (SeqAt.list_indexAt l #[Value.ref a, Value.ref b] n none #[] (.ref b) (fun y => y == .ref b) 1 (by show 1 < 2; omega) (by omega) ?_ ?_) ⟨ho, fun y hy => ?_, ?_⟩
  · exact beq_self_eq_true _
  · intro m hm hm1
    obtain rfl : m = 0 := by omega
    show (Value.ref a == Value.ref b) = false
    exact beq_eq_false_iff_ne.mpr fun z => ne (Value.ref.inj z)
  · have : y = .ref a ∨ y = .ref b := by simpa using hy
    rcases this with rfl | rfl
    · have e : (Value.ref a == Value.ref b) = false := beq_eq_false_iff_ne.mpr fun z => ne (Value.ref.inj z)
      rw [e]
      refine SeqAt.EqAt.of_refs ne fun prog w E Q hq => ?_
      obtain ⟨hp, g, d, t, os⟩ := s
      exact richCompare_eq_other F.cmp_object F.cmp_object (cmp_ok B I.kIn ga) (cmp_ok B I.kIn gb) ne (by show X.A.units + 1 < cLine; omega) hq
    · rw [beq_self_eq_true]
      exact SeqAt.EqAt.same _
  · exact ⟨.int 1, H, I.tok _, ⟨_, rfl⟩, q⟩
end VB
/-! an own error class called: C(e), C(g = e); as a value, and for a raise -/
namespace PySem
namespace HandSPX
open Builtin Builtin.ObjectAttr
section
variable {P : Program} {w : World} {M : Model} {A : Around} {E : Value → Shared → Prop} {R : Result → Shared → Prop} {h : Heap} {g : Array GenState} {d : Drawn} {t : Nat} {os : OsState}
variable {nm q : Str} {C N : Addr} {bs bm bB : List Value} {hd : Bool} {sn : List Str} {sub : List Value} {ab : Bool} {col : Option Bool} {dd : Option Addr} {k0 k1 k2 k3 k5 : Option Value} {B nI iI : String} {us : List Value} {kw : List (Str × Value)}
theorem kwNewChk (F : ExcBaseFacts B nI iI bB) (tail : ∀ X : String, bm.contains (.type X) = bB.contains (.type X)) {Q : Unit → Shared → Prop}
    (cC : h.get? C = some (excClassObj nm q C N bs bm hd sn sub ab col dd k0 k1 k2 k3 k5 nI)) (z : Q () ⟨h, g, d, t, os⟩) :
    wpAny M A (checkBuiltinCall nI ⟨.ref C :: us, kw⟩) Q E ⟨h, g, d, t, os⟩ := by
  have isB : (Value.ref C :: bm).contains (.type B) = true := by
    rw [List.contains_cons, tail, F.hasB]
    simp
  have star := F.noStar
  simp only [checkBuiltinCall, F.newKind, F.newSplit, F.newRow]
  repeat first
    | refine wpAny_loadPart_at cC ?_
    | (refine wpAny_isSubtype_exc cC ?_; rw [isB])
    | refine wpAny_staticBase_exc cC ?_
    | refine wpAny_madeBy_exc cC ?_
    | simp only [bne_self_eq_false, Bool.false_eq_true, if_false]
    | wp_step
  exact z
theorem kwNew (F : ExcBaseFacts B nI iI bB) (tail : ∀ X : String, bm.contains (.type X) = bB.contains (.type X))
    (cC : h.get? C = some (excClassObj nm q C N bs bm hd sn sub ab col dd k0 k1 k2 k3 k5 nI)) (len : us.length ≤ sizeLine)
    (z : R (.ok (.ret (.ref (h.objs.size + 1)))) ⟨(h.push (W.kdv_tup us)).push (excO C h.objs.size), g, d, t, os⟩) :
    codeAny (model P w) A (.builtin nI ⟨.ref C :: us, kw⟩) R ⟨h, g, d, t, os⟩ := by
  have ends := F.ends
  have isB : (Value.ref C :: bm).contains (.type B) = true := by
    rw [List.contains_cons, tail, F.hasB]
    simp
  have noA : (Value.ref C :: bm).contains (.type "AttributeError") = false := by
    rw [List.contains_cons, tail, F.noAttr]
    rfl
  have noN : (Value.ref C :: bm).contains (.type "NameError") = false := by
    rw [List.contains_cons, tail, F.noName]
    rfl
  apply codeAny_builtinAt F.entry
  unfold Builtin.«BaseException.__new__»
  apply wpAt_bind
  show wpAt _ _ _ (stack >>= _) _ _ _
  apply wpAt_bind
  refine wpAt_stack fun p below => ?_
  apply wpAt_of_wpAny
  wp_walk
  apply wpAt_of_wpAny
  rw [F.owner]
  repeat first
    | with_reducible refine wpAny_madeHere_exc F.canon cC ?_
    | with_reducible refine wpAny_loadPart_at cC ?_
    | (with_reducible refine wpAny_isSubtype_exc cC ?_; first | rw [isB] | rw [noA] | rw [noN])
    | wp_step
  show R _ _
  rw [Heap.size_push]
  exact z
theorem kwTypeCall (F : ExcBaseFacts B nI iI bB) (tail : ∀ X : String, bm.contains (.type X) = bB.contains (.type X)) {f : Addr} {Q : Fin → Shared → Prop}
    (cC : h.get? C = some (excClassObj nm q C N bs bm hd sn sub ab col dd k0 k1 k2 k3 k5 nI)) (li : W.Looks (model P w) h (typeLookup (.ref C) "__init__") (some (.ref f)))
    (lb : ∀ v, W.Looks (model P w) h (bindSpecial (.ref f) v) (.ref f, [v])) (len : us.length ≤ sizeLine)
    (z : codeAny (model P w) A (.call (.ref f) ⟨.ref (h.objs.size + 1) :: us, kw⟩)
      (fun r s => match r with | .ok (.ret v) => v = .none ∧ Q (.done (.ret (.ref (h.objs.size + 1)))) s | .ok _ => False | .error e => E e s)
      ⟨(h.push (W.kdv_tup us)).push (excO C h.objs.size), g, d, t, os⟩) :
    wpAny (model P w) A (Builtin.«type.__call__» ⟨.ref C :: us, kw⟩) Q E ⟨h, g, d, t, os⟩ := by
  repeat first
    | with_reducible refine wpAny_loadPart_at cC ?_
    | with_reducible refine wpAny_madeBy_exc cC ?_
    | wp_step
  apply codeAny_call_builtin_code (Code.quiet_builtin _ F.quiet)
  apply kwNewChk F tail cC
  apply kwNew F tail cC len
  show wpAny _ _ _ _ _ _
  have up : ∀ b o, h.get? b = some o → ((h.push (W.kdv_tup us)).push (excO C h.objs.size)).get? b = some o := fun _ _ e =>
    Heap.get?_push_of_some _ (Heap.get?_push_of_some _ e)
  have cC' := up _ _ cC
  have ce : ((h.push (W.kdv_tup us)).push (excO C h.objs.size)).get? (h.objs.size + 1) = some (excO C h.objs.size) := by heap_get
  have self : (Value.ref C :: bm).contains (.ref C) = true := by simp
  have li' := li.keeps up
  have lb' := (lb (.ref (h.objs.size + 1))).keeps up
  unfold isInstance
  repeat first
    | with_reducible refine wpAny_loadPart_at ce ?_
    | (with_reducible refine wpAny_isSubtype_exc cC' ?_; rw [self])
    | wp_step
  show wpAny _ _ (typeLookup (.ref C) _) _ _ _
  apply li'.at
  apply wpAny_holding
  apply wpAny_bind
  apply lb'.at
  apply wpAny_bind
  apply wpAny_call
  refine codeAny_mono z fun r s y => ?_
  cases r with
  | error e => exact y
  | ok fl =>
    cases fl with
    | ret v =>
      obtain ⟨rfl, y⟩ := y
      first
        | exact wpAny_pure (wpAny_pure y)
        | (wp_walk; exact y)
    | next => exact y.elim
    | brk => exact y.elim
    | cont => exact y.elim
theorem kwTcChk {Q : Unit → Shared → Prop} (cC : h.get? C = some (excClassObj nm q C N bs bm hd sn sub ab col dd k0 k1 k2 k3 k5 nI)) (z : Q () ⟨h, g, d, t, os⟩) :
    wpAny M A (checkBuiltinCall "type.__call__" ⟨.ref C :: us, kw⟩) Q E ⟨h, g, d, t, os⟩ := by
  have sb := tc_sub
  have ty : (⟨h, g, d, t, os⟩ : Shared).TypeIs (.ref C) "type" := ⟨_, cC, rfl⟩
  simp only [checkBuiltinCall, tc_kind, tc_split]
  repeat any_goals first
    | assumption
    | with_reducible refine wpAny_loadPart_at cC ?_
    | with_reducible refine wpAny_onRaise ?_
    | with_reducible refine wpAny_map ?_
    | wp_step
theorem kwCall (F : ExcBaseFacts B nI iI bB) (tail : ∀ X : String, bm.contains (.type X) = bB.contains (.type X)) {f : Addr}
    (cC : h.get? C = some (excClassObj nm q C N bs bm hd sn sub ab col dd k0 k1 k2 k3 k5 nI)) (li : W.Looks (model P w) h (typeLookup (.ref C) "__init__") (some (.ref f)))
    (lb : ∀ v, W.Looks (model P w) h (bindSpecial (.ref f) v) (.ref f, [v])) (len : us.length ≤ sizeLine)
    (z : codeAny (model P w) (A.under (.builtin "type.__call__" ⟨.ref C :: us, kw⟩)) (.call (.ref f) ⟨.ref (h.objs.size + 1) :: us, kw⟩) (W.InitBack (h.objs.size + 1) R) ⟨(h.push (W.kdv_tup us)).push (excO C h.objs.size), g, d, t, os⟩) :
    codeAny (model P w) A (.call (.ref C) ⟨us, kw⟩) R ⟨h, g, d, t, os⟩ := by
  have lk := tc_lookup
  have bd := tc_bind (.ref C)
  have ty : (⟨h, g, d, t, os⟩ : Shared).TypeIs (.ref C) "type" := ⟨_, cC, rfl⟩
  apply codeAny_of_tree
  show wpAny _ _ (callAny (.ref C) _) _ _ _
  repeat any_goals first
    | assumption
    | with_reducible refine wpAny_loadPart_at cC ?_
    | wp_step
  refine ⟨rfl, codeAny_call_builtin_at (Code.quiet_builtin _ (by decide +kernel)) entry_typeCall ?_⟩
  apply kwTcChk cC
  apply kwTypeCall F tail cC li lb len
  refine codeAny_mono z fun r s y => ?_
  cases r with
  | error e => exact y
  | ok fl => cases fl <;> exact y
end
end HandSPX
end PySem
namespace VB
open PySem PySem.Spec PyProof.Rows L2
/-- what stands when an error with the value y was made at a: all of it tracked; or the heap without it, for a raise -/
structure NewE (X : Cx) (pins : List (Addr × Obj)) (σ : L2.St) (H1 : Hp) (C : Addr) (g : Str) (y : V) (a : Addr) (s : Shared) : Prop where
  free : H1 a = none
  ex : ∃ (d : Addr) (H2 : Hp), H1 d = none ∧ d ≠ a ∧ H2 = upd (upd (upd H1 a (exo a C none)) d (exd d [(g, y)])) a (exo a C (some d)) ∧ Inv X pins σ H2 s ∧
    ∃ (t0 : Addr) (G : Heap), Inv X pins σ (upd H1 d (.xd [(g, y)])) { s with heap := G } ∧ (∀ b o, G.get? b = some o → s.heap.get? b = some o) ∧ G.get? a = none ∧
      s.heap.get? a = some ({ cls := .ref C, dict := some d, data := .fields #[.ref t0, .none, .none, .none, .bool false, .none] } : Obj) ∧ (upd H1 d (.xd [(g, y)]) : Hp) a = none
section
variable {X : Cx} {pins : List (Addr × Obj)} {σ : L2.St} {H1 : Hp} {s1 : Shared} {x g : Str} {C fI : Addr} {fd : FuncData} {us : List Value} {kw : List (Str × Value)} {y : V} {u : Value}
theorem run_new (M : ErrC X.K X.mg x g C fI) (F1 : FnOk X.prog X.w X.K X.mg X.base CX0 1 fI fd ["self", g] (spInit X.K g)) (hr : Room 2 X.A) (I1 : Inv X pins σ H1 s1) (lu : us.length ≤ 1000) (ru : RelV y u)
    (hb : ∀ (s : Shared) (a : Addr), X.K.In s.heap → BindsTo s fd ⟨.ref a :: us, kw⟩ ((["self", g] : List Str).zip [.ref a, u])) {R : Value → Shared → Prop} (k : ∀ (a : Addr) (s : Shared), NewE X pins σ H1 C g y a s → R (.ref a) s) :
    codeAny (model X.prog X.w) X.A (.call (.ref C) ⟨us, kw⟩) (fun r s => match r with | .ok (.ret v) => R v s | .ok _ => False | .error e => X.xe e s) s1 := by
  obtain ⟨nm, q, N, bs, bm, sn, sub, ab, col, dd, k0, k1, k2, k3, k5, cC, tail⟩ := M.oex.cls
  obtain ⟨h, gs, dr, tk, os⟩ := s1
  have kIn := I1.kIn
  have up : ∀ b o, h.get? b = some o → ((h.push (PySem.W.kdv_tup us)).push (PySem.HandSPX.excO C h.objs.size)).get? b = some o := fun _ _ e => Heap.get?_push_of_some _ (Heap.get?_push_of_some _ e)
  have le : h.objs.size ≤ h.objs.size + 1 := Nat.le_succ _
  have na : H1 (h.objs.size + 1) = none := I1.hok.fresh le
  have I2 := I1.laid (t' := tk) (o := exo (h.objs.size + 1) C none) up le (exo_ok (by heap_get))
  have sp : spInit X.K g [.ref (h.objs.size + 1), y] (upd H1 (h.objs.size + 1) (exo (h.objs.size + 1) C none))
      (fun v H2 => v = .non ∧ ∃ d, H1 d = none ∧ d ≠ h.objs.size + 1 ∧ H2 = upd (upd (upd H1 (h.objs.size + 1) (exo (h.objs.size + 1) C none)) d (exd d [(g, y)])) (h.objs.size + 1) (exo (h.objs.size + 1) C (some d))) (fun _ _ _ => False) :=
    ⟨_, C, y, rfl, M.oex, M.noG, upd_same, fun d nd ne => ⟨rfl, d, by rw [upd_ne ne] at nd; exact nd, ne, rfl⟩⟩
  have vals : Vals [V.ref (h.objs.size + 1), y] [Value.ref (h.objs.size + 1), u] := .cons rfl (.cons ru .nil)
  refine PySem.HandSPX.kwCall F.excBase_ValueError (fun Y => PySem.HandSPX.refsVE_contains Y bm tail) (kIn _ _ cC) (PySem.W.looks_findIn kIn M.iC) (fun v => PySem.W.bind_fn kIn v M.tI) (Nat.le_trans lu (by decide)) ?_
  refine codeAny_mono (F1.run _ X.stack _ _ ⟨.ref (h.objs.size + 1) :: us, kw⟩ _ _ _ _ (hr.make C us kw) (I2.env0.make C us kw) (hb _ _ I2.kIn) vals sp) fun r s' z => ?_
  cases r with
  | error e => exact (show PassesAt CX0 X σ (fun _ _ _ => False) from fun _ _ _ _ _ _ c => c.elim) pins _ _ e s' I2 z
  | ok fl =>
    cases fl with
    | ret v =>
      obtain ⟨v', H2, os2, bare, un, hok, rv, rfl, d, nd, ne, eH⟩ := z
      obtain ⟨h2, g2, d2, t2, os'⟩ := s'
      obtain rfl : os' = os := os2
      have ea : H2 (h.objs.size + 1) = some (exo (h.objs.size + 1) C (some d)) := by rw [eH, upd_same]
      have ed : H2 d = some (exd d [(g, y)]) := by rw [eH, upd_ne ne, upd_same]
      have I3 := I2.call (h' := h2) (g' := g2) (d' := d2) (t' := t2) (ch := []) un hok bare (fun b z => absurd z (by simp))
      obtain ⟨t0, G, J, kG, ge, hoe, nz⟩ := mk_end0 (d2 := d2) (t2 := t2) I1 le up un hok rfl bare ea ed nd
      have eq : upd (del H2 (h.objs.size + 1)) d (.xd [(g, y)]) = upd H1 d (.xd [(g, y)]) := by
        funext b
        by_cases hb : b = d
        · rw [hb, upd_same, upd_same]
        · rw [upd_ne hb, upd_ne hb]
          by_cases ha : b = h.objs.size + 1
          · rw [ha, del_same, na]
          · rw [del_ne ha, eH, upd_ne ha, upd_ne hb, upd_ne ha]
      rw [eq] at J nz
      exact ⟨rv, k _ _ ⟨na, d, _, nd, ne, eH, I3, t0, G, J, kG, ge, hoe, nz⟩⟩
    | next => exact z.elim
    | brk => exact z.elim
    | cont => exact z.elim
end
/-- C(e), C(g = e) as a value: the error and its dict stand -/
def tMkW (C : Addr) (g : Str) (ta : TA) : TE := fun σ H Q => ta σ H fun vs H1 => ∃ y, vs = [y] ∧ ∀ a d, H1 a = none → H1 d = none → d ≠ a → Q (.ref a) (upd (upd (upd H1 a (exo a C none)) d (exd d [(g, y)])) a (exo a C (some d)))
/-- the same for a raise: its dict stands -/
def tMkR (C : Addr) (g : Str) (ta : TA) : L2.St → Hp → XK → Prop := fun σ H Q => ta σ H fun vs H1 => ∃ y, vs = [y] ∧ ∀ d, H1 d = none → Q (.ref C) (some d) (upd H1 d (.xd [(g, y)]))
abbrev gK1 : List Value → List Value → List Value := fun us ws => [us.getD 0 .none, ws.getD 0 .none]
abbrev gK1V : List V → List V → List V := fun us ws => [us.getD 0 .non, ws.getD 0 .non]
/-- the class, made with the keyword g -/
structure MkEK (P : Program) (w : World) (K : PySem.W.Frag) (mg : Str → Option Value) (base : Heap) (x g : Str) (C fI : Addr) : Prop where
  err : ErrC K mg x g C fI
  ini : ∃ fd, FnOk P w K mg base CX0 1 fI fd ["self", g] (spInit K g) ∧ KBn K fd ["self", g] 1 [g] gK1 gK1V
section
variable {X : Cx} {x g : Str} {C fI : Addr} {p pos : Pos} {e : Expr} {ta tk : TA} {kws : List Keyword} {k : Nat}
/-- C(e), whatever is made of it -/
theorem call_new (M : MkE X.prog X.w X.K X.mg X.base x g C fI) (hr : Room 2 X.A) (ha : PA X [e] ta) (hg : Gl X x) (hdb : (x == ("__debug__" : Str)) = false)
    (he : starEach [e] X.env = (false, eval e X.env) :: starEach [] X.env) (hpl : (backTo pos (starEach [] X.env)).any (·.1) = false) {pins : List (Addr × Obj)} {s : Shared} {σ : L2.St} {H : Hp} (I : Inv X pins σ H s) {Z : V → Hp → Prop} {Y : Value → Shared → Prop}
    (h : ta σ H fun vs H1 => ∃ y, vs = [y] ∧ Z y H1) (fin : ∀ (y : V) (H1 : Hp) (a : Addr) (s' : Shared), Z y H1 → NewE X pins σ H1 C g y a s' → Y (.ref a) s') :
    wpAny (model X.prog X.w) X.A (eval (.Call (.Name x p) [e] [] pos) X.env) Y X.xe s := by
  obtain ⟨fd, F1, hb⟩ := M.ini
  refine wpAny_Call_Name_kw (ld_glob I hg M.err.gC ?_ hdb)
  refine PySem.W.callWith_K (h₀ := X.base) I.ok.mod.kin M.err.oex.kC (thn (ha.run pos pins s σ H _ I h) fun us s1 ⟨vs, H1, I1, r1, y, ev, z⟩ => ⟨I1.kIn, ?_⟩) he hpl
  subst ev
  obtain ⟨u, rfl, ru⟩ := vals1 r1
  refine wpAny_call (codeAny_mono (run_new M.err F1 hr I1 (by simp) ru (fun s a ki => ?_) fun a s' N => fin y H1 a s' z N) fun r s' q => ?_)
  · have b := hb s [.ref a, u] ki rfl
    exact b
  · cases r with
    | error e => exact q
    | ok fl => cases fl <;> exact q
theorem call_newK (M : MkEK X.prog X.w X.K X.mg X.base x g C fI) (hr : Room 2 X.A) (hkw : PK X kws tk) (hg : Gl X x) (hdb : (x == ("__debug__" : Str)) = false) (hall : (backToKw pos (keywordEach kws X.env)).all (·.1.isSome) = true) (hks : (backToKw pos (keywordEach kws X.env)).filterMap (·.1) = [g])
    (hpl : ((backTo pos (starEach [] X.env)).any (·.1) || (backToKw pos (keywordEach kws X.env)).any (·.1.isNone)) = false) {pins : List (Addr × Obj)} {s : Shared} {σ : L2.St} {H : Hp} (I : Inv X pins σ H s) {Z : V → Hp → Prop} {Y : Value → Shared → Prop}
    (h : tk σ H fun vs H1 => ∃ y, vs = [y] ∧ Z y H1) (fin : ∀ (y : V) (H1 : Hp) (a : Addr) (s' : Shared), Z y H1 → NewE X pins σ H1 C g y a s' → Y (.ref a) s') :
    wpAny (model X.prog X.w) X.A (eval (.Call (.Name x p) [] kws pos) X.env) Y X.xe s := by
  obtain ⟨fd, F1, hb⟩ := M.ini
  refine wpAny_Call_Name_kw (ld_glob I hg M.err.gC ?_ hdb)
  refine PySem.W.callWith_KW0 (h₀ := X.base) I.ok.mod.kin M.err.oex.kC hall (thn (hkw.run pos pins s σ H _ I h) fun us s1 ⟨vs, H1, I1, r1, y, ev, z⟩ => ⟨I1.kIn, ?_⟩) hpl
  subst ev
  obtain ⟨u, rfl, ru⟩ := vals1 r1
  rw [hks]
  refine wpAny_call (codeAny_mono (run_new M.err F1 hr I1 (by simp) ru (fun s a ki => ?_) fun a s' N => fin y H1 a s' z N) fun r s' q => ?_)
  · exact hb.to s [.ref a] [u] ki rfl rfl
  · cases r with
    | error e => exact q
    | ok fl => cases fl <;> exact q
theorem pe_mkv (M : MkE X.prog X.w X.K X.mg X.base x g C fI) (hr : Rm k X.A) (ha : PA X [e] ta) (hk : 2 ≤ k := by omega) (hg : Gl X x := by rfl) (hdb : (x == ("__debug__" : Str)) = false := by decide)
    (he : starEach [e] X.env = (false, eval e X.env) :: starEach [] X.env := by rfl) (hpl : (backTo pos (starEach [] X.env)).any (·.1) = false := by rfl) : PE X (.Call (.Name x p) [e] [] pos) (tMkW C g ta) :=
  ⟨fun pins s σ H Q I h => call_new M (hr.rm.mono hk) ha hg hdb he hpl I h fun y H1 a s' z N => by
    obtain ⟨na, d, H2, nd, ne, rfl, I2, _⟩ := N
    exact ⟨.ref a, _, I2, rfl, z a d na nd ne⟩⟩
theorem pe_mkvK (M : MkEK X.prog X.w X.K X.mg X.base x g C fI) (hr : Rm k X.A) (hkw : PK X kws tk) (hk : 2 ≤ k := by omega) (hg : Gl X x := by rfl) (hdb : (x == ("__debug__" : Str)) = false := by decide)
    (hall : (backToKw pos (keywordEach kws X.env)).all (·.1.isSome) = true := by rfl) (hks : (backToKw pos (keywordEach kws X.env)).filterMap (·.1) = [g] := by rfl)
    (hpl : ((backTo pos (starEach [] X.env)).any (·.1) || (backToKw pos (keywordEach kws X.env)).any (·.1.isNone)) = false := by rfl) : PE X (.Call (.Name x p) [] kws pos) (tMkW C g tk) :=
  ⟨fun pins s σ H Q I h => call_newK M (hr.rm.mono hk) hkw hg hdb hall hks hpl I h fun y H1 a s' z N => by
    obtain ⟨na, d, H2, nd, ne, rfl, I2, _⟩ := N
    exact ⟨.ref a, _, I2, rfl, z a d na nd ne⟩⟩
theorem NewE.mkN {pins : List (Addr × Obj)} {σ : L2.St} {H1 : Hp} {y : V} {a : Addr} {s' : Shared} {Q : XK} (M : ErrC X.K X.mg x g C fI) (N : NewE X pins σ H1 C g y a s') (z : ∀ d, H1 d = none → Q (.ref C) (some d) (upd H1 d (.xd [(g, y)]))) : L2N.MkP X pins σ Q (.ref a) s' := by
  obtain ⟨na, d, H2, nd, ne, rfl, I2, t0, G, J, kG, ge, hoe, nz⟩ := N
  exact ⟨a, _, _, _, _, .ref C, some d, rfl, J, kG, ge, hoe, ⟨rfl, rfl, fun vs e => by cases e; rfl⟩, rfl, rfl, nz, rfl, I2.bare, raises_own M.oex.exC M.oex.tyC, z d nd⟩
/-- raise C(e), raise C(g = e), where the context is kept as None -/
theorem pmkN_err (M : MkE X.prog X.w X.K X.mg X.base x g C fI) (hr : Rm k X.A) (ha : PA X [e] ta) (hk : 2 ≤ k := by omega) (hg : Gl X x := by rfl) (hdb : (x == ("__debug__" : Str)) = false := by decide)
    (he : starEach [e] X.env = (false, eval e X.env) :: starEach [] X.env := by rfl) (hpl : (backTo pos (starEach [] X.env)).any (·.1) = false := by rfl) : L2N.PMk X (.Call (.Name x p) [e] [] pos) (tMkR C g ta) :=
  fun pins s σ H Q I h => call_new M (hr.rm.mono hk) ha hg hdb he hpl I h fun y H1 a s' z N => N.mkN M.err z
theorem pmkN_errK (M : MkEK X.prog X.w X.K X.mg X.base x g C fI) (hr : Rm k X.A) (hkw : PK X kws tk) (hk : 2 ≤ k := by omega) (hg : Gl X x := by rfl) (hdb : (x == ("__debug__" : Str)) = false := by decide)
    (hall : (backToKw pos (keywordEach kws X.env)).all (·.1.isSome) = true := by rfl) (hks : (backToKw pos (keywordEach kws X.env)).filterMap (·.1) = [g] := by rfl)
    (hpl : ((backTo pos (starEach [] X.env)).any (·.1) || (backToKw pos (keywordEach kws X.env)).any (·.1.isNone)) = false := by rfl) : L2N.PMk X (.Call (.Name x p) [] kws pos) (tMkR C g tk) :=
  fun pins s σ H Q I h => call_newK M (hr.rm.mono hk) hkw hg hdb hall hks hpl I h fun y H1 a s' z N => N.mkN M.err z
end
end VB
/-! errors as values: bare ones, their fields, isinstance, raised with keywords -/
namespace VB
open PySem PySem.Spec PyProof.Rows L2
/-- a bare error class (no __init__ of its own) -/
structure BareC (K : PySem.W.Frag) (mg : Str → Option Value) (x : Str) (C : Addr) : Prop where
  q : PySem.W.excIn K C PySem.HandSPX.veTail "ValueError.__new__" = true
  gC : mg x = some (.ref C)
  kC : PySem.W.keepIn K (.ref C) = true
  exC : PySem.W.subIn K (.ref C) (.type "BaseException") = some true
  tyC : PySem.W.typeIn K (.ref C) = some (.type "type")
section
variable {X : Cx} {x g : Str} {C fI : Addr} {p pos : Pos} {e : Expr} {ta : TA}
theorem pe_exc0 (M : BareC X.K X.mg x C) (hg : Gl X x := by rfl) (hdb : (x == ("__debug__" : Str)) = false := by decide) :
    PE X (.Call (.Name x p) [] [] pos) (fun σ H Q => ∀ a, H a = none → Q (.ref a) (upd H a (ExO (.ref C) a))) := by
  refine ⟨fun pins s σ H Q I h => ?_⟩
  refine wpAny_Call_Name_kw (ld_glob I hg M.gC ?_ hdb)
  refine PySem.W.callWith_K0 I.kIn M.kC ?_
  obtain ⟨bm, N, nm, qn, bs, hdct, sn, sub, ab, col, dd, k0, k1, k2, k3, k5, mN, hC, hN, hni, T⟩ := exc_obj I.kIn M.q
  refine wpAny_call_exc_subT F.excBase_ValueError T hC hN hni (fun h' a hm => ?_) (Nat.zero_le _)
  have hn : H a = none := I.hok.gone hm.new
  obtain ⟨t, ht, _, _⟩ := hm.there
  exact ⟨.ref a, upd H a (ExO (.ref C) a), I.laidN hm.keeps hm.new hn (exO_ok ht ⟨rfl, rfl⟩ rfl rfl rfl (show 4 < 6 by decide)), rfl, h a hn⟩
/-- raise C() of a bare class, where the context is kept as None -/
theorem pmkN_exc0 (M : BareC X.K X.mg x C) (hg : Gl X x := by rfl) (hdb : (x == ("__debug__" : Str)) = false := by decide) :
    L2N.PMk X (.Call (.Name x p) [] [] pos) (fun _ H Q => Q (.ref C) none H) := by
  intro pins s σ H Q I h
  refine wpAny_Call_Name_kw (ld_glob I hg M.gC ?_ hdb)
  refine PySem.W.callWith_K0 I.kIn M.kC ?_
  obtain ⟨bm, N, nm, qn, bs, hdct, sn, sub, ab, col, dd, k0, k1, k2, k3, k5, mN, hC, hN, hni, T⟩ := exc_obj I.kIn M.q
  exact wpAny_call_exc_subT F.excBase_ValueError T hC hN hni (fun h' e hm => L2N.mk_of I hm (raises_own M.exC M.tyC) h (I.hok.gone hm.new)) (Nat.zero_le _)
/-! ### fields and isinstance of an error that is tracked, or pinned by the context -/
/-- a caught error that is kept: all but its class, its dict is left open -/
def erO (a C : Addr) (d : Option Addr) : HO := .ext fun h => ∃ (oe : Obj) (vs : Array Value), h.get? a = some oe ∧ Zc (.ref C) d oe ∧ oe.data = .fields vs
/-- an error of the class at C stands at a, its dict (none | at d) -/
def ErrAt (H : Hp) (a C : Addr) (d : Option Addr) : Prop := H a = some (exo a C d) ∨ H a = some (erO a C d) ∨ (d = none ∧ H a = some (ExO (.ref C) a))
def FldAt (H : Hp) (d : Addr) (fs : List (Str × V)) : Prop := H d = some (exd d fs) ∨ H d = some (.xd fs)
theorem ErrAt.ex {H H' : Hp} {a C : Addr} {d : Option Addr} (h : ErrAt H a C d) (e : Evl.Ex H H') : ErrAt H' a C d := by
  rcases h with h | h | ⟨h1, h⟩
  · exact .inl (e _ _ h)
  · exact .inr (.inl (e _ _ h))
  · exact .inr (.inr ⟨h1, e _ _ h⟩)
theorem FldAt.ex {H H' : Hp} {d : Addr} {fs : List (Str × V)} (h : FldAt H d fs) (e : Evl.Ex H H') : FldAt H' d fs := h.imp (e _ _) (e _ _)
theorem ErrAt.get {P : Program} {w : World} {H : Hp} {h : Heap} {a C : Addr} {d : Option Addr} (e : ErrAt H a C d) (hok : HOk P w H h) : ∃ (oe : Obj) (vs : Array Value), h.get? a = some oe ∧ Zc (.ref C) d oe ∧ oe.data = .fields vs := by
  rcases e with e | e | ⟨rfl, e⟩
  · obtain ⟨t1, z⟩ := exo_at hok e
    exact ⟨_, _, z, ⟨rfl, rfl⟩, rfl⟩
  · obtain ⟨z, _⟩ := hok a _ e
    exact z
  · obtain ⟨⟨oe, vs, z, zc, zd, _⟩, _⟩ := hok a _ e
    exact ⟨oe, vs, z, zc, zd⟩
theorem FldAt.get {P : Program} {w : World} {H : Hp} {h : Heap} {d : Addr} {fs : List (Str × V)} (e : FldAt H d fs) (hok : HOk P w H h) : ∃ mA, h.Ns1 d mA ∧ ∀ f, RelO (fs.lookup f) (mA f) := by
  rcases e with e | e
  · exact exd_at hok e
  · exact hok d _ e
/-- an error of the class at C: tracked, or one of the context's pins -/
def ErrP (pn : List (Addr × Obj)) (H : Hp) (a C : Addr) (d : Option Addr) : Prop := ErrAt H a C d ∨ ∃ (oe : Obj) (vs : Array Value), (a, oe) ∈ pn ∧ Zc (.ref C) d oe ∧ oe.data = .fields vs
theorem ErrP.ex {pn : List (Addr × Obj)} {H H' : Hp} {a C : Addr} {d : Option Addr} (h : ErrP pn H a C d) (e : Evl.Ex H H') : ErrP pn H' a C d := h.imp (fun z => z.ex e) fun z => z
theorem ErrP.get {X : Cx} {pins : List (Addr × Obj)} {σ : L2.St} {H : Hp} {s : Shared} {a C : Addr} {d : Option Addr} (e : ErrP X.pn H a C d) (I : Inv X pins σ H s) : ∃ (oe : Obj) (vs : Array Value), s.heap.get? a = some oe ∧ Zc (.ref C) d oe ∧ oe.data = .fields vs := by
  rcases e with e | ⟨oe, vs, hp, z, hd⟩
  · exact e.get I.hok
  · exact ⟨oe, vs, (I.pin (a, oe) (List.mem_append_left _ hp)).1, z, hd⟩
/-- e.f, e a tracked error -/
def tEf (K : PySem.W.Frag) (pn : List (Addr × Obj)) (f : Str) (te : TE) : TE := fun σ H Q => te σ H fun x H1 => ∃ (a C d : Addr) (fs : List (Str × V)) (v : V), x = .ref a ∧ XfC K C ∧ PySem.W.findIn K (.ref C) f = some none ∧ ErrP pn H1 a C (some d) ∧ FldAt H1 d fs ∧ fs.lookup f = some v ∧ Q v H1
theorem pe_ef {te : TE} {n : Str} (he : PE X e te) (hb : attributeBase e n X.env (eval e X.env) = eval e X.env := by rfl) : PE X (.Attribute e n pos) (tEf X.K X.pn n te) := by
  refine ⟨fun pins s σ H Q I h => ?_⟩
  refine attr_of hb (thn (he.run pins s σ H _ I h) fun u s1 hh => ?_)
  obtain ⟨x, H1, I1, rx, a, C, d, fs, v, ex, T, hno, ea, ed, l, q⟩ := hh
  subst ex
  obtain rfl : u = Value.ref a := rx
  obtain ⟨oe, vs, ha, hz, hd⟩ := ea.get I1
  obtain ⟨mA, hns, hr⟩ := ed.get I1.hok
  obtain ⟨od, ho, hl⟩ := lookIn_ns hns
  obtain ⟨u, hu, ru⟩ := RelO.some_of (v := v) (o := mA n) (by rw [← l]; exact hr n)
  have J : PySem.W.InstAt s1.heap a oe C (some od) := ⟨ha, hz.1, by unfold PySem.W.notCls; rw [hd] <;> rfl, by rw [hz.2]; exact ho⟩
  exact HandSPX.exc_get I1.kIn J T.ga T.gg T.exC (PySem.W.findObj_own T.hdC hno rfl (by rw [hl, hu])) (handed_of ru) ⟨v, H1, I1.tok _, ru, q⟩
/-- what isinstance asks of instances of the error class D -/
structure IsX (K : PySem.W.Frag) (D : Addr) : Prop where
  ha : PySem.W.findIn K (.ref D) "__class__" = some (some (.builtin "object.__class__"))
  hn : PySem.W.specialIn K (.builtin "object.__class__") "__get__" = some (some (.builtin "getset_descriptor.__get__"))
  ht : PySem.W.takesIn K (.builtin "object.__class__") = some true
  hm : PySem.W.mroIn K D (.type "object") = some true
def isXB (K : PySem.W.Frag) (D : Addr) : Bool := decide (PySem.W.findIn K (.ref D) "__class__" = some (some (.builtin "object.__class__"))) && (decide (PySem.W.specialIn K (.builtin "object.__class__") "__get__" = some (some (.builtin "getset_descriptor.__get__"))) && (decide (PySem.W.takesIn K (.builtin "object.__class__") = some true) &&
  decide (PySem.W.mroIn K D (.type "object") = some true)))
theorem isXB_ok {K : PySem.W.Frag} {D : Addr} (h : isXB K D = true) : IsX K D := by
  unfold isXB at h
  obtain ⟨h1, h⟩ := Bool.and_eq_true_iff.mp h
  obtain ⟨h2, h⟩ := Bool.and_eq_true_iff.mp h
  obtain ⟨h3, h4⟩ := Bool.and_eq_true_iff.mp h
  exact ⟨of_decide_eq_true h1, of_decide_eq_true h2, of_decide_eq_true h3, of_decide_eq_true h4⟩
/-- isinstance(e, c), e a tracked error -/
def rIsX (K : PySem.W.Frag) (pn : List (Addr × Obj)) : List V → Hp → VK → Prop := fun xs H Q => ∃ (a D : Addr) (d : Option Addr) (c : V) (cv : Value) (b : Bool), xs = [.ref a, c] ∧ XfC K D ∧ IsX K D ∧ ErrP pn H a D d ∧ (∀ dd, d = some dd → ∃ fs, FldAt H dd fs) ∧ (∀ u, RelV c u → u = cv) ∧ PySem.W.kitOne K (.ref D) cv = some b ∧ Q (.bl b) H
theorem call_isX : CallR X (.builtin "isinstance") (rIsX X.K X.pn) := by
  intro pins s σ H xs us Q I r h
  obtain ⟨a, D, d, c, cv, b, rfl, T, C, ea, ed, hcv, kit, q⟩ := h
  cases r with
  | cons rx rr =>
    cases rr with
    | cons rt rr =>
      cases rr
      cases rx
      have ec := hcv _ rt
      subst ec
      obtain ⟨oe, vs, ha, hz, hd⟩ := ea.get I
      have hcl : (PySem.W.clsIn X.K D).isSome = true := by
        obtain ⟨cd, hc, _⟩ := PySem.W.any_some T.hdC
        rw [hc]
        rfl
      have J : ∃ od, PySem.W.InstAt s.heap a oe D od := by
        cases d with
        | none => exact ⟨none, ha, hz.1, by unfold PySem.W.notCls; rw [hd] <;> rfl, by rw [hz.2]; trivial⟩
        | some dd =>
          obtain ⟨fs, ef⟩ := ed dd rfl
          obtain ⟨mA, hns, hr⟩ := ef.get I.hok
          obtain ⟨od, ho, hl⟩ := lookIn_ns hns
          exact ⟨some od, ha, hz.1, by unfold PySem.W.notCls; rw [hd] <;> rfl, by rw [hz.2]; exact ho⟩
      obtain ⟨od, J⟩ := J
      exact PySem.W.kia_one (PySem.W.kitx_exc hcl T.ga T.gg T.exC C.ha C.hn C.ht C.hm) I.kIn J kit (fun z => nomatch z) fun tk => ⟨.bl b, H, I.kept (t' := tk) fun _ _ z => z, rfl, q⟩
end
end VB
/-! what is shown stays when the heap grows, and when a list of it grows -/
namespace VB
open PySem PySem.Spec PyProof.Rows L2
mutual
theorem Shw.ex {H H' : Hp} (e : Evl.Ex H H') : ∀ {y : V} {t : Str} {bs : List Addr} {d : Nat}, Shw H y t bs d → Shw H' y t bs d
  | _, _, _, _, .flat x => .flat x
  | _, _, _, _, .dct h p => .dct (e _ _ h) p
  | _, _, _, _, .lst0 h => .lst0 (e _ _ h)
  | _, _, _, _, .lst h n s m => .lst (e _ _ h) n (ShwAll.ex e s) m
  | _, _, _, _, .tup h s m => .tup (e _ _ h) (ShwAll.ex e s) m
theorem ShwAll.ex {H H' : Hp} (e : Evl.Ex H H') : ∀ {ys : List V} {ts : List Str} {bs : List Addr} {d : Nat}, ShwAll H ys ts bs d → ShwAll H' ys ts bs d
  | _, _, _, _, .nil => .nil
  | _, _, _, _, .cons s b l t => .cons (Shw.ex e s) b l (ShwAll.ex e t)
end
mutual
theorem Shw.mut {H : Hp} {a : Addr} {o u : HO} (ha : H a = some o) (n0 : o ≠ .lst []) : ∀ {y : V} {t : Str} {bs : List Addr} {d : Nat}, Shw H y t bs d → a ∉ bs → Shw (upd H a u) y t bs d
  | _, _, _, _, .flat x, _ => .flat x
  | _, _, _, _, .dct h p, m => .dct (by rw [upd_ne (fun z => m (by simp [z]))]; exact h) p
  | _, _, _, _, .lst0 h, m => .lst0 (by rw [upd_ne (fun z => by rw [z, ha] at h; exact n0 (Option.some.inj h))]; exact h)
  | _, _, _, _, .lst h n s k, m => .lst (by rw [upd_ne (fun z => m (by simp [z]))]; exact h) n (ShwAll.mut ha n0 s (fun z => m (by simp [z]))) k
  | _, _, _, _, .tup h s k, m => .tup (by rw [upd_ne (fun z => m (by simp [z]))]; exact h) (ShwAll.mut ha n0 s (fun z => m (by simp [z]))) k
theorem ShwAll.mut {H : Hp} {a : Addr} {o u : HO} (ha : H a = some o) (n0 : o ≠ .lst []) : ∀ {ys : List V} {ts : List Str} {bs : List Addr} {d : Nat}, ShwAll H ys ts bs d → a ∉ bs → ShwAll (upd H a u) ys ts bs d
  | _, _, _, _, .nil, _ => .nil
  | _, _, _, _, .cons s b l t, m => .cons (Shw.mut ha n0 s (fun z => m (b _ z))) b l (ShwAll.mut ha n0 t m)
end
theorem ShwAll.app {H : Hp} {bs : List Addr} {d : Nat} : ∀ {xs ys : List V} {ts us : List Str}, ShwAll H xs ts bs d → ShwAll H ys us bs d → ShwAll H (xs ++ ys) (ts ++ us) bs d
  | _, _, _, _, .nil, h => h
  | _, _, _, _, .cons s b l t, h => .cons s b l (ShwAll.app t h)
theorem ShwAll.flat {H : Hp} {bs : List Addr} {d : Nat} : ∀ {xs : List V} {ts : List Str}, Paired Tx xs ts → ShwAll H xs ts bs d
  | _, _, .nil => .nil
  | _, _, .cons s t => .cons (.flat s) (fun _ z => nomatch z) (Nat.zero_le _) (ShwAll.flat t)
abbrev txI (i : Int) : Str := toString i
theorem ShwAll.iv {H : Hp} {bs : List Addr} {d : Nat} : ∀ {xs : List Int}, (∀ x ∈ xs, x.natAbs < 10 ^ 4300) → ShwAll H (IV xs) (xs.map txI) bs d
  | [], _ => .nil
  | x :: xs, h => .cons (.flat (.int x (h x (List.mem_cons_self ..)))) (fun _ z => nomatch z) (Nat.zero_le _) (ShwAll.iv fun y hy => h y (List.mem_cons_of_mem _ hy))
theorem lt_len (t : Str) (ts : List Str) : (listText (t :: ts)).length = piled (t :: ts) := by
  have h := textFrom_length_pos ts 1 (("[" : Str) ++ (if (0 : Nat) > 0 then ", " else "" : String) ++ t) (Nat.succ_pos 0)
  have hY : (textFrom 0 "[" (t :: ts)).length = (textFrom 1 (("[" : Str) ++ (if (0 : Nat) > 0 then ", " else "" : String) ++ t) ts).length := rfl
  show (textFrom 0 "[" (t :: ts) ++ "]").length = _
  have e : (("[" : Str) ++ (if (0 : Nat) > 0 then ", " else "" : String) ++ t).length = 1 + t.length := by
    rw [strLen_append, strLen_append]
    rfl
  rw [strLen_append, hY, h, e, piled_cons]
  show 1 + t.length + piled ts + 1 = _
  omega
theorem listText_len {ts : List Str} (h : ts ≠ []) : (listText ts).length = piled ts := by
  cases ts with
  | nil => exact absurd rfl h
  | cons t ts => exact lt_len t ts
theorem listText_le {b : Nat} (ts : List Str) (h : ∀ t ∈ ts, t.length ≤ b) : (listText ts).length ≤ (b + 2) * ts.length + 2 := by
  have := piled_le ts h
  by_cases z : ts = []
  · subst z
    show 2 ≤ _
    omega
  · rw [listText_len z]
    omega
theorem Shw.grow {H : Hp} {a : Addr} {ys : List V} {t : Str} {bs : List Addr} {d : Nat} (h : Shw H (.ref a) t bs d) (ha : H a = some (.lst ys)) {x : V} {u : Str} (hx : Tx x u) :
    ∃ t' bs' d', Shw (upd H a (.lst (ys ++ [x]))) (.ref a) t' bs' d' ∧ d' ≤ d + 1 ∧ t'.length ≤ t.length + u.length + 2 := by
  cases h with
  | flat tx => cases tx
  | dct hb => rw [ha] at hb; cases hb
  | tup hb => rw [ha] at hb; cases hb
  | lst0 hb =>
    rw [ha] at hb
    cases hb
    refine ⟨listText [u], [a], 1, .lst upd_same (by simp) (.cons (.flat hx) (fun _ z => by cases z) (Nat.le_refl 0) .nil) (fun z => by cases z), by omega, ?_⟩
    have := listText_le (b := u.length) [u] (by simp)
    simp only [List.length_cons, List.length_nil] at this
    have l2 : ("[]" : Str).length = 2 := by decide
    omega
  | @lst _ zs ts bs d hb n s m =>
    rw [ha] at hb
    cases hb
    refine ⟨listText (ts ++ [u]), a :: bs, d + 1, .lst upd_same (by simp) (ShwAll.app (ShwAll.mut ha (fun z => n (HO.lst.inj z)) s m) (.cons (.flat hx) (fun _ z => by cases z) (Nat.zero_le _) .nil)) m, by omega, ?_⟩
    have ne : ts ++ [u] ≠ [] := by simp
    rw [listText_len ne, piled_append, piled_cons, piled_nil]
    by_cases z : ts = []
    · subst z
      show 0 + _ ≤ _
      omega
    · rw [listText_len z]
      omega
end VB
namespace VB
open PySem PySem.Spec PyProof.Rows L2
theorem sum_le {b : Nat} : ∀ ts : List Str, (∀ t ∈ ts, t.length ≤ b) → (ts.map (·.length)).sum ≤ b * ts.length
  | [], _ => Nat.zero_le _
  | t :: ts, h => by
    have a := h t (List.mem_cons_self ..)
    have c := sum_le ts fun u hu => h u (List.mem_cons_of_mem _ hu)
    rw [List.map_cons, List.sum_cons, List.length_cons, Nat.mul_succ]
    omega
theorem tupleText_le {b : Nat} (ts : List Str) (h : ∀ t ∈ ts, t.length ≤ b) : (tupleText ts).length ≤ (b + 2) * ts.length + 3 := by
  have := tupleText_len_le ts
  have s := sum_le ts h
  rw [Nat.add_mul]
  omega
theorem Sv.mut {K : PySem.W.Frag} {H : Hp} {a b : Addr} {u : HO} {t : Bool} {xs : List V} (S : Sv t K H b xs) (n : b ≠ a) : Sv t K (upd H a u) b xs := by
  cases t with
  | false =>
    rcases S with (h | ⟨o, h⟩) | h
    · exact .inl (.inl (by rw [upd_ne n]; exact h))
    · exact .inl (.inr ⟨o, by rw [upd_ne n]; exact h⟩)
    · exact .inr h
  | true =>
    rcases S with (h | ⟨o, h⟩) | h
    · exact .inl (.inl (by rw [upd_ne n]; exact h))
    · exact .inl (.inr ⟨o, by rw [upd_ne n]; exact h⟩)
    · exact .inr h
end VB
/-! repr of a dict whose values are shown lists too -/
namespace VB
open PySem PySem.Spec PyProof.Rows L2
def TxN (H : Hp) (as : List Addr) (d : Nat) (p : Key × V) (x : Str) : Prop := ∃ a b : Str, Tx (kV p.1) a ∧ Shw H p.2 b as d ∧ x = a ++ ": " ++ b
theorem entriesN {P : Program} {w : World} {H : Hp} {h₀ : Heap} {as : List Addr} {d : Nat} (hok : HOk P w H h₀) (hd : h₀.NoDigits) : ∀ {kvs : List (Key × V)} {vs : List (Key × Value)} {es : List DictEntry} {ps : List Str},
    L2.KV kvs vs → Pairs (mixKind P w) es vs → Paired (TxN H as d) kvs ps → ReprEntriesK P w as h₀ d es ps
  | _, _, _, _, .nil, .nil, .nil => .nil
  | _, _, _, _, .cons r rs, .cons hk hv ts, .cons te tt => by
    obtain ⟨a, b, ta, tb, rfl⟩ := te
    obtain ⟨e1, rv⟩ := r
    refine .cons (((reprK_tx hd (key_rel ?_) ta).more (fun b z => nomatch z)).level_le (Nat.zero_le _)) (shw_K hok hd tb (hv ▸ rv)) (entriesN hok hd rs ts tt)
    rw [e1]
    exact hk
section
variable {X : Cx} {k : Nat}
def rReprN : List V → Hp → VK → Prop := fun xs H Q => ∃ (a : Addr) (kvs : List (Key × V)) (ps : List Str) (as : List Addr) (d : Nat), xs = [.ref a] ∧ H a = some (.dK kvs) ∧ Paired (TxN H as d) kvs ps ∧ a ∉ as ∧ d ≤ 50 ∧ (dictText ps).length ≤ sizeLine ∧ Q (.str (dictText ps)) H
theorem call_reprN (hr : Rm k X.A) (hd : X.base.NoDigits) : CallR X (.builtin "repr") rReprN := by
  intro pins s σ H xs us Q I r h
  obtain ⟨a, kvs, ps, as, d, rfl, ha, pt, na, h50, hz, q⟩ := h
  obtain ⟨u, rfl, ru⟩ := vals1 r
  cases (show u = Value.ref a from ru)
  have hx : ObjOk X.prog X.w H s.heap a (.dK kvs) := I.hok a _ ha
  obtain ⟨_, hsys, vs, hkv, o, es, ep, ho, hex, hda, _, hp, _⟩ := hx
  have hu := hr.rm.un
  have hD : s.heap.NoDigits := hd.keeps I.bk
  have hc : o.cls = .type "dict" := hex.1
  refine call_repr_slot (T := "dict") (by omega) ⟨o, ho, hc⟩ F.slot_dict_repr ?_
  refine call_dict_reprK ho hc hda hsys na (entriesN I.hok hD hkv hp pt) (A := X.A.in1) (g := []) hr.gd (fun b _ => Clear.nil b) (by show X.A.units + 1 + (d + 1) < cLine; omega) (fun _ _ z => z) (fun h' u' tk kp => ⟨_, _, rfl, ?_⟩) hz
  exact ⟨.str (dictText ps), H, I.un (Un.kept kp) (I.hok.kept kp), ⟨u', rfl⟩, q⟩
end
/-- repr is told of v, with the text t -/
def Rp (H : Hp) (v : V) (t : Str) : Prop := t.length ≤ 10000 ∧ ((∃ bs d, Shw H v t bs d ∧ d ≤ 50) ∨ ∃ (a : Addr) (kvs : List (Key × V)) (ps : List Str) (as : List Addr) (d : Nat), v = .ref a ∧ H a = some (.dK kvs) ∧ Paired (TxN H as d) kvs ps ∧ a ∉ as ∧ d ≤ 50 ∧ t = dictText ps)
def rReprP : List V → Hp → VK → Prop := fun xs H Q => ∃ (v : V) (t : Str), xs = [v] ∧ Rp H v t ∧ Q (.str t) H
theorem call_reprP {X : Cx} {k : Nat} (hr : Rm k X.A) (hd : X.base.NoDigits) : CallR X (.builtin "repr") rReprP := by
  intro pins s σ H xs us Q I r h
  obtain ⟨v, t, rfl, ⟨l, h⟩, q⟩ := h
  have sz : (10000 : Nat) ≤ sizeLine := by decide
  rcases h with ⟨bs, d, s1, d1⟩ | ⟨a, kvs, ps, as, d, rfl, ha, pt, na, h50, rfl⟩
  · exact call_reprS hr hd pins s σ H _ us Q I r ⟨v, t, bs, d, rfl, s1, by omega, by omega, q⟩
  · exact call_reprN hr hd pins s σ H _ us Q I r ⟨a, kvs, ps, as, d, rfl, ha, pt, na, h50, by omega, q⟩
theorem paired_mono {α β : Type} {R S : α → β → Prop} (h : ∀ a b, R a b → S a b) : ∀ {xs : List α} {ys : List β}, Paired R xs ys → Paired S xs ys
  | _, _, .nil => .nil
  | _, _, .cons r t => .cons (h _ _ r) (paired_mono h t)
theorem Rp.ex {H H' : Hp} {v : V} {t : Str} (h : Rp H v t) (e : Evl.Ex H H') : Rp H' v t := by
  obtain ⟨l, h⟩ := h
  refine ⟨l, ?_⟩
  rcases h with ⟨bs, d, s1, d1⟩ | ⟨a, kvs, ps, as, d, rfl, ha, pt, na, h50, rfl⟩
  · exact .inl ⟨bs, d, s1.ex e, d1⟩
  · exact .inr ⟨a, kvs, ps, as, d, rfl, e _ _ ha, paired_mono (fun p x ⟨a, b, h1, h2, h3⟩ => ⟨a, b, h1, h2.ex e, h3⟩) pt, na, h50, rfl⟩
end VB
/-! ==, != of own instances whose class has its own __eq__ (any answer), also from the right -/
namespace PySem.W
open PySem PySem.Spec PyProof.Rows PySem.SeqAt
section
variable {prog : Program} {w : World} {A : Around} {E : Value → Shared → Prop} {s : Shared} {K : Frag} {x C f : Addr} {ox : Obj} {od : Option Obj} {b tb : Value}
theorem ifSlot_K {M : Model} {T id : String} {name : Str} {args : List Value} {Q : Option Value → Shared → Prop} (X : K.In s.heap) (I : InstAt s.heap x ox C od) (S : Slot T name id) (hs : findIn K (.ref C) name = some (some (.builtin id)))
    (h : wpAny M A (call (.builtin id) (.ref x :: args)) (fun v => Q (some v)) E s) : wpAny M A (callSpecialIfBound? (.ref x) name args) Q E s := by
  simp only [callSpecialIfBound?, bindSpecialIfBound?]
  refine wpAny_holding (wpAny_bind (wpAny_bind (wpAny_bind (I.type.here ((looks_findIn X hs).here ?_)))))
  simp only [S.bind]
  have fin : wpAny M A (call (.builtin id) ([.ref x] ++ args) >>= fun v => pure (some v)) Q E s := wpAny_bind (wpAny_mono h (fun v s' h' => wpAny_pure h') fun _ _ h' => h')
  refine wpAny_bind (wpAny_askSetting (wpAny_ite ?_))
  split
  · exact wpAny_bind (wpAny_pure (wpAny_pure fin))
  · exact wpAny_tryCatch (wpAny_bind (wpAny_pure (wpAny_pure fin)))
/-- the check ahead of object.__ne__ -/
theorem chk_ne {M : Model} {Q : Unit → Shared → Prop} (X : K.In s.heap) (I : InstAt s.heap x ox C od) (hob : subIn K (.ref C) (.type "object") = some true) (q : Q () s) : wpAny M A (checkBuiltinCall "object.__ne__" ⟨[.ref x, b], []⟩) Q E s := by
  simp only [checkBuiltinCall, F.cmpKind_ne, F.cmpSplit_ne]
  unfold isInstance
  refine wpAny_bind (wpAny_bind (I.type.here ((looks_subIn X hob).here ?_)))
  cases hsig : Manifest.signature? "object.__ne__" with
  | none => exact wpAny_pure q
  | some sig =>
    have ha := F.cmpArgs_ne (.ref x) b
    simp only [argsOk, hsig] at ha
    have h2 : Bind.checkArgs "object.__ne__" sig ⟨[.ref x, b], []⟩ = pure () := ha
    show wpAny M A (Bind.checkArgs "object.__ne__" sig ⟨[.ref x, b], []⟩) Q E _
    rw [h2]
    exact wpAny_pure q
theorem ne_entry {Q : Fin → Shared → Prop} (X : K.In s.heap) (I : InstAt s.heap x ox C od) (hu : A.units < cLine) (he : findIn K (.ref C) "__eq__" = some (some (.ref f))) (hf : isFn K (.ref f) = true)
    (h : wpAny (model prog w) A (call (.ref f) [.ref x, b]) (fun v s' => ∃ r, v = .bool r ∧ Q (.done (.ret (.bool (!r)))) s') E s) : wpAny (model prog w) A (Builtin.«object.__ne__» ⟨[.ref x, b], []⟩) Q E s := by
  unfold Builtin.«object.__ne__»
  repeat (first
    | with_reducible refine wpAny_cRoomFor hu ?_
    | (refine wpAny_bind (m := callSpecialIfBound? (.ref x) (Str.ofString "__eq__") [b]) (ifBound_K X I he hf (wpAny_mono h (fun v s' z => by
        obtain ⟨r, rfl, q⟩ := z
        repeat (first | exact q | exact wpAny_pure q | exact wpAny_truthy_bool q | (refine wpAny_bind (m := truthy (.bool _)) (wpAny_truthy_bool ?_)) | wp_step)) fun _ _ e => e)))
    | wp_step)
theorem rc_ne {Q : Value → Shared → Prop} (FB : CmpFacts "object" [.type "object"]) (X : K.In s.heap) (I : InstAt s.heap x ox C od) (hu : A.units + 1 < cLine) (hb : Looks (model prog w) s.heap (typeOf b) tb) (hn : notFirst K C tb = true) (hne : findIn K (.ref C) "__ne__" = some (some (.builtin "object.__ne__")))
    (hob : subIn K (.ref C) (.type "object") = some true) (he : findIn K (.ref C) "__eq__" = some (some (.ref f))) (hf : isFn K (.ref f) = true)
    (h : wpAny (model prog w) A.in1 (call (.ref f) [.ref x, b]) (fun v s' => ∃ r, v = .bool r ∧ Q (.bool (!r)) s') E s) : wpAny (model prog w) A (richCompare .NotEq (.ref x) b) Q E s := by
  have one : wpAny (model prog w) A (tryCompare (.ref x) "__ne__" b) (fun r s' => ∃ v, r = some v ∧ Q v s') E s := by
    unfold tryCompare
    refine wpAny_bind (ifSlot_K X I FB.ne hne (wpAny_call (codeAny_call_builtin FB.ne.plain F.cmpEntry_ne (chk_ne X I hob (ne_entry (A := A.in1) X I hu he hf (wpAny_mono h (fun v s' z => ?_) fun _ _ e => e))))))
    obtain ⟨r, rfl, q⟩ := z
    exact ⟨r, rfl, wpAny_pure ⟨_, rfl, q⟩⟩
  unfold richCompare
  simp only [oneThing_ref]
  refine wpAny_holding (wpAny_bind (wpAny_cRoomFor (Nat.lt_of_succ_lt hu) ?_))
  rw [cmpInfo_NotEq]
  dsimp only
  refine wpAny_bind (I.type.here (wpAny_bind (hb.here ?_)))
  split
  · rename_i q
    have e : subIn K tb (.ref C) = some false := by
      rcases Bool.or_eq_true_iff.mp hn with e | e
      · rw [beq_iff_eq.mp e] at q; simp at q
      · exact beq_iff_eq.mp e
    refine wpAny_bind ((looks_subIn X e).here ?_)
    simp only [Bool.false_eq_true, if_false]
    refine wpAny_bind (wpAny_mono one (fun r s' z => ?_) fun _ _ e => e)
    obtain ⟨v, rfl, hq⟩ := z
    exact wpAny_pure hq
  · refine wpAny_bind (wpAny_pure ?_)
    simp only [Bool.false_eq_true, if_false]
    refine wpAny_bind (wpAny_mono one (fun r s' z => ?_) fun _ _ e => e)
    obtain ⟨v, rfl, hq⟩ := z
    exact wpAny_pure hq
/-- a == x, x on the right; a's own way declines -/
theorem rc_back {T id : String} {a : Value} {Q : Value → Shared → Prop} (X : K.In s.heap) (I : InstAt s.heap x ox C od) (hu : A.units < cLine) (ha : s.TypeIs a T) (S : Slot T "__eq__" id) (hc : subIn K (.ref C) (.type T) = some false)
    (he : findIn K (.ref C) "__eq__" = some (some (.ref f))) (hf : isFn K (.ref f) = true) (left : ∀ Q' : Value → Shared → Prop, Q' .notImplemented s → wpAny (model prog w) A (call (.builtin id) [a, .ref x]) Q' E s)
    (h : wpAny (model prog w) A (call (.ref f) [.ref x, a]) (CmpBack Q) E s) : wpAny (model prog w) A (richCompare .Eq a (.ref x)) Q E s := by
  unfold richCompare
  simp only [ha.oneThing_none]
  refine wpAny_holding (wpAny_bind (wpAny_cRoomFor hu ?_))
  rcases hi : cmpInfo CmpOp.Eq with ⟨sym, f1, r1⟩
  have e1 : f1 = "__eq__" ∧ r1 = "__eq__" := by
    have : (sym, f1, r1) = ("==", ("__eq__" : Str), ("__eq__" : Str)) := by rw [← hi]; rfl
    exact ⟨(Prod.mk.inj (Prod.mk.inj this).2).1, (Prod.mk.inj (Prod.mk.inj this).2).2⟩
  obtain ⟨rfl, rfl⟩ := e1
  dsimp only
  refine wpAny_bind (wpAny_typeOf ha (wpAny_bind (I.type.here ?_)))
  have ne : (Value.type T != Value.ref C) = true := rfl
  simp only [ne, if_true]
  refine wpAny_bind ((looks_subIn X hc).here ?_)
  simp only [Bool.false_eq_true, if_false, Bool.not_false, if_true]
  refine wpAny_bind (m := tryCompare a _ (.ref x)) (wpAny_tryCompare_declines ha S (left _ ⟨rfl, ?_⟩))
  have one : wpAny (model prog w) A (tryCompare (.ref x) "__eq__" a) (fun r s' => ∃ v, r = some v ∧ Q v s') E s := by
    unfold tryCompare
    refine wpAny_bind (ifBound_K X I he hf (wpAny_mono h (fun v s' hv => ?_) fun _ _ e => e))
    cases v <;> first | exact hv.elim | exact wpAny_pure ⟨_, rfl, hv⟩
  refine wpAny_bind (wpAny_mono one (fun r s' z => ?_) fun _ _ e => e)
  obtain ⟨v, rfl, hq⟩ := z
  exact wpAny_pure hq
end
end PySem.W
namespace PySem.W
open PySem PySem.Spec PyProof.Rows PySem.SeqAt
section
variable {prog : Program} {w : World} {A : Around} {E : Value → Shared → Prop} {s : Shared} {K : Frag} {x C f : Addr} {ox : Obj} {od : Option Obj}
theorem left_none {Q : Value → Shared → Prop} (q : Q .notImplemented s) : wpAny (model prog w) A (call (.builtin "NoneType.__eq__") [.none, .ref x]) Q E s := by
  refine wpAny_call_entry F.slot_NoneType_eq rfl F.entry_NoneType_eq ?_ (F.args_NoneType_eq_2 _ _)
  unfold Builtin.«NoneType.__eq__»
  obtain ⟨hp, g, d, tk, os⟩ := s
  wp_walk
  exact ⟨_, rfl, q⟩
theorem left_int {i : Int} {t : Tok} {Q : Value → Shared → Prop} (X : K.In s.heap) (hx : s.heap.get? x = some ox) (hc : ox.cls = .ref C) (hd : ox.data = .plain) (q : Q .notImplemented s) : wpAny (model prog w) A (call (.builtin "int.__eq__") [.int i t, .ref x]) Q E s := by
  refine wpAny_call_entry F.slot_int_eq (typeIs_int s i t) F.entry_int_eq ?_ (F.args_int_eq_2 _ _)
  unfold Builtin.«int.__eq__»
  repeat (first | with_reducible refine wpAny_load hx ?_ | wp_step)
  rw [hd]
  wp_walk
  exact ⟨_, rfl, q⟩
theorem left_bool {b : Bool} {Q : Value → Shared → Prop} (X : K.In s.heap) (hx : s.heap.get? x = some ox) (hc : ox.cls = .ref C) (hd : ox.data = .plain) (q : Q .notImplemented s) : wpAny (model prog w) A (call (.builtin "int.__eq__") [.bool b, .ref x]) Q E s := by
  refine wpAny_call_entry F.slot_bool_eq rfl F.entry_int_eq ?_ (F.args_int_eq_2 _ _)
  unfold Builtin.«int.__eq__»
  repeat (first | with_reducible refine wpAny_load hx ?_ | wp_step)
  rw [hd]
  wp_walk
  exact ⟨_, rfl, q⟩
theorem left_list {l : Addr} {its : Array Value} {n : Nat} {dd : Option Addr} {sl : Array (Option Value)} {Q : Value → Shared → Prop} (X : K.In s.heap) (hx : s.heap.get? x = some ox) (hc : ox.cls = .ref C) (hl : s.heap.get? l = some { cls := .type "list", dict := dd, data := .seq its n, slots := sl }) (hs : subIn K (.ref C) (.type "list") = some false) (q : Q .notImplemented s) : wpAny (model prog w) A (call (.builtin "list.__eq__") [.ref l, .ref x]) Q E s := by
  refine wpAny_call_entry F.slot_list_eq ⟨_, hl, rfl⟩ F.entry_list_eq ?_ (F.args_list_eq_2 _ _)
  unfold Builtin.«list.__eq__»
  have S := looks_subIn (M := model prog w) X hs
  wp_walk using wpAny_loadPart_at hx
  rw [hc]
  refine S.here ?_
  wp_walk
  exact ⟨_, rfl, q⟩
theorem left_tup {l : Addr} {its : Array Value} {n : Nat} {dd : Option Addr} {sl : Array (Option Value)} {Q : Value → Shared → Prop} (X : K.In s.heap) (hx : s.heap.get? x = some ox) (hc : ox.cls = .ref C) (hl : s.heap.get? l = some { cls := .type "tuple", dict := dd, data := .seq its n, slots := sl }) (hs : subIn K (.ref C) (.type "tuple") = some false) (q : Q .notImplemented s) : wpAny (model prog w) A (call (.builtin "tuple.__eq__") [.ref l, .ref x]) Q E s := by
  refine wpAny_call_entry F.slot_tuple_eq ⟨_, hl, rfl⟩ F.entry_tuple_eq ?_ (F.args_tuple_eq_2 _ _)
  unfold Builtin.«tuple.__eq__»
  have S := looks_subIn (M := model prog w) X hs
  wp_walk using wpAny_loadPart_at hx
  rw [hc]
  refine S.here ?_
  wp_walk
  exact ⟨_, rfl, q⟩
theorem left_str {z : Str} {t : Tok} {Q : Value → Shared → Prop} (hx : s.heap.get? x = some ox) (hd : ox.data = .plain) (q : Q .notImplemented s) : wpAny (model prog w) A (call (.builtin "str.__eq__") [.str z t, .ref x]) Q E s := by
  refine wpAny_call_entry F.slot_str_eq (typeIs_str s z t) F.entry_str_eq ?_ (F.args_str_eq_2 _ _)
  unfold Builtin.«str.__eq__»
  wp_walk using wpAny_load hx
  rw [hd]
  wp_walk
  exact ⟨_, rfl, q⟩
end
end PySem.W
namespace VB
open PySem PySem.Spec PyProof.Rows L2
/-- the type of a value -/
inductive TyE (H : Hp) : V → Value → Prop
  | non : TyE H .non (.type "NoneType")
  | bl (b : Bool) : TyE H (.bl b) (.type "bool")
  | int (i : Int) : TyE H (.int i) (.type "int")
  | str (x : Str) : TyE H (.str x) (.type "str")
  | lst {a : Addr} {xs : List V} (e : H a = some (.lst xs)) : TyE H (.ref a) (.type "list")
  | tup {a : Addr} {xs : List V} (e : H a = some (.tup xs)) : TyE H (.ref a) (.type "tuple")
  | ins {a C dx : Addr} {fs : List (Str × V)} (e : H a = some (.ins C dx fs)) : TyE H (.ref a) (.ref C)
abbrev tys : List Value := [.type "NoneType", .type "bool", .type "int", .type "str", .type "list", .type "tuple"]
section
variable {X : Cx} {pins : List (Addr × Obj)} {σ : L2.St} {H : Hp} {s : Shared}
theorem TyE.looks {x : V} {u t : Value} (I : Inv X pins σ H s) (rx : RelV x u) (ty : TyE H x t) : PySem.W.Looks (model X.prog X.w) s.heap (typeOf u) t := by
  cases ty with
  | non => cases (show u = Value.none from rx); exact PySem.W.Looks.of_pure rfl
  | bl b => cases (show u = Value.bool b from rx); exact PySem.W.Looks.of_pure rfl
  | int i => obtain ⟨t, rfl⟩ := (show ∃ t, u = Value.int i t from rx); exact PySem.W.Looks.of_pure rfl
  | str x => obtain ⟨t, rfl⟩ := (show ∃ t, u = Value.str x t from rx); exact PySem.W.Looks.of_pure rfl
  | @lst a xs e =>
    cases (show u = Value.ref a from rx)
    obtain ⟨_, its, n, _, h1⟩ := (show ObjOk X.prog X.w H s.heap a (.lst xs) from I.hok a _ e)
    exact fun A Q E s k q => wpAny_typeOf_ref (k _ _ h1) q
  | @tup a xs e =>
    cases (show u = Value.ref a from rx)
    obtain ⟨_, its, _, o, e2, hc, _, _⟩ := (show ObjOk X.prog X.w H s.heap a (.tup xs) from I.hok a _ e)
    exact fun A Q E s k q => wpAny_typeOf_ref (k _ _ e2) (by rw [hc]; exact q)
  | @ins a C dx fs e =>
    cases (show u = Value.ref a from rx)
    obtain ⟨mA, O, _⟩ := ins_get I.hok e
    exact fun A Q E s k q => wpAny_typeOf_ref (k _ _ O.obj) q
end
/-- a class with its own __eq__ -/
structure EqC (P : Program) (w : World) (K : PySem.W.Frag) (mg : Str → Option Value) (base : Heap) (k : Nat) (C : Addr) (tbs : List Value) (sp : Sp) : Prop where
  fn : ∃ (f : Addr) (fd : FuncData), Fg P w K mg base CX0 k f fd ["self", "other"] sp ∧ PySem.W.findIn K (.ref C) "__eq__" = some (some (.ref f)) ∧ PySem.W.isFn K (.ref f) = true ∧ Binds K fd ["self", "other"] []
  ne : PySem.W.findIn K (.ref C) "__ne__" = some (some (.builtin "object.__ne__"))
  ob : PySem.W.subIn K (.ref C) (.type "object") = some true
  bk : ∀ t ∈ tys, PySem.W.subIn K (.ref C) t = some false
  nf : ∀ t ∈ tbs, PySem.W.notFirst K C t = true
section
variable {X : Cx} {k n : Nat} {Cl : Nat → Addr} {tbs : List Value} {sp : Nat → Sp}
abbrev noX : XK := fun _ _ _ => False
/-- x == y, x own -/
def rEqO (Cl : Nat → Addr) (n : Nat) (tbs : List Value) (sp : Nat → Sp) : R2 := fun x y H Q => ∃ (i : Nat) (a dx : Addr) (fs : List (Str × V)) (t : Value), i < n ∧ x = .ref a ∧ H a = some (.ins (Cl i) dx fs) ∧ TyE H y t ∧ t ∈ tbs ∧ sp i [.ref a, y] H (fun v H' => ∃ b, v = .bl b ∧ Q (.bl b) H') noX
def rNeO (Cl : Nat → Addr) (n : Nat) (tbs : List Value) (sp : Nat → Sp) : R2 := fun x y H Q => ∃ (i : Nat) (a dx : Addr) (fs : List (Str × V)) (t : Value), i < n ∧ x = .ref a ∧ H a = some (.ins (Cl i) dx fs) ∧ TyE H y t ∧ t ∈ tbs ∧ sp i [.ref a, y] H (fun v H' => ∃ b, v = .bl b ∧ Q (.bl (!b)) H') noX
/-- x == y, y own, x not -/
def rEqB (Cl : Nat → Addr) (n : Nat) (sp : Nat → Sp) : R2 := fun x y H Q => ∃ (i : Nat) (a dx : Addr) (fs : List (Str × V)) (t : Value), i < n ∧ y = .ref a ∧ H a = some (.ins (Cl i) dx fs) ∧ TyE H x t ∧ t ∈ tys ∧ sp i [.ref a, x] H (fun v H' => ∃ b, v = .bl b ∧ Q (.bl b) H') noX
theorem op_eqO (hr : Rm k X.A) (E : ∀ i, i < n → EqC X.prog X.w X.K X.mg X.base k (Cl i) tbs (sp i)) : OpR X (compareOp .Eq) (rEqO Cl n tbs sp) := by
  intro pins s σ H x y v u Q I rx ry h
  obtain ⟨i, a, dx, fs, t, hi, rfl, ea, ty, ht, hsp⟩ := h
  cases rx
  obtain ⟨⟨f, fd, FF, he, hf, hb⟩, _, _, _, nf⟩ := E i hi
  obtain ⟨mA, J, _⟩ := ins_get I.hok ea
  obtain ⟨od, J, _⟩ := J.look
  obtain ⟨m, hF⟩ := I.fr
  have b := hb s [.ref a, u] I.kIn rfl
  show wpAny (model X.prog X.w) X.A (richCompare .Eq (.ref a) u) (EP X pins σ Q) X.xe s
  refine PySem.W.cmp_K (op := .Eq) hr.rm.units0 hF I.ok.mod.kin J (ty.looks I ry) (nf t ht) he hf (thn (enter (args := ⟨[.ref a, u], []⟩) (vs := [.ref a, y]) FF hr pass0 I b (.cons rfl (.cons ry .nil)) hsp) fun r s' z => ?_)
  obtain ⟨v', H', I', rv, bb, rfl, q⟩ := z
  cases (show r = Value.bool bb from rv)
  exact ⟨.bl bb, H', I', rfl, q⟩
theorem op_neO (hr : Rm (k + 1) X.A) (E : ∀ i, i < n → EqC X.prog X.w X.K X.mg X.base k (Cl i) tbs (sp i)) : OpR X (compareOp .NotEq) (rNeO Cl n tbs sp) := by
  intro pins s σ H x y v u Q I rx ry h
  obtain ⟨i, a, dx, fs, t, hi, rfl, ea, ty, ht, hsp⟩ := h
  cases rx
  obtain ⟨⟨f, fd, FF, he, hf, hb⟩, ne, ob, _, nf⟩ := E i hi
  obtain ⟨mA, J, _⟩ := ins_get I.hok ea
  obtain ⟨od, J, _⟩ := J.look
  have b := hb s [.ref a, u] I.kIn rfl
  have hu := hr.rm.un
  have hr1 : Rm k X.A.in1 := ⟨hr.rm.in1, hr.gd⟩
  show wpAny (model X.prog X.w) X.A (richCompare .NotEq (.ref a) u) (EP X pins σ Q) X.xe s
  refine PySem.W.rc_ne F.cmp_object I.kIn J (by omega) (ty.looks I ry) (nf t ht) ne ob he hf (wpAny_call (codeAny_mono (FF.go X.A.in1 X.stack s H ⟨[.ref a, u], []⟩ [.ref a, u] [.ref a, y] _ noX hr1 I.env0.in1 b (.cons rfl (.cons ry .nil)) hsp) fun r s' hq => ?_))
  have z := back (X := X) pass0 I hq
  cases r with
  | error e => exact z
  | ok fl =>
    cases fl with
    | ret w =>
      obtain ⟨v', H', I', rv, bb, rfl, q⟩ := z
      exact ⟨bb, rv, .bl (!bb), H', I', rfl, q⟩
    | next => exact z.elim
    | brk => exact z.elim
    | cont => exact z.elim
theorem op_eqB (hr : Rm k X.A) (E : ∀ i, i < n → EqC X.prog X.w X.K X.mg X.base k (Cl i) tbs (sp i)) : OpR X (compareOp .Eq) (rEqB Cl n sp) := by
  intro pins s σ H x y v u Q I rx ry h
  obtain ⟨i, a, dx, fs, t, hi, rfl, ea, ty, ht, hsp⟩ := h
  cases ry
  obtain ⟨⟨f, fd, FF, he, hf, hb⟩, _, _, bk, _⟩ := E i hi
  obtain ⟨mA, O, _⟩ := ins_get I.hok ea
  have hx := O.obj
  obtain ⟨od, J, _⟩ := O.look
  have b := hb s [.ref a, v] I.kIn rfl
  have fin : wpAny (model X.prog X.w) X.A (call (.ref f) [.ref a, v]) (PySem.W.CmpBack (EP X pins σ Q)) X.xe s := thn (enter (args := ⟨[.ref a, v], []⟩) (vs := [.ref a, x]) FF hr pass0 I b (.cons rfl (.cons rx .nil)) hsp) fun r s' z => by
    obtain ⟨v', H', I', rv, bb, rfl, q⟩ := z
    cases (show r = Value.bool bb from rv)
    exact ⟨.bl bb, H', I', rfl, q⟩
  have hu := hr.rm.units0
  show wpAny (model X.prog X.w) X.A (richCompare .Eq v (.ref a)) (EP X pins σ Q) X.xe s
  cases ty with
  | non => cases (show v = Value.none from rx); exact PySem.W.rc_back I.kIn J hu rfl F.slot_NoneType_eq (bk _ ht) he hf (fun Q' q => PySem.W.left_none q) fin
  | bl b => cases (show v = Value.bool b from rx); exact PySem.W.rc_back I.kIn J hu rfl F.slot_bool_eq (bk _ ht) he hf (fun Q' q => PySem.W.left_bool I.kIn hx rfl rfl q) fin
  | int i => obtain ⟨t, rfl⟩ := (show ∃ t, v = Value.int i t from rx); exact PySem.W.rc_back I.kIn J hu (typeIs_int s i t) F.slot_int_eq (bk _ ht) he hf (fun Q' q => PySem.W.left_int I.kIn hx rfl rfl q) fin
  | str x => obtain ⟨t, rfl⟩ := (show ∃ t, v = Value.str x t from rx); exact PySem.W.rc_back I.kIn J hu (typeIs_str s x t) F.slot_str_eq (bk _ ht) he hf (fun Q' q => PySem.W.left_str hx rfl q) fin
  | @lst l xs e =>
    cases (show v = Value.ref l from rx)
    obtain ⟨_, its, n, _, h1⟩ := (show ObjOk X.prog X.w H s.heap l (.lst xs) from I.hok l _ e)
    exact PySem.W.rc_back I.kIn J hu ⟨_, h1, rfl⟩ F.slot_list_eq (bk _ ht) he hf (fun Q' q => PySem.W.left_list I.kIn hx rfl h1 (bk _ ht) q) fin
  | @tup l xs e =>
    cases (show v = Value.ref l from rx)
    obtain ⟨_, its, _, o, e2, hc, n2, hdt⟩ := (show ObjOk X.prog X.w H s.heap l (.tup xs) from I.hok l _ e)
    obtain ⟨cls, dd, dt, sl⟩ := o
    dsimp only at hc hdt
    subst hc hdt
    exact PySem.W.rc_back I.kIn J hu ⟨_, e2, rfl⟩ F.slot_tuple_eq (bk _ ht) he hf (fun Q' q => PySem.W.left_tup I.kIn hx rfl e2 (bk _ ht) q) fin
  | @ins l C dx fs e => exact absurd ht (by simp)
end
end VB
/-! makings where defaults fill up; the same expression by one of several readings -/
namespace VB
open PySem PySem.Spec PyProof.Rows L2
/-- the class x, made with its last parameters left out (dvs: their defaults) -/
structure MakD (P : Program) (w : World) (K : PySem.W.Frag) (mg : Str → Option Value) (base : Heap) (CX : CXT) (k : Nat) (x : Str) (C : Addr) (ps : List Str) (dvs : List V) (sp : Sp) : Prop where
  ex : ∃ (f : Addr) (fd : FuncData) (ds : List Value), Fg P w K mg base CX k f fd ps sp ∧ Mk K C f ∧ mg x = some (.ref C) ∧ Vals dvs ds ∧ Binds K fd ps ds
section
variable {X : Cx} {CX : CXT} {k : Nat} {ps : List Str} {sp : Sp} {E : XK} {x : Str} {p pos : Pos} {C : Addr} {dvs : List V} {e : Expr} {es : List Expr} {t : TA}
theorem pe_makD (M : MakD X.prog X.w X.K X.mg X.base CX k x C ps dvs sp) (hr : Rm (k + 1) X.A) (hx : Passes CX X E) (ha : PA X (e :: es) t) (hg : Gl X x := by rfl) (hdb : (x == ("__debug__" : Str)) = false := by decide)
    (he : starEach (e :: es) X.env = (false, eval e X.env) :: starEach es X.env := by rfl) (hpl : (backTo pos (starEach es X.env)).any (·.1) = false := by rfl) :
    PE X (.Call (.Name x p) (e :: es) [] pos) (tMake C sp dvs E t) := by
  obtain ⟨f, fd, ds, F, mk, hm, hd, hb⟩ := M.ex
  constructor
  intro pins s σ H Q I h
  refine wpAny_Call_Name_kw (ld_glob I hg hm ?_ hdb)
  refine PySem.W.callWith_K (h₀ := X.base) I.ok.mod.kin mk.kp (thn (ha.run pos pins s σ H _ I h) ?_) he hpl
  rintro us s1 ⟨vs, H1, I1, r, q⟩
  refine ⟨I1.kIn, ?_⟩
  have hq := q (s1.heap.objs.size + 1) s1.heap.objs.size (I1.hok.fresh (Nat.le_succ _)) (I1.hok.fresh (Nat.le_refl _)) (Nat.ne_of_lt (Nat.lt_succ_self _))
  have I3 := Inv.made (C := C) I1
  have r2 : Vals (V.ref (s1.heap.objs.size + 1) :: (vs ++ dvs)) (Value.ref (s1.heap.objs.size + 1) :: (us ++ ds)) := .cons rfl (r.append hd)
  have l := F.cnt _ _ _ _ hq
  have b := hb _ (Value.ref (s1.heap.objs.size + 1) :: us) I3.kIn (by rw [List.cons_append, ← r2.length]; exact l)
  refine wpAny_call (make_map (f := f) I1.kIn mk.makes mk.init (beq_iff_eq.mp mk.fn) (codeAny_mono (F.go _ X.stack _ _ ⟨Value.ref (s1.heap.objs.size + 1) :: us, []⟩ (Value.ref (s1.heap.objs.size + 1) :: (us ++ ds)) _ _ E (hr.make C us []) (I3.env0.make C us []) b r2 hq) fun r s' z => ?_))
  cases r with
  | error e => exact hx pins σ _ _ e s' I3 z
  | ok fl =>
    cases fl with
    | ret u =>
      obtain ⟨v, H', I4, rv, ev, q3⟩ := I3.after z
      subst ev
      exact ⟨rv, ⟨V.ref (s1.heap.objs.size + 1), H', I4, rfl, q3⟩⟩
    | next => exact z.elim
    | brk => exact z.elim
    | cont => exact z.elim
theorem PE.any {ι : Type} {P : ι → Prop} {a : Expr} {t : ι → TE} (h : ∀ i, P i → PE X a (t i)) : PE X a (fun σ H Q => ∃ i, P i ∧ t i σ H Q) := ⟨fun pins s σ H Q I ⟨i, hi, q⟩ => (h i hi).run pins s σ H Q I q⟩
theorem pe_globS {z : Str} {pos : Pos} (hg : Gl X x) (h : ∃ t, X.mg x = some (.str z t)) (hd : (x == ("__debug__" : Str)) = false := by decide) : PE X (.Name x pos) (tC (.str z)) := by
  obtain ⟨t, h⟩ := h
  exact pe_glob hg h ⟨_, rfl⟩ hd
end
end VB
/-! records: what they are, as rows and as instances -/
namespace K12
open PySem PySem.Spec PyProof.Rows L2 VB BM
inductive Rc where
  | head (seq tail : Int) (b : Bool)
  | sl (tail count : Int)
  | node (d a o n w s c u : Int)
  | name (d a o dir : Int) (nm : Str) (n u : Int)
  | chunk (d a o n ix : Int) (os : List Int) (u : Int)
  | keep (d a o : Int) (nm : Str) (b : Bool) (u : Int)
deriving DecidableEq

def Stamp (d a o : Int) : Prop := 1 ≤ d ∧ d ≤ 4294967295 ∧ 0 ≤ a ∧ a ≤ 5 ∧ (if a = 0 then 0 else a + 1) ≤ o ∧ o ≤ 6
def Until (d o u : Int) : Prop := u = 0 ∨ (o ≤ 0 ∧ d + 1 ≤ u ∧ u ≤ 4294967295)
def Nm (x : Str) : Prop := 1 ≤ x.cps.size ∧ x.cps.size ≤ 8 ∧ ∀ c ∈ x.cps.toList, 97 ≤ c ∧ c ≤ 122
/-- most chunks of a size -/
def most (s : Int) : Int := 2 ^ ((s + 15) / 16).toNat - 1
def Good : Rc → Prop
  | .head seq tail _ => 1 ≤ tail ∧ tail ≤ seq ∧ seq ≤ 4294967295
  | .sl tail count => 1 ≤ tail ∧ tail ≤ 4294967295 ∧ 0 ≤ count ∧ count ≤ 14
  | .node d a o n w s c u => Stamp d a o ∧ 2 ≤ n ∧ n ≤ 65535 ∧ 0 ≤ w ∧ w ≤ 2 ∧ 0 ≤ s ∧ s ≤ (if w = 1 then 96 else 0) ∧ 0 ≤ c ∧ c ≤ most s ∧ Until d o u
  | .name d a o dir nm n u => Stamp d a o ∧ 1 ≤ dir ∧ dir ≤ 65535 ∧ Nm nm ∧ n ≠ 1 ∧ 0 ≤ n ∧ n ≤ 65535 ∧ Until d o u
  | .chunk d a o n ix os u => Stamp d a o ∧ 2 ≤ n ∧ n ≤ 65535 ∧ 0 ≤ ix ∧ ix ≤ 5 ∧ Oct os ∧ os.length = 16 ∧ Until d o u
  | .keep d a o nm _ u => Stamp d a o ∧ Nm nm ∧ Until d o u
def Rc.ix : Rc → Nat
  | .head .. => 0
  | .sl .. => 1
  | .node .. => 2
  | .name .. => 3
  | .chunk .. => 4
  | .keep .. => 5
abbrev clE : List Str := ["Head", "Seal", "Node", "Name", "Chunk", "Keep"]
abbrev Kl (K : PySem.W.Frag) (i : Nat) : Addr := He.ga K (clE.getD i "")
/-- the values in a row, t in the place of a chunk's octets -/
def rowV (t : V) : Rc → List V
  | .head seq tail b => [.str "Head", .int seq, .int tail, .bl b]
  | .sl tail count => [.str "Seal", .int tail, .int count]
  | .node d a o n w s c u => [.str "Node", .int d, .int a, .int o, .int n, .int w, .int s, .int c, .int u]
  | .name d a o dir nm n u => [.str "Name", .int d, .int a, .int o, .int dir, .str nm, .int n, .int u]
  | .chunk d a o n ix _ u => [.str "Chunk", .int d, .int a, .int o, .int n, .int ix, t, .int u]
  | .keep d a o nm b u => [.str "Keep", .int d, .int a, .int o, .str nm, .bl b, .int u]
def fls (t : V) : Rc → List (Str × V)
  | .head seq tail b => [("seq", .int seq), ("tail", .int tail), ("is_cleaning", .bl b)]
  | .sl tail count => [("tail", .int tail), ("count", .int count)]
  | .node d a o n w s c u => [("deed", .int d), ("at", .int a), ("of", .int o), ("node", .int n), ("what", .int w), ("size", .int s), ("chunks", .int c), ("until", .int u)]
  | .name d a o dir nm n u => [("deed", .int d), ("at", .int a), ("of", .int o), ("directory", .int dir), ("name", .str nm), ("node", .int n), ("until", .int u)]
  | .chunk d a o n ix _ u => [("deed", .int d), ("at", .int a), ("of", .int o), ("node", .int n), ("index", .int ix), ("octets", t), ("until", .int u)]
  | .keep d a o nm b u => [("deed", .int d), ("at", .int a), ("of", .int o), ("name", .str nm), ("is_kept", .bl b), ("until", .int u)]
/-- t stands for the chunk's octets -/
def OcT (H : Hp) (t : V) : Rc → Prop
  | .chunk _ _ _ _ _ os _ => ∃ p, t = .ref p ∧ H p = some (.tup (IV os))
  | _ => True
/-- the row r at l -/
def RowAt (H : Hp) (l : Addr) (r : Rc) : Prop := ∃ t, H l = some (.lst (rowV t r)) ∧ OcT H t r
/-- the record r at a -/
def RecAt (K : PySem.W.Frag) (H : Hp) (a : Addr) (r : Rc) : Prop := ∃ dx t, H a = some (.ins (Kl K r.ix) dx (fls t r)) ∧ OcT H t r
theorem OcT.ex {H H' : Hp} {t : V} {r : Rc} (h : OcT H t r) (e : Evl.Ex H H') : OcT H' t r := by
  cases r with
  | chunk d a o n ix os u =>
    obtain ⟨p, h1, h2⟩ := h
    exact ⟨p, h1, e _ _ h2⟩
  | _ => trivial
theorem OcT.xb {H H' : Hp} {b : Addr} {t : V} {r : Rc} (h : OcT H t r) (hb : ∀ xs, H b ≠ some (.tup xs)) (e : Exb b H H') : OcT H' t r := by
  cases r with
  | chunk d a o n ix os u =>
    obtain ⟨p, h1, h2⟩ := h
    exact ⟨p, h1, e _ _ (fun z => hb _ (z ▸ h2)) h2⟩
  | _ => trivial
theorem RowAt.ex {H H' : Hp} {l : Addr} {r : Rc} (h : RowAt H l r) (e : Evl.Ex H H') : RowAt H' l r := by
  obtain ⟨t, h1, h2⟩ := h
  exact ⟨t, e _ _ h1, h2.ex e⟩
theorem RecAt.ex {K : PySem.W.Frag} {H H' : Hp} {l : Addr} {r : Rc} (h : RecAt K H l r) (e : Evl.Ex H H') : RecAt K H' l r := by
  obtain ⟨dx, t, h1, h2⟩ := h
  exact ⟨dx, t, e _ _ h1, h2.ex e⟩
end K12
namespace K12
open PySem PySem.Spec PyProof.Rows L2 VB BM
/-- a value without parts -/
inductive Fl : V → Prop
  | non : Fl .non
  | bl (b : Bool) : Fl (.bl b)
  | int (i : Int) (h : i.natAbs < 10 ^ 1300) : Fl (.int i)
  | str (x : Str) (h : (PyData.str x).canLay0 = true ∧ (reprText x).length ≤ 60) : Fl (.str x)
/-- any value that the law hands: without parts, a list or a tuple of values, a dict -/
inductive Val (K : PySem.W.Frag) (H : Hp) : V → Prop
  | flat {v : V} : Fl v → Val K H v
  | seq {t : Bool} {a : Addr} {xs : List V} : Sv t K H a xs → Val K H (.ref a)
  | dct {a : Addr} {kvs : List (Key × V)} : H a = some (.dK kvs) → Val K H (.ref a)
theorem Val.ex {K : PySem.W.Frag} {H H' : Hp} {v : V} (h : Val K H v) (e : Evl.Ex H H') : Val K H' v := by
  cases h with
  | flat f => exact .flat f
  | seq S => exact .seq (S.ex e)
  | dct h => exact .dct (e _ _ h)
/-- an integer from lo to hi -/
def isIx : V → Int → Int → Bool
  | .int i, lo, hi => decide (lo ≤ i) && decide (i ≤ hi)
  | _, _, _ => false
theorem isIx_int {i lo hi : Int} (h1 : lo ≤ i) (h2 : i ≤ hi) : isIx (.int i) lo hi = true := by
  show (decide (lo ≤ i) && decide (i ≤ hi)) = true
  rw [decide_eq_true h1, decide_eq_true h2]
  rfl
theorem isIx_of {v : V} {lo hi : Int} (h : isIx v lo hi = true) : ∃ i, v = .int i ∧ lo ≤ i ∧ i ≤ hi := by
  cases v with
  | int i =>
    unfold isIx at h
    rw [Bool.and_eq_true, decide_eq_true_eq, decide_eq_true_eq] at h
    exact ⟨i, rfl, h.1, h.2⟩
  | _ => cases h
section
variable {P : Program} {w : World} {K : PySem.W.Frag} {mg : Str → Option Value} {base : Heap} {f : Addr} {fd : FuncData}
/-- isinstance(v, int) and not isinstance(v, bool) and lo <= v .. hi, as a value -/
theorem ix_te {σ : L2.St} {H : Hp} {Q : VK} {i : Nat} {v : V} {lo hi hx : Int} {g : Int → Int → V} {tl th : TE} (hσ : σ[i]? = some (some v)) (kv : Val K H v) (hl : ∀ Q' : VK, Q' (.int lo) H → tl σ H Q') (hh : ∀ Q' : VK, Q' (.int hx) H → th σ H Q') (hg : ∀ j : Int, g j hx = .bl (decide (j ≤ hi))) (q : Q (.bl (isIx v lo hi)) H) :
    tAndV (tCB (rIsi K) (tCons (tVar i) (tCons (tC (V.ty "int")) tNil))) (tAndV (tNotV (tCB (rIsi K) (tCons (tVar i) (tCons (tC (V.ty "bool")) tNil)))) (tChain (rI0 fun i j => V.bl (decide (i ≤ j))) (rI0 g) tl (tVar i) th)) σ H Q := by
  cases kv with
  | flat fv =>
    cases fv with
    | non => exact ⟨_, hσ, _, _, _, _, false, rfl, .ty _, .base .non, kit_ty (by decide +kernel), false, rfl, iteF q⟩
    | str x _ => exact ⟨_, hσ, _, _, _, _, false, rfl, .ty _, .base (.str x), kit_ty (by decide +kernel), false, rfl, iteF q⟩
    | bl b => exact ⟨_, hσ, _, _, _, _, true, rfl, .ty _, .base (.bl b), kit_ty (by decide +kernel), true, rfl, iteT ⟨_, hσ, _, _, _, _, true, rfl, .ty _, .base (.bl b), kit_ty (by decide +kernel), true, rfl, false, rfl, iteF q⟩⟩
    | int j _ =>
      refine ⟨_, hσ, _, _, _, _, true, rfl, .ty _, ty_int K H j, kit_ty (by decide +kernel), true, rfl, iteT ?_⟩
      refine ⟨_, hσ, _, _, _, _, false, rfl, .ty _, ty_int K H j, kit_ty (by decide +kernel), false, rfl, true, rfl, iteT ?_⟩
      refine hl _ ⟨_, hσ, _, _, rfl, rfl, _, rfl, ?_⟩
      have q' : Q (.bl (decide (lo ≤ j) && decide (j ≤ hi))) H := q
      by_cases c : lo ≤ j
      · rw [decide_eq_true c] at q' ⊢
        refine iteT (hh _ ⟨_, _, rfl, rfl, ?_⟩)
        rw [hg]
        exact q'
      · rw [decide_eq_false c] at q' ⊢
        exact iteF q'
  | @seq t a xs S =>
    cases t with
    | false => exact ⟨_, hσ, _, _, _, _, false, rfl, .ty _, S.ty, kit_ty (by decide +kernel), false, rfl, iteF q⟩
    | true => exact ⟨_, hσ, _, _, _, _, false, rfl, .ty _, S.ty, kit_ty (by decide +kernel), false, rfl, iteF q⟩
  | @dct a kvs h => exact ⟨_, hσ, _, _, _, _, false, rfl, .ty _, .base (.dK h), kit_ty (by decide +kernel), false, rfl, iteF q⟩
def spIntFrom (K : PySem.W.Frag) : Sp := fun vs H Q _ => ∃ (v : V) (l g : Int), vs = [v, .int l, .int g] ∧ Val K H v ∧ Q (.bl (isIx v l g)) H
theorem ok_int_from (T : Txt K mg) (F : FnP K "is_int_from" s_is_int_from f fd) : Fg P w K mg base CX0 2 f fd ["value", "least", "greatest"] (spIntFrom K) := by
  refine fg_of F sc_is_int_from (fun vs H Q E h => ?_) (fun cdv A outer s H vs Q E hr h => ⟨_, (PSs.nox (pss_one (ps_ret (pe_and (pe_callB (u_isi (K := K)) (by rfl) T.f_isinstance (by decide +kernel) (pa_cons (pv 0) (pa_cons (pe_bltn (v := .ty "int") rfl T.f_int (by decide +kernel) rfl) pa_nil))) (pe_and (pe_not (pe_callB (u_isi (K := K)) (by rfl) T.f_isinstance (by decide +kernel) (pa_cons (pv 0) (pa_cons (pe_bltn (v := .ty "bool") rfl T.f_bool (by decide +kernel) rfl) pa_nil)))) (pe_one (pe_chain op_le op_le (pv 1) (pv 0) (pv 2)))))))), ?_⟩)
  · obtain ⟨v, l, g, rfl, _⟩ := h
    rfl
  · obtain ⟨v, l, g, rfl, kv, q⟩ := h
    exact ix_te (i := 0) rfl kv (fun Q' h => ⟨_, rfl, h⟩) (fun Q' h => ⟨_, rfl, h⟩) (fun j => rfl) q
/-- what a value is, for the lists and tuples: its items -/
inductive Dn
  | other
  | sq (t : Bool) (xs : List V)
def Dn.isSq : Dn → Bool
  | .other => false
  | .sq _ _ => true
def Dn.octs : Dn → Bool
  | .other => false
  | .sq _ xs => xs.all fun x => isIx x 0 255
inductive Nq (K : PySem.W.Frag) (H : Hp) : V → Prop
  | flat {v : V} : Fl v → Nq K H v
  | dct {a : Addr} {kvs : List (Key × V)} : H a = some (.dK kvs) → Nq K H (.ref a)
def At (K : PySem.W.Frag) (H : Hp) (v : V) : Dn → Prop
  | .other => Nq K H v
  | .sq t xs => ∃ a, v = .ref a ∧ Sv t K H a xs ∧ (∀ x ∈ xs, Val K H x) ∧ xs.length ≤ 2000
theorem At.val {H : Hp} {v : V} {d : Dn} (h : At K H v d) : Val K H v := by
  cases d with
  | other =>
    have h : Nq K H v := h
    cases h with
    | flat f => exact .flat f
    | dct e => exact .dct e
  | sq t xs =>
    obtain ⟨a, rfl, S, _⟩ := h
    exact .seq S
theorem At.ex {H H' : Hp} {v : V} {d : Dn} (h : At K H v d) (e : Evl.Ex H H') : At K H' v d := by
  cases d with
  | other =>
    have h : Nq K H v := h
    show Nq K H' v
    cases h with
    | flat f => exact .flat f
    | dct z => exact .dct (e _ _ z)
  | sq t xs =>
    obtain ⟨a, rfl, S, g, l⟩ := h
    exact ⟨a, rfl, S.ex e, fun x hx => (g x hx).ex e, l⟩
theorem kit_no {ty : String} (h1 : PySem.W.kitOne K (.type ty) (.type "list") = some false) (h2 : PySem.W.kitOne K (.type ty) (.type "tuple") = some false) : PySem.W.kitAny K (.type ty) [.type "list", .type "tuple"] = some false :=
  kitAny_cons (b := false) h1 (fun _ => kitAny_cons (b := false) h2 (fun _ => rfl) (fun z => nomatch z)) (fun z => nomatch z)
theorem sq_te {σ : L2.St} {H : Hp} {Q : VK} {i : Nat} {v : V} {d : Dn} (hσ : σ[i]? = some (some v)) (h : At K H v d) (q : RV (.bl d.isSq) H Q) :
    tCB (rIsiT K) (tCons (tVar i) (tCons (tTup (tCons (tC (V.ty "list")) (tCons (tC (V.ty "tuple")) tNil))) tNil)) σ H Q := by
  refine ⟨_, hσ, by show 2 ≤ sizeLine; decide, fun tp ht => ?_⟩
  have e0 := Evl.Ex.new (o := .tup [.ty "list", .ty "tuple"]) ht
  cases d with
  | other =>
    have h : Nq K H v := h
    have go : ∀ {ty : String}, TyX K (upd H tp (.tup [.ty "list", .ty "tuple"])) v (.type ty) → PySem.W.kitOne K (.type ty) (.type "list") = some false → PySem.W.kitOne K (.type ty) (.type "tuple") = some false →
        rIsiT K [v, .ref tp] (upd H tp (.tup [.ty "list", .ty "tuple"])) Q := fun tx h1 h2 => ⟨_, tp, _, _, [.type "list", .type "tuple"], false, rfl, upd_same, .cons (.ty _) (.cons (.ty _) .nil), tx, kit_no h1 h2, q _ e0⟩
    cases h with
    | dct e => exact go (.base (.dK (e0 _ _ e))) (kit_ty (by decide +kernel)) (kit_ty (by decide +kernel))
    | flat g =>
      cases g with
      | non => exact go (.base .non) (kit_ty (by decide +kernel)) (kit_ty (by decide +kernel))
      | bl b => exact go (.base (.bl b)) (kit_ty (by decide +kernel)) (kit_ty (by decide +kernel))
      | int j _ => exact go (.base (.int j)) (kit_ty (by decide +kernel)) (kit_ty (by decide +kernel))
      | str x _ => exact go (.base (.str x)) (kit_ty (by decide +kernel)) (kit_ty (by decide +kernel))
  | sq t xs =>
    obtain ⟨a, rfl, S, _⟩ := h
    exact ⟨_, tp, _, _, [.type "list", .type "tuple"], true, rfl, upd_same, .cons (.ty _) (.cons (.ty _) .nil), (S.ex e0).ty, kit_seq K t, q _ e0⟩
def spIsList (K : PySem.W.Frag) : Sp := fun vs H Q _ => ∃ (v : V) (d : Dn), vs = [v] ∧ At K H v d ∧ RV (.bl d.isSq) H Q
theorem ok_is_list (T : Txt K mg) (F : FnP K "is_list" s_is_list f fd) : Fg P w K mg base CX0 1 f fd ["value"] (spIsList K) := by
  refine fg_of F sc_is_list (fun vs H Q E h => ?_) (fun cdv A outer s H vs Q E hr h => ⟨_, (PSs.nox (pss_one (ps_ret (pe_callB (u_isiT (K := K)) (by rfl) T.f_isinstance (by decide +kernel) (pa_cons (pv 0) (pa_cons (pe_tup (pa_cons (pe_bltn (v := .ty "list") rfl T.f_list (by decide +kernel) rfl) (pa_cons (pe_bltn (v := .ty "tuple") rfl T.f_tuple (by decide +kernel) rfl) pa_nil))) pa_nil)))))), ?_⟩)
  · obtain ⟨v, d, rfl, _⟩ := h
    rfl
  · obtain ⟨v, d, rfl, h, q⟩ := h
    exact sq_te (i := 0) rfl h q
def spIsOct (K : PySem.W.Frag) : Sp := fun vs H Q _ => ∃ (v : V) (d : Dn), vs = [v] ∧ At K H v d ∧ RV (.bl d.octs) H Q
theorem ok_is_octets (T : Txt K mg) (F : FnP K "is_octets" s_is_octets f fd) (C_is_list : Cal P w K mg base CX0 1 "is_list" ["value"] (spIsList K)) : Fg P w K mg base CX0 2 f fd ["value"] (spIsOct K) := by
  refine fg_of F sc_is_octets (fun vs H Q E h => ?_) (fun cdv A outer s H vs Q E hr h => ⟨_, (PSs.nox (pss_one (ps_ret (pe_and (pe_cal C_is_list hr.le pass0 (pa_cons (pv 0) pa_nil)) (pe_one (pe_callB (u_all (K := K) rfl) (by rfl) T.f_all (by decide +kernel) (pa_cons (pe_lc (own := [("octet", 1)]) rfl sc_is_octets.nd (pi_seq (K := K) (pv 0)) (blkOk_by (own := [("octet", 1)]) (N := ["value", "octet"]) (sc := defScope s_is_octets) (by decide +kernel)) (fun _ _ _ _ _ => (pg_name (i := 1) sc_is_octets.nd rfl (by first | exact Or.inl rfl | exact Or.inr rfl))) (fun _ _ _ _ _ => pts_nil) (fun _ _ _ _ _ => (pe_and (pe_callB (u_isi (K := K)) (by rfl) T.f_isinstance (by decide +kernel) (pa_cons (pv 1) (pa_cons (pe_bltn (v := .ty "int") rfl T.f_int (by decide +kernel) rfl) pa_nil))) (pe_and (pe_not (pe_callB (u_isi (K := K)) (by rfl) T.f_isinstance (by decide +kernel) (pa_cons (pv 1) (pa_cons (pe_bltn (v := .ty "bool") rfl T.f_bool (by decide +kernel) rfl) pa_nil)))) (pe_one (pe_chain op_le op_le pe_int (pv 1) pe_int)))))) pa_nil))))))), ?_⟩)
  · obtain ⟨v, d, rfl, _⟩ := h
    rfl
  · obtain ⟨v, d, rfl, h, q⟩ := h
    refine ⟨_, rfl, v, d, rfl, h, fun H0 e0 => ⟨_, rfl, ?_⟩⟩
    cases d with
    | other => exact iteF (q _ e0)
    | sq t xs =>
      obtain ⟨a, rfl, S, g, l⟩ := h
      refine iteT ?_
      refine seq_var (t := t) rfl (S.ex e0) fun J wk D hD => ?_
      refine lc_pureVS (us := xs.map fun x => V.bl (isIx x 0 255)) wk (fun H' ex => (S.ex e0).ex ex) (by simp) (by omega) hD (fun _ => rfl) ?_ ?_
      · intro i x u H' Q' hx hu ex k
        rw [List.getElem?_map, hx] at hu
        cases hu
        exact ix_te (i := 1) rfl ((g x (List.mem_of_getElem? hx)).ex (e0.trans ex)) (fun Q' h => h) (fun Q' h => h) (fun j => rfl) (k H' (Evl.Ex.refl _))
      · intro H' ex h3
        refine ⟨D, xs.map fun x => isIx x 0 255, rfl, SqL.of (by rw [h3, List.map_map]; rfl), ?_⟩
        have e : (xs.map fun x => isIx x 0 255).all id = xs.all fun x => isIx x 0 255 := by
          rw [List.all_map]
          rfl
        rw [e]
        exact q _ (e0.trans ex)
end
end K12
namespace K12
open PySem PySem.Spec PyProof.Rows L2 VB BM
theorem and_mod (m : Nat) : Builtin.bitAnd (m : Int) 255 = ((m % 256 : Nat) : Int) := by
  show Builtin.bitAnd (m : Int) ((255 : Nat) : Int) = _
  rw [VB.bitAnd_nn]
  congr 1
  exact Nat.and_two_pow_sub_one_eq_mod m 8
/-- c octets that tell n -/
def octO (n c : Nat) : List Int := (List.range c).map fun i => ((n / 2 ^ (8 * (c - 1 - i)) % 256 : Nat) : Int)
theorem octO_len (n c : Nat) : (octO n c).length = c := by simp [octO]
theorem octO_at {n c i : Nat} (h : i < c) : (octO n c)[i]? = some ((n / 2 ^ (8 * (c - 1 - i)) % 256 : Nat) : Int) := by
  unfold octO
  rw [List.getElem?_map, List.getElem?_range h]
  rfl
theorem bits_gt {n : Int} {k : Nat} (h : 2 ^ k ≤ n.natAbs) : k < Builtin.Int.intBits n := by
  have hp : 0 < 2 ^ k := Nat.pow_pos (by decide)
  have h0 : n ≠ 0 := by
    rintro rfl
    have : (0 : Int).natAbs = 0 := rfl
    omega
  unfold Builtin.Int.intBits
  have hb : (n == 0) = false := by simpa using h0
  rw [hb]
  show k < n.natAbs.log2 + 1
  exact Nat.lt_succ_of_le ((Nat.le_log2 (by omega)).mpr h)
section
variable {P : Program} {w : World} {K : PySem.W.Frag} {mg : Str → Option Value} {base : Heap} {f : Addr} {fd : FuncData}
def spTell : Sp := fun vs H Q _ => ∃ n c : Nat, vs = [.int (n : Int), .int (c : Int)] ∧ c ≤ 8 ∧ RT (IV (octO n c)) H Q
theorem ok_tell (T : Txt K mg) (F : FnP K "octets_telling" s_octets_telling f fd) : Fg P w K mg base CX0 1 f fd ["number", "count"] spTell := by
  refine fg_of F sc_octets_telling (fun vs H Q E h => ?_) (fun cdv A outer s H vs Q E hr h => ⟨_, (PSs.nox (pss_one (ps_ret (pe_callTy (u_tup (K := K)) (by rfl) T.f_tuple (by decide +kernel) (pa_cons (pe_lc (own := [("k", 2)]) rfl sc_octets_telling.nd (pi_revR rfl T.f_reversed (prg_1 rfl T.f_range (pv 1))) (blkOk_by (own := [("k", 2)]) (N := ["number", "count", "k"]) (sc := defScope s_octets_telling) (by decide +kernel)) (fun _ _ _ _ _ => (pg_name (i := 2) sc_octets_telling.nd rfl (by first | exact Or.inl rfl | exact Or.inr rfl))) (fun _ _ _ _ _ => pts_nil) (fun _ _ _ _ _ => (pe_op op_and (pe_op op_shrN (pv 0) (pe_op (u_mul (K := K)) pe_int (pv 2))) pe_int))) pa_nil))))), ?_⟩)
  · obtain ⟨n, c, rfl, _⟩ := h
    rfl
  · obtain ⟨n, c, rfl, hc, q⟩ := h
    refine ⟨_, rfl, (c : Int), rfl, by omega, by omega, by omega, by omega, fun D hD => ?_⟩
    have cn : ((c : Int) - 0).toNat = c := by omega
    have c0 : (0 : Int) + (c : Int) - 1 = (c : Int) - 1 := by omega
    rw [cn, c0]
    refine lc_it (walk_rangeC (lo := (c : Int) - 1) (c := -1) (n := c)) (fun i H' => i ≤ c ∧ Evl.Ex H H' ∧ H' D = some (.lst (IV ((octO n c).take i)))) ⟨by omega, Evl.Ex.new hD, upd_same⟩ (fun _ _ _ _ => trivial) ?_ ?_
    · rintro i x H1 H1' hi ⟨_, e1, h1⟩ ⟨rfl, rfl⟩
      refine ⟨rfl, ?_⟩
      have ek : (c : Int) - 1 + (i : Int) * -1 = ((c - 1 - i : Nat) : Int) := by omega
      dsimp only
      rw [ek]
      have mx : CMulX 8 ((c - 1 - i : Nat) : Int) := mulx_ok (a := 30) (b := 30) (by decide) (by rw [Int.natAbs_natCast]; show _ < 1073741824; omega) (by decide)
      have e8 : (8 : Int) * ((c - 1 - i : Nat) : Int) = ((8 * (c - 1 - i) : Nat) : Int) := by omega
      refine ⟨_, rfl, _, rfl, .inl ⟨_, _, rfl, rfl, mx, (n : Int), 8 * (c - 1 - i), rfl, congrArg V.int e8, _, _, rfl, rfl, ?_⟩⟩
      have ev : Builtin.bitAnd ((n : Int) / 2 ^ (8 * (c - 1 - i))) 255 = ((n / 2 ^ (8 * (c - 1 - i)) % 256 : Nat) : Int) := by
        have z : (n : Int) / 2 ^ (8 * (c - 1 - i)) = ((n / 2 ^ (8 * (c - 1 - i)) : Nat) : Int) := by simp
        rw [z]
        exact and_mod _
      refine ⟨_, h1, by rw [iv_len, List.length_take]; exact Evl.sz_lt (by omega), by omega, Evl.Ex.mut e1 hD, ?_⟩
      rw [upd_same]
      show some (HO.lst (IV ((octO n c).take i) ++ [V.int (Builtin.bitAnd ((n : Int) / 2 ^ (8 * (c - 1 - i))) 255)])) = _
      rw [ev, take_snoc (octO_at hi), ← iv_snoc]
    · rintro H1 ⟨_, e1, h1⟩
      have e4 : (octO n c).take c = octO n c := by
        have := List.take_length (l := octO n c)
        rw [octO_len] at this
        exact this
      rw [e4] at h1
      exact ⟨D, _, rfl, .inl ⟨SqL.of h1, fun l nl => q l _ (Evl.fresh_back e1 nl) (e1.trans (Evl.Ex.new nl)) upd_same⟩⟩

def spOctOf (K : PySem.W.Frag) : Sp := fun vs H Q _ => ∃ (a : Addr) (os : List Int) (t : Bool) (n : Int), vs = [.ref a, .int n] ∧ Sv t K H a (IV os) ∧ Oct os ∧ os.length ≤ 2000 ∧ (os.length : Int) = n ∧ RV (.bl true) H Q
theorem dn_oct {H : Hp} {a : Addr} {os : List Int} {t : Bool} (S : Sv t K H a (IV os)) (ho : Oct os) (hl : os.length ≤ 2000) : At K H (.ref a) (.sq t (IV os)) := ⟨a, rfl, S, fun x hx => by
  obtain ⟨i, hi, rfl⟩ := List.mem_map.mp hx
  have := ho i hi
  exact .flat (.int i (by have : i.natAbs < 256 := by omega
                          exact Nat.lt_of_lt_of_le this (show 256 ≤ 10 ^ 1300 from Nat.le_trans (show 256 ≤ 10 ^ 3 by decide) (Nat.pow_le_pow_right (by decide) (by decide))))), by rw [iv_len]; exact hl⟩
theorem octs_iv {os : List Int} {t : Bool} (ho : Oct os) : (Dn.sq t (IV os)).octs = true := by
  unfold Dn.octs
  rw [List.all_eq_true]
  intro x hx
  obtain ⟨i, hi, rfl⟩ := List.mem_map.mp hx
  have := ho i hi
  exact isIx_int (by omega) (by omega)
theorem ok_octets_of (T : Txt K mg) (F : FnP K "is_octets_of" s_is_octets_of f fd) (C_is_list : Cal P w K mg base CX0 1 "is_list" ["value"] (spIsList K)) (C_is_octets : Cal P w K mg base CX0 2 "is_octets" ["value"] (spIsOct K)) : Fg P w K mg base CX0 3 f fd ["value", "count"] (spOctOf K) := by
  refine fg_of F sc_is_octets_of (fun vs H Q E h => ?_) (fun cdv A outer s H vs Q E hr h => ⟨_, (PSs.nox (pss_one (ps_ret (pe_and (pe_cal C_is_list hr.le pass0 (pa_cons (pv 0) pa_nil)) (pe_and (pe_cmpR (u_eq (K := K) hr) (pe_callB (u_len (K := K)) (by rfl) T.f_len (by decide +kernel) (pa_cons (pv 0) pa_nil)) (pv 1) (nomark _)) (pe_one (pe_cal C_is_octets hr.le pass0 (pa_cons (pv 0) pa_nil)))))))), ?_⟩)
  · obtain ⟨a, os, t, n, rfl, _⟩ := h
    rfl
  · obtain ⟨a, os, t, n, rfl, S, ho, hl, hn, q⟩ := h
    refine ⟨_, rfl, .ref a, _, rfl, dn_oct S ho hl, fun H1 e1 => ⟨true, rfl, iteT ?_⟩⟩
    refine ⟨_, rfl, _, _, rfl, (S.ex e1).len, _, rfl, .inl ⟨rfl, _, rfl, ?_⟩⟩
    have en : V.int ((IV os).length : Int) = V.int n := by rw [iv_len, hn]
    rw [en, decide_eq_true rfl]
    exact iteT ⟨_, rfl, .ref a, _, rfl, dn_oct (S.ex e1) ho hl, fun H2 e2 => by rw [octs_iv ho]; exact q _ (e1.trans e2)⟩
/-- a text's signs -/
def chs (x : Str) : List V := x.cps.toList.map fun c => V.str ⟨#[c]⟩
theorem chs_len (x : Str) : (chs x).length = x.cps.size := by simp [chs]
theorem walk_chs {z : Str} : Walk (Its z) z.cps.size (fun _ => True) (YAt (chs z)) := walk_str.mono (fun _ _ => trivial) fun i H x H' hi _ y => by
  obtain ⟨h1, c, h2, rfl⟩ := y
  refine ⟨h1, ?_⟩
  unfold chs
  rw [List.getElem?_map, Array.getElem?_toList, h2]
  rfl
theorem bl_int {H : Hp} (i : Int) (h : i.natAbs < 10 ^ 20) : Val K H (.int i) := .flat (.int i (Nat.lt_of_lt_of_le h (Nat.pow_le_pow_right (by decide) (by decide))))
def spChkF : Sp := fun vs H Q _ => ∃ b : Bool, vs = [.bl b] ∧ Q .non H
theorem ok_chkF (T : Txt K mg) (F : FnP K "_check_flag" s__check_flag f fd) : Fg P w K mg base CX0 1 f fd ["value"] spChkF := by
  refine fg_of F sc__check_flag (fun vs H Q E h => ?_) (fun cdv A outer s H vs Q E hr h => ⟨_, (PSs.nox (pss_one (ps_if (pt_not (pt_tru (K := K) (pe_callB (u_isi (K := K)) (by rfl) T.f_isinstance (by decide +kernel) (pa_cons (pv 0) (pa_cons (pe_bltn (v := .ty "bool") rfl T.f_bool (by decide +kernel) rfl) pa_nil))) (by intro _; rfl)))
  (pss_one ps_never) pss_nil))), ?_⟩)
  · obtain ⟨b, rfl, _⟩ := h
    rfl
  · obtain ⟨b, rfl, q⟩ := h
    exact ⟨_, rfl, _, _, _, _, true, rfl, .ty _, .base (.bl b), kit_ty (by decide +kernel), true, rfl, iteF q⟩
def spCount : Sp := fun vs H Q _ => ∃ s : Int, vs = [.int s] ∧ 0 ≤ s ∧ s ≤ 96 ∧ Q (.int ((s + 15) / 16)) H
theorem ok_count (T : Txt K mg) (F : FnP K "chunk_count" s_chunk_count f fd) : Fg P w K mg base CX0 1 f fd ["size"] spCount := by
  refine fg_of F sc_chunk_count (fun vs H Q E h => ?_) (fun cdv A outer s H vs Q E hr h => ⟨_, (PSs.nox (pss_one (ps_ret (pe_op u_fdiv (pe_op op_sub (pe_op (u_add (K := K)) (pv 0) (pe_globI rfl T.g_CHUNK_OCTETS)) pe_int) (pe_globI rfl T.g_CHUNK_OCTETS))))), ?_⟩)
  · obtain ⟨s, rfl, _⟩ := h
    rfl
  · obtain ⟨s, rfl, h0, h1, q⟩ := h
    have e : s + 16 - 1 = s + 15 := by omega
    refine ⟨_, rfl, .inl ⟨_, _, rfl, rfl, _, _, rfl, rfl, _, _, rfl, rfl, ⟨by decide, by decide⟩, ?_⟩⟩
    rw [e]
    exact q
end
end K12
/-! records are made, or refused -/
namespace K12
open PySem PySem.Spec PyProof.Rows L2 VB BM
abbrev fnE : List (List Str) := [["seq", "tail", "is_cleaning"], ["tail", "count"], ["deed", "at", "of", "node", "what", "size", "chunks", "until"], ["deed", "at", "of", "directory", "name", "node", "until"], ["deed", "at", "of", "node", "index", "octets", "until"], ["deed", "at", "of", "name", "is_kept", "until"]]
abbrev FnMD (K : PySem.W.Frag) (m q : Str) (st : Stmt) (f : Addr) (fd : FuncData) : Prop := FunD K m q (defArgs st) (defBody st) (defScope st) [.int 0] [] f fd
/-- what is looked at of the classes -/
structure Rk (K : PySem.W.Frag) : Prop where
  cls : ∀ i, i < 6 → Cls K (Kl K i)
  no : ∀ i, i < 6 → ∀ f ∈ fnE.getD i [], NoAttr K (Kl K i) f
  ins : ∀ i, i < 6 → InsC K (Kl K i)
  kit : ∀ i j, i < 6 → j < 6 → PySem.W.kitOne K (.ref (Kl K i)) (.ref (Kl K j)) = some (decide (i = j))
  kitB : ∀ t ∈ tys, ∀ j, j < 6 → PySem.W.kitOne K t (.ref (Kl K j)) = some false
abbrev Er (K : PySem.W.Frag) (x : Str) : Addr := He.ga K x
/-- an error of the class x with a value is what comes -/
def Rz (K : PySem.W.Frag) (x : Str) (v : V) (H : Hp) (E : XK) : Prop := ∀ (d : Addr) (H' : Hp), Evl.Ex H H' → H' d = none → E (.ref (Er K x)) (some d) (upd H' d (.xd [("given", v)]))
theorem Rz.ex {K : PySem.W.Frag} {x : Str} {v : V} {H H' : Hp} {E : XK} (h : Rz K x v H E) (e : Evl.Ex H H') : Rz K x v H' E := fun d H2 e2 nd => h d H2 (e.trans e2) nd
def isL (c : Nat) : Bool := decide (97 ≤ c) && decide (c ≤ 122)
def nmB (x : Str) : Bool := decide (1 ≤ x.cps.size) && (decide (x.cps.size ≤ 8) && x.cps.toList.all isL)
theorem isL_iff {c : Nat} : isL c = true ↔ 97 ≤ c ∧ c ≤ 122 := by
  unfold isL
  rw [Bool.and_eq_true, decide_eq_true_eq, decide_eq_true_eq]
theorem nmB_iff {x : Str} : nmB x = true ↔ Nm x := by
  unfold nmB Nm
  rw [Bool.and_eq_true, Bool.and_eq_true, decide_eq_true_eq, decide_eq_true_eq, List.all_eq_true]
  exact ⟨fun ⟨h1, h2, h3⟩ => ⟨h1, h2, fun c hc => isL_iff.mp (h3 c hc)⟩, fun ⟨h1, h2, h3⟩ => ⟨h1, h2, fun c hc => isL_iff.mpr (h3 c hc)⟩⟩
section
variable {P : Program} {w : World} {K : PySem.W.Frag} {mg : Str → Option Value} {base : Heap} {f : Addr} {fd : FuncData} {fN fM : Addr}
def spName (K : PySem.W.Frag) : Sp := fun vs H Q _ => ∃ x : Str, vs = [.str x] ∧ x.cps.size ≤ 1000 ∧ RV (.bl (nmB x)) H Q
theorem ok_name (T : Txt K mg) (F : FnP K "is_name" s_is_name f fd) : Fg P w K mg base CX0 1 f fd ["value"] (spName K) := by
  refine fg_of F sc_is_name (fun vs H Q E h => ?_) (fun cdv A outer s H vs Q E hr h => ⟨_, (PSs.nox (pss_one (ps_ret (pe_and (pe_callB (u_isi (K := K)) (by rfl) T.f_isinstance (by decide +kernel) (pa_cons (pv 0) (pa_cons (pe_bltn (v := .ty "str") rfl T.f_str (by decide +kernel) rfl) pa_nil))) (pe_and (pe_chain op_le op_le pe_int (pe_callB (u_len (K := K)) (by rfl) T.f_len (by decide +kernel) (pa_cons (pv 0) pa_nil)) (pe_globI rfl T.g_MOST_LETTERS)) (pe_one (pe_callB (u_all (K := K) rfl) (by rfl) T.f_all (by decide +kernel) (pa_cons (pe_lc (own := [("sign", 1)]) rfl sc_is_name.nd (pi_str (pv 0)) (blkOk_by (own := [("sign", 1)]) (N := ["value", "sign"]) (sc := defScope s_is_name) (by decide +kernel)) (fun _ _ _ _ _ => (pg_name (i := 1) sc_is_name.nd rfl (by first | exact Or.inl rfl | exact Or.inr rfl))) (fun _ _ _ _ _ => pts_nil) (fun _ _ _ _ _ => (pe_cmpR L2.op_inS (pv 1) (pe_globS rfl T.g_LETTERS) (by rfl)))) pa_nil)))))))), ?_⟩)
  · obtain ⟨x, rfl, _⟩ := h
    rfl
  · obtain ⟨x, rfl, hl, q⟩ := h
    refine ⟨_, rfl, _, _, _, _, true, rfl, .ty _, .base (.str x), kit_ty (by decide +kernel), true, rfl, iteT ?_⟩
    have hz : x.length ≤ sizeLine := Nat.le_trans (show x.length ≤ 1000 from hl) (by decide)
    have g1 : decide ((1 : Int) ≤ (x.length : Int)) = decide (1 ≤ x.cps.size) := decide_eq_decide.mpr (by show (1 : Int) ≤ (x.cps.size : Int) ↔ _; omega)
    have g8 : decide ((x.length : Int) ≤ (8 : Int)) = decide (x.cps.size ≤ 8) := decide_eq_decide.mpr (by show (x.cps.size : Int) ≤ 8 ↔ _; omega)
    refine ⟨_, rfl, .str x, x.length, rfl, ⟨hz, rfl⟩, _, _, rfl, rfl, _, rfl, ?_⟩
    rw [g1]
    have q1 := q
    unfold nmB at q1
    refine ite2 (fun h1 => ⟨_, _, rfl, rfl, _, congrArg V.bl g8, ?_⟩) (fun (h1 : ¬ decide (1 ≤ x.cps.size) = true) => ?_)
    · have h1 : decide (1 ≤ x.cps.size) = true := h1
      rw [h1, Bool.true_and] at q1
      refine ite2 (fun h8 => ?_) (fun (h8 : ¬ decide (x.cps.size ≤ 8) = true) => ?_)
      · have h8 : decide (x.cps.size ≤ 8) = true := h8
        rw [h8, Bool.true_and] at q1
        refine ⟨_, rfl, x, rfl, fun D hD => ?_⟩
        refine lc_pureVS (us := x.cps.toList.map fun c => V.bl (isL c)) walk_chs (fun _ _ => trivial) (by simp) (by omega) hD (fun _ => rfl) ?_ ?_
        · intro i y u H' Q' hy hu ex k
          obtain ⟨c, hc', rfl⟩ : ∃ c, x.cps.toList[i]? = some c ∧ y = V.str ⟨#[c]⟩ := by
            unfold chs at hy
            rw [List.getElem?_map] at hy
            obtain ⟨c, h2, rfl⟩ := Option.map_eq_some_iff.mp hy
            exact ⟨c, h2, rfl⟩
          rw [List.getElem?_map, hc'] at hu
          obtain rfl : V.bl (isL c) = u := Option.some.inj hu
          refine ⟨_, rfl, c, _, rfl, rfl, ?_⟩
          have hm : decide (c ∈ ("abcdefghijklmnopqrstuvwxyz" : Str).cps.toList) = isL c := by
            have e : ("abcdefghijklmnopqrstuvwxyz" : Str).cps.toList = (List.range 26).map (97 + ·) := by decide +kernel
            rw [e, Bool.eq_iff_iff, isL_iff, decide_eq_true_eq, List.mem_map]
            exact ⟨fun ⟨a, ha, ea⟩ => by have := List.mem_range.mp ha; omega, fun ⟨h1, h2⟩ => ⟨c - 97, List.mem_range.mpr (by omega), by omega⟩⟩
          rw [hm]
          exact k _ (Evl.Ex.refl _)
        · intro H' ex h3
          refine ⟨D, x.cps.toList.map isL, rfl, SqL.of (by rw [h3, List.map_map]; rfl), ?_⟩
          have e : (x.cps.toList.map isL).all id = x.cps.toList.all isL := by
            rw [List.all_map]
            rfl
          rw [e]
          exact q1 _ ex
      · rw [Bool.eq_false_iff.mpr h8, Bool.false_and] at q1
        exact q1 _ (Evl.Ex.refl _)
    · rw [Bool.eq_false_iff.mpr h1, Bool.false_and] at q1
      exact ⟨_, rfl, iteF (q1 _ (Evl.Ex.refl _))⟩
def spChkN (K : PySem.W.Frag) : Sp := fun vs H Q E => ∃ (v : V) (l g : Int), vs = [v, .int l, .int g] ∧ Val K H v ∧ (isIx v l g = true → Q .non H) ∧ (isIx v l g = false → Rz K "InvalidNumber" v H E)
theorem ok_chkN (T : Txt K mg) (E_InvalidNumber : MkE P w K mg base "InvalidNumber" "given" (Er K "InvalidNumber") fN) (F : FnP K "_check_number" s__check_number f fd) (C_is_int_from : Cal P w K mg base CX0 2 "is_int_from" ["value", "least", "greatest"] (spIntFrom K)) : Fg P w K mg base (CX P w) 4 f fd ["value", "least", "greatest"] (spChkN K) := by
  refine fg_of F sc__check_number (fun vs H Q E h => ?_) (fun cdv A outer s H vs Q E hr h => ⟨_, ((pss_one (ps_if (pt_not (pt_tru (K := K) (pe_cal C_is_int_from hr.le pass0 (pa_cons (pv 0) (pa_cons (pv 1) (pa_cons (pv 2) pa_nil)))) (by intro _; rfl)))
  (pss_one (ps_raiseE E_InvalidNumber hr (takes_of rfl rfl rfl rfl) rfl (pa_cons (pv 0) pa_nil))) pss_nil))), ?_⟩)
  · obtain ⟨v, l, g, rfl, _⟩ := h
    rfl
  · obtain ⟨v, l, g, rfl, hv, q, qE⟩ := h
    refine ⟨_, rfl, _, rfl, _, rfl, _, l, g, rfl, hv, ⟨_, rfl, ?_⟩⟩
    cases ho : isIx v l g with
    | true => exact iteF (q ho)
    | false => exact iteT ⟨_, rfl, made E_InvalidNumber.err.oex E_InvalidNumber.err.noG fun x nd => qE ho x _ (Evl.Ex.refl _) nd⟩
theorem nn {i : Int} (h0 : 0 ≤ i) (h : i ≤ 4294967295) : i.natAbs < 10 ^ 20 := by omega
theorem isIx_iff {i lo hi : Int} : isIx (.int i) lo hi = true ↔ lo ≤ i ∧ i ≤ hi := by
  show (decide (lo ≤ i) && decide (i ≤ hi)) = true ↔ _
  rw [Bool.and_eq_true, decide_eq_true_eq, decide_eq_true_eq]
/-- what any refused argument ends in -/
abbrev Rf (K : PySem.W.Frag) (H : Hp) (E : XK) : Prop := ∀ v, Rz K "InvalidNumber" v H E ∧ Rz K "InvalidName" v H E
theorem Rf.ex {H H' : Hp} {E : XK} (h : Rf K H E) (e : Evl.Ex H H') : Rf K H' E := fun v => ⟨(h v).1.ex e, (h v).2.ex e⟩
abbrev M32 (i : Int) : Prop := 0 ≤ i ∧ i ≤ 4294967295
theorem vi {v : Int} {H : Hp} (hv : M32 v) : Val K H (.int v) := bl_int v (nn hv.1 hv.2)
theorem ixy {i lo hi : Int} (h : isIx (.int i) lo hi = true) : lo ≤ i ∧ i ≤ hi := isIx_iff.mp h
theorem ixn {i lo hi : Int} (h : isIx (.int i) lo hi = false) : ¬ (lo ≤ i ∧ i ≤ hi) := fun z => by rw [isIx_iff.mpr z] at h; cases h
def spChkNm (K : PySem.W.Frag) : Sp := fun vs H Q E => ∃ x : Str, vs = [.str x] ∧ x.cps.size ≤ 1000 ∧ (Nm x → RV .non H Q) ∧ (¬ Nm x → Rz K "InvalidName" (.str x) H E)
theorem ok_chkNm (T : Txt K mg) (E_InvalidName : MkE P w K mg base "InvalidName" "given" (Er K "InvalidName") fM) (F : FnP K "_check_name" s__check_name f fd) (C_is_name : Cal P w K mg base CX0 1 "is_name" ["value"] (spName K)) : Fg P w K mg base (CX P w) 4 f fd ["value"] (spChkNm K) := by
  refine fg_of F sc__check_name (fun vs H Q E h => ?_) (fun cdv A outer s H vs Q E hr h => ⟨_, ((pss_one (ps_if (pt_not (pt_tru (K := K) (pe_cal C_is_name hr.le pass0 (pa_cons (pv 0) pa_nil)) (by intro _; rfl)))
  (pss_one (ps_raiseE E_InvalidName hr (takes_of rfl rfl rfl rfl) rfl (pa_cons (pv 0) pa_nil))) pss_nil))), ?_⟩)
  · obtain ⟨x, rfl, _⟩ := h
    rfl
  · obtain ⟨x, rfl, hx, q, qE⟩ := h
    refine ⟨_, rfl, x, rfl, hx, fun H1 e1 => ⟨_, rfl, ?_⟩⟩
    cases ho : nmB x with
    | true => exact iteF (q (nmB_iff.mp ho) H1 e1)
    | false => exact iteT ⟨_, rfl, made E_InvalidName.err.oex E_InvalidName.err.noG fun y nd => qE (fun z => by rw [nmB_iff.mpr z] at ho; cases ho) y _ e1 nd⟩
def spChkS (K : PySem.W.Frag) : Sp := fun vs H Q E => ∃ d a o : Int, vs = [.int d, .int a, .int o] ∧ M32 d ∧ M32 a ∧ M32 o ∧ (Stamp d a o → Q .non H) ∧ (¬ Stamp d a o → Rf K H E)
theorem ok_chkS (T : Txt K mg) (F : FnP K "_check_stamp" s__check_stamp f fd) (C__check_number : Cal P w K mg base (CX P w) 4 "_check_number" ["value", "least", "greatest"] (spChkN K)) : Fg P w K mg base (CX P w) 5 f fd ["deed", "at", "of"] (spChkS K) := by
  refine fg_of F sc__check_stamp (fun vs H Q E h => ?_) (fun cdv A outer s H vs Q E hr h => ⟨_, ((pss_cons (ps_expr (pe_cal C__check_number hr.le (passes_call (takes_of rfl rfl rfl rfl) (fun _ _ _ _ h => h)) (pa_cons (pv 0) (pa_cons pe_int (pa_cons (pe_globI rfl T.g_MOST_NUMBER) pa_nil)))))
  (pss_cons (ps_expr (pe_cal C__check_number hr.le (passes_call (takes_of rfl rfl rfl rfl) (fun _ _ _ _ h => h)) (pa_cons (pv 1) (pa_cons pe_int (pa_cons (pe_op op_sub (pe_globI rfl T.g_MOST_RECORDS) pe_int) pa_nil)))))
  (pss_one (ps_expr (pe_cal C__check_number hr.le (passes_call (takes_of rfl rfl rfl rfl) (fun _ _ _ _ h => h)) (pa_cons (pv 2) (pa_cons (pe_ifExp (pt_cmpR (u_eq (K := K) hr) (pv 1) pe_int (nomark _)) pe_int (pe_op (u_add (K := K)) (pv 1) pe_int)) (pa_cons (pe_globI rfl T.g_MOST_RECORDS) pa_nil))))))))), ?_⟩)
  · obtain ⟨d, a, o, rfl, _⟩ := h
    rfl
  · obtain ⟨d, a, o, rfl, hd, ha, ho, q, qE⟩ := h
    refine ⟨_, rfl, _, _, _, rfl, vi hd, fun z1 => ?_, fun z => (qE (fun s => ixn z ⟨s.1, s.2.1⟩) _).1⟩
    obtain ⟨h1, h2⟩ := ixy z1
    refine ⟨_, rfl, _, _, rfl, rfl, _, _, _, rfl, vi ha, fun z2 => ?_, fun z => (qE (fun s => ixn z ⟨s.2.2.1, s.2.2.2.1⟩) _).1⟩
    obtain ⟨h3, h4⟩ := ixy z2
    refine ⟨_, rfl, _, rfl, .inl ⟨rfl, _, rfl, ?_⟩⟩
    by_cases a0 : a = 0
    · subst a0
      refine iteT ⟨_, _, _, rfl, vi ho, fun z3 => q ⟨h1, h2, h3, h4, by rw [if_pos rfl]; exact (ixy z3).1, (ixy z3).2⟩, fun z => (qE (fun s => ixn z ⟨?_, s.2.2.2.2.2⟩) _).1⟩
      have := s.2.2.2.2.1
      rw [if_pos rfl] at this
      exact this
    · have e : decide (V.int a = V.int 0) = false := decide_eq_false fun z => a0 (V.int.inj z)
      rw [e]
      refine iteF ⟨_, rfl, .inl ⟨_, _, rfl, rfl, _, _, _, rfl, vi ho, fun z3 => q ⟨h1, h2, h3, h4, by rw [if_neg a0]; exact (ixy z3).1, (ixy z3).2⟩, fun z => (qE (fun s => ixn z ⟨?_, s.2.2.2.2.2⟩) _).1⟩⟩
      have := s.2.2.2.2.1
      rw [if_neg a0] at this
      exact this
def spChkU (K : PySem.W.Frag) : Sp := fun vs H Q E => ∃ u d o : Int, vs = [.int u, .int d, .int o] ∧ M32 u ∧ M32 d ∧ (Until d o u → Q .non H) ∧ (¬ Until d o u → Rf K H E)
theorem ok_chkU (T : Txt K mg) (F : FnP K "_check_until" s__check_until f fd) (C__check_number : Cal P w K mg base (CX P w) 4 "_check_number" ["value", "least", "greatest"] (spChkN K)) (C_is_int_from : Cal P w K mg base CX0 2 "is_int_from" ["value", "least", "greatest"] (spIntFrom K)) : Fg P w K mg base (CX P w) 5 f fd ["until", "deed", "of"] (spChkU K) := by
  refine fg_of F sc__check_until (fun vs H Q E h => ?_) (fun cdv A outer s H vs Q E hr h => ⟨_, ((pss_one (ps_if (PW.pt (pw_or (pt_cmpR op_gt (pv 2) pe_int (nomark _)) (pw_or1 (pt_not (pt_tru (K := K) (pe_cal C_is_int_from hr.le pass0 (pa_cons (pv 0) (pa_cons (pe_op (u_add (K := K)) (pv 1) pe_int) (pa_cons (pe_globI rfl T.g_MOST_NUMBER) pa_nil)))) (by intro _; rfl))))))
  (pss_one (ps_expr (pe_cal C__check_number hr.le (passes_call (takes_of rfl rfl rfl rfl) (fun _ _ _ _ h => h)) (pa_cons (pv 0) (pa_cons pe_int (pa_cons pe_int pa_nil)))))) pss_nil))), ?_⟩)
  · obtain ⟨u, d, o, rfl, _⟩ := h
    rfl
  · obtain ⟨u, d, o, rfl, hu, hd, q, qE⟩ := h
    have zero : (¬ u = 0 → ¬ Until d o u) → (tDrop (tCall (spChkN K) [] E (tCons (tVar 0) (tCons (tC (V.int 0)) (tCons (tC (V.int 0)) tNil))))) { nx := fun x H' => Q V.non H', rt := Q } [some (.int u), some (.int d), some (.int o)] H := fun nz => ⟨_, rfl, _, _, _, rfl, vi hu, fun z => q (.inl (by have := ixy z; omega)), fun z => (qE (nz fun e => ixn z (by omega)) _).1⟩
    refine ⟨_, rfl, _, _, rfl, rfl, _, rfl, ?_⟩
    by_cases o0 : 0 < o
    · have e : decide ((0 : Int) < o) = true := decide_eq_true o0
      rw [e]
      refine iteT (zero fun nz h => ?_)
      rcases h with h | ⟨h, _⟩
      · exact nz h
      · omega
    · have e : decide ((0 : Int) < o) = false := decide_eq_false o0
      rw [e]
      refine iteF ⟨_, rfl, _, rfl, .inl ⟨_, _, rfl, rfl, .int u, d + 1, 4294967295, rfl, bl_int u (nn hu.1 hu.2), ⟨_, rfl, ?_⟩⟩⟩
      cases hi : isIx (V.int u) (d + 1) 4294967295 with
      | true =>
        obtain ⟨h1, h2⟩ := isIx_iff.mp hi
        exact iteF (q (.inr ⟨by omega, h1, h2⟩))
      | false =>
        refine iteT (zero fun nz h => ?_)
        rcases h with h | ⟨_, h1, h2⟩
        · exact nz h
        · rw [isIx_iff.mpr ⟨h1, h2⟩] at hi
          cases hi
end
end K12
/-! records are made, or refused -/
namespace K12
open PySem PySem.Spec PyProof.Rows L2 VB BM
/-- numbers in four octets, names not too long, sixteen octets -/
def Lo : Rc → Prop
  | .head seq tail _ => M32 seq ∧ M32 tail
  | .sl tail count => M32 tail ∧ M32 count
  | .node d a o n w s c u => M32 d ∧ M32 a ∧ M32 o ∧ M32 n ∧ M32 w ∧ M32 s ∧ M32 c ∧ M32 u
  | .name d a o dir nm n u => M32 d ∧ M32 a ∧ M32 o ∧ M32 dir ∧ nm.cps.size ≤ 1000 ∧ M32 n ∧ M32 u
  | .chunk d a o n ix os u => M32 d ∧ M32 a ∧ M32 o ∧ M32 n ∧ M32 ix ∧ Oct os ∧ os.length = 16 ∧ M32 u
  | .keep d a o nm _ u => M32 d ∧ M32 a ∧ M32 o ∧ nm.cps.size ≤ 1000 ∧ M32 u
section
variable {P : Program} {w : World} {K : PySem.W.Frag} {mg : Str → Option Value} {base : Heap} {f : Addr} {fd : FuncData} {fN fM : Addr}
/-- what an __init__ leaves -/
def After (K : PySem.W.Frag) (H : Hp) (x dx : Addr) (r : Rc) (Q : VK) : Prop := ∀ (H' : Hp) (t : V), Exb x H H' → H' x = some (.ins (Kl K r.ix) dx (fls t r)) → OcT H' t r → Q .non H'
def spIni (K : PySem.W.Frag) (i : Nat) : Sp := fun vs H Q E => ∃ (x dx : Addr) (t : V) (r : Rc), vs = .ref x :: (rowV t r).tail ∧ r.ix = i ∧ Lo r ∧ H x = some (.ins (Kl K i) dx []) ∧ (∀ d a o n ix os u, r = .chunk d a o n ix os u → ∃ p : Addr, t = .ref p ∧ (H p = some (.tup (IV os)) ∨ H p = some (.lst (IV os)))) ∧ (Good r → After K H x dx r Q) ∧ (¬ Good r → Rf K H E)
theorem ini_len {i n : Nat} (h : ∀ t r, Rc.ix r = i → (rowV t r).tail.length + 1 = n) : ∀ vs H Q E, spIni K i vs H Q E → vs.length = n := by
  rintro vs H Q E ⟨x, dx, t, r, rfl, e, _⟩
  exact h t r e
theorem pls {f : Str} {v : V} : ∀ {fs : List (Str × V)} {n : Nat}, fs.length ≤ n → (putF f v fs).length ≤ n + 1
  | [], n, _ => by
    show 1 ≤ n + 1
    omega
  | (g, x) :: r, n, h => by
    have h : r.length + 1 ≤ n := h
    unfold putF
    split
    · show r.length + 1 ≤ n + 1
      omega
    · have := pls (f := f) (v := v) (fs := r) (n := n - 1) (by omega)
      show (putF f v r).length + 1 ≤ n + 1
      omega
theorem plt {fs : List (Str × V)} {n : Nat} (h : fs.length ≤ n) (hn : n ≤ 20 := by decide) : fs.length < 1000 := by omega
theorem ini_head (T : Txt K mg) (R : Rk K) (F : FnM K "__init__" "Head.__init__" s_Head____init__ f fd) (C__check_number : Cal P w K mg base (CX P w) 4 "_check_number" ["value", "least", "greatest"] (spChkN K)) (C__check_flag : Cal P w K mg base CX0 1 "_check_flag" ["value"] spChkF) : Fg P w K mg base (CX P w) 7 f fd ["self", "seq", "tail", "is_cleaning"] (spIni K 0) := by
  refine fg_of F sc_Head____init__ (ini_len fun t r e => by cases r <;> first | rfl | cases e) (fun cdv A outer s H vs Q E hr h => ⟨_, ((pss_cons (ps_expr (pe_cal C__check_number hr.le (passes_call (takes_of rfl rfl rfl rfl) (fun _ _ _ _ h => h)) (pa_cons (pv 1) (pa_cons pe_int (pa_cons (pe_globI rfl T.g_MOST_NUMBER) pa_nil)))))
  (pss_cons (ps_expr (pe_cal C__check_number hr.le (passes_call (takes_of rfl rfl rfl rfl) (fun _ _ _ _ h => h)) (pa_cons (pv 2) (pa_cons pe_int (pa_cons (pv 1) pa_nil)))))
  (pss_cons (ps_expr (pe_cal C__check_flag hr.le pass0 (pa_cons (pv 3) pa_nil)))
  (pss_cons (ps_fldU (K := K) (pv 0) (pv 1) rfl)
  (pss_cons (ps_fldU (K := K) (pv 0) (pv 2) rfl)
  (pss_one (ps_fldU (K := K) (pv 0) (pv 3) rfl)))))))), ?_⟩)
  obtain ⟨x, dx, t, r, rfl, e, lo, hx, ho, q, bad⟩ := h
  cases r with
  | head seq tail b =>
    obtain ⟨l1, l2⟩ := lo
    have c := R.cls 0 (by decide)
    have n := R.no 0 (by decide)
    refine ⟨_, rfl, .int seq, 1, 4294967295, rfl, vi l1, fun z1 => ?_, fun z => (bad (fun g => ixn z ⟨by have := g.1; have := g.2.1; omega, g.2.2⟩) _).1⟩
    have k1 := ixy z1
    refine ⟨_, rfl, _, rfl, .int tail, 1, seq, rfl, vi l2, fun z2 => ?_, fun z => (bad (fun g => ixn z ⟨g.1, g.2.1⟩) _).1⟩
    have k2 := ixy z2
    refine ⟨_, rfl, b, rfl, ?_⟩
    refine ⟨_, rfl, _, rfl, x, _, dx, _, rfl, hx, c, n _ (by simp), plt (Nat.le_refl 0), ?_⟩
    refine ⟨_, rfl, _, rfl, x, _, dx, _, rfl, upd_same, c, n _ (by simp), plt (pls (Nat.le_refl 0)), ?_⟩
    refine ⟨_, rfl, _, rfl, x, _, dx, _, rfl, upd_same, c, n _ (by simp), plt (pls (pls (Nat.le_refl 0))), ?_⟩
    exact q ⟨k2.1, k2.2, k1.2⟩ _ .non (Exb.upd.trans (Exb.upd.trans Exb.upd)) upd_same trivial
  | _ => cases e
theorem ini_seal (T : Txt K mg) (R : Rk K) (F : FnM K "__init__" "Seal.__init__" s_Seal____init__ f fd) (C__check_number : Cal P w K mg base (CX P w) 4 "_check_number" ["value", "least", "greatest"] (spChkN K)) : Fg P w K mg base (CX P w) 7 f fd ["self", "tail", "count"] (spIni K 1) := by
  refine fg_of F sc_Seal____init__ (ini_len fun t r e => by cases r <;> first | rfl | cases e) (fun cdv A outer s H vs Q E hr h => ⟨_, ((pss_cons (ps_expr (pe_cal C__check_number hr.le (passes_call (takes_of rfl rfl rfl rfl) (fun _ _ _ _ h => h)) (pa_cons (pv 1) (pa_cons pe_int (pa_cons (pe_globI rfl T.g_MOST_NUMBER) pa_nil)))))
  (pss_cons (ps_expr (pe_cal C__check_number hr.le (passes_call (takes_of rfl rfl rfl rfl) (fun _ _ _ _ h => h)) (pa_cons (pv 2) (pa_cons pe_int (pa_cons (pe_globI rfl T.g_MOST_MOVED) pa_nil)))))
  (pss_cons (ps_fldU (K := K) (pv 0) (pv 1) rfl)
  (pss_one (ps_fldU (K := K) (pv 0) (pv 2) rfl)))))), ?_⟩)
  obtain ⟨x, dx, t, r, rfl, e, lo, hx, ho, q, bad⟩ := h
  cases r with
  | sl tail count =>
    obtain ⟨l1, l2⟩ := lo
    have c := R.cls 1 (by decide)
    have n := R.no 1 (by decide)
    refine ⟨_, rfl, .int tail, 1, 4294967295, rfl, vi l1, fun z1 => ?_, fun z => (bad (fun g => ixn z ⟨g.1, g.2.1⟩) _).1⟩
    have k1 := ixy z1
    refine ⟨_, rfl, .int count, 0, 14, rfl, vi l2, fun z2 => ?_, fun z => (bad (fun g => ixn z ⟨g.2.2.1, g.2.2.2⟩) _).1⟩
    have k2 := ixy z2
    refine ⟨_, rfl, _, rfl, x, _, dx, _, rfl, hx, c, n _ (by simp), plt (Nat.le_refl 0), ?_⟩
    refine ⟨_, rfl, _, rfl, x, _, dx, _, rfl, upd_same, c, n _ (by simp), plt (pls (Nat.le_refl 0)), ?_⟩
    exact q ⟨k1.1, k1.2, k2.1, k2.2⟩ _ .non (Exb.upd.trans Exb.upd) upd_same trivial
  | _ => cases e
theorem ini_name (T : Txt K mg) (R : Rk K) (E_InvalidNumber : MkE P w K mg base "InvalidNumber" "given" (Er K "InvalidNumber") fN) (F : FnMD K "__init__" "Name.__init__" s_Name____init__ f fd) (C__check_number : Cal P w K mg base (CX P w) 4 "_check_number" ["value", "least", "greatest"] (spChkN K)) (C__check_stamp : Cal P w K mg base (CX P w) 5 "_check_stamp" ["deed", "at", "of"] (spChkS K)) (C__check_until : Cal P w K mg base (CX P w) 5 "_check_until" ["until", "deed", "of"] (spChkU K)) (C__check_name : Cal P w K mg base (CX P w) 4 "_check_name" ["value"] (spChkNm K)) : Fg P w K mg base (CX P w) 7 f fd ["self", "deed", "at", "of", "directory", "name", "node", "until"] (spIni K 3) := by
  refine fg_of F sc_Name____init__ (ini_len fun t r e => by cases r <;> first | rfl | cases e) (fun cdv A outer s H vs Q E hr h => ⟨_, ((pss_cons (ps_expr (pe_cal C__check_stamp hr.le (passes_call (takes_of rfl rfl rfl rfl) (fun _ _ _ _ h => h)) (pa_cons (pv 1) (pa_cons (pv 2) (pa_cons (pv 3) pa_nil)))))
  (pss_cons (ps_expr (pe_cal C__check_number hr.le (passes_call (takes_of rfl rfl rfl rfl) (fun _ _ _ _ h => h)) (pa_cons (pv 4) (pa_cons (pe_globI rfl T.g_ROOT) (pa_cons (pe_globI rfl T.g_MOST_ID) pa_nil)))))
  (pss_cons (ps_expr (pe_cal C__check_name hr.le (passes_call (takes_of rfl rfl rfl rfl) (fun _ _ _ _ h => h)) (pa_cons (pv 5) pa_nil)))
  (pss_cons (ps_if (pt_cmpR (u_eq (K := K) hr) (pv 6) (pe_globI rfl T.g_ROOT) (nomark _))
  (pss_one (ps_raiseE E_InvalidNumber hr (takes_of rfl rfl rfl rfl) rfl (pa_cons (pv 6) pa_nil))) pss_nil)
  (pss_cons (ps_expr (pe_cal C__check_number hr.le (passes_call (takes_of rfl rfl rfl rfl) (fun _ _ _ _ h => h)) (pa_cons (pv 6) (pa_cons (pe_globI rfl T.g_NO_NODE) (pa_cons (pe_globI rfl T.g_MOST_ID) pa_nil)))))
  (pss_cons (ps_expr (pe_cal C__check_until hr.le (passes_call (takes_of rfl rfl rfl rfl) (fun _ _ _ _ h => h)) (pa_cons (pv 7) (pa_cons (pv 1) (pa_cons (pv 3) pa_nil)))))
  (pss_cons (ps_fldU (K := K) (pv 0) (pv 1) rfl)
  (pss_cons (ps_fldU (K := K) (pv 0) (pv 2) rfl)
  (pss_cons (ps_fldU (K := K) (pv 0) (pv 3) rfl)
  (pss_cons (ps_fldU (K := K) (pv 0) (pv 4) rfl)
  (pss_cons (ps_fldU (K := K) (pv 0) (pv 5) rfl)
  (pss_cons (ps_fldU (K := K) (pv 0) (pv 6) rfl)
  (pss_one (ps_fldU (K := K) (pv 0) (pv 7) rfl))))))))))))))), ?_⟩)
  obtain ⟨x, dx, t, r, rfl, e, lo, hx, ho, q, bad⟩ := h
  cases r with
  | name d a o dir nm m u =>
    obtain ⟨l1, l2, l3, l4, l5, l6, l7⟩ := lo
    have c := R.cls 3 (by decide)
    have n := R.no 3 (by decide)
    refine ⟨_, rfl, _, rfl, _, rfl, d, a, o, rfl, l1, l2, l3, fun gs => ?_, fun z => bad fun g => z g.1⟩
    refine ⟨_, rfl, .int dir, 1, 65535, rfl, vi l4, fun z1 => ?_, fun z => (bad (fun g => ixn z ⟨g.2.1, g.2.2.1⟩) _).1⟩
    have k1 := ixy z1
    refine ⟨_, rfl, nm, rfl, l5, fun gm H0 e0 => ?_, fun z => (bad (fun g => z g.2.2.2.1) _).2⟩
    have hx := e0 _ _ hx
    refine ⟨_, rfl, .inl ⟨rfl, _, rfl, ?_⟩⟩
    by_cases g3 : m = 1
    · rw [decide_eq_true (congrArg V.int g3)]
      exact iteT ⟨_, rfl, made E_InvalidNumber.err.oex E_InvalidNumber.err.noG fun y nd => (((bad (fun g => g.2.2.2.2.1 g3)).ex e0) _).1 y _ (Evl.Ex.refl _) nd⟩
    rw [decide_eq_false (fun z => g3 (V.int.inj z))]
    refine iteF ⟨_, rfl, .int m, 0, 65535, rfl, vi l6, fun z2 => ?_, fun z => (((bad (fun g => ixn z ⟨g.2.2.2.2.2.1, g.2.2.2.2.2.2.1⟩)).ex e0) _).1⟩
    have k2 := ixy z2
    refine ⟨_, rfl, _, rfl, _, rfl, u, d, o, rfl, l7, l1, fun gu => ?_, fun z => (bad fun g => z g.2.2.2.2.2.2.2).ex e0⟩
    refine ⟨_, rfl, _, rfl, x, _, dx, _, rfl, hx, c, n _ (by simp), plt (Nat.le_refl 0), ?_⟩
    refine ⟨_, rfl, _, rfl, x, _, dx, _, rfl, upd_same, c, n _ (by simp), plt (pls (Nat.le_refl 0)), ?_⟩
    refine ⟨_, rfl, _, rfl, x, _, dx, _, rfl, upd_same, c, n _ (by simp), plt (pls (pls (Nat.le_refl 0))), ?_⟩
    refine ⟨_, rfl, _, rfl, x, _, dx, _, rfl, upd_same, c, n _ (by simp), plt (pls (pls (pls (Nat.le_refl 0)))), ?_⟩
    refine ⟨_, rfl, _, rfl, x, _, dx, _, rfl, upd_same, c, n _ (by simp), plt (pls (pls (pls (pls (Nat.le_refl 0))))), ?_⟩
    refine ⟨_, rfl, _, rfl, x, _, dx, _, rfl, upd_same, c, n _ (by simp), plt (pls (pls (pls (pls (pls (Nat.le_refl 0)))))), ?_⟩
    refine ⟨_, rfl, _, rfl, x, _, dx, _, rfl, upd_same, c, n _ (by simp), plt (pls (pls (pls (pls (pls (pls (Nat.le_refl 0))))))), ?_⟩
    exact q ⟨gs, k1.1, k1.2, gm, g3, k2.1, k2.2, gu⟩ _ .non ((Exb.of e0).trans (Exb.upd.trans (Exb.upd.trans (Exb.upd.trans (Exb.upd.trans (Exb.upd.trans (Exb.upd.trans Exb.upd))))))) upd_same trivial
  | _ => cases e
theorem ini_keep (T : Txt K mg) (R : Rk K) (F : FnMD K "__init__" "Keep.__init__" s_Keep____init__ f fd) (C__check_stamp : Cal P w K mg base (CX P w) 5 "_check_stamp" ["deed", "at", "of"] (spChkS K)) (C__check_until : Cal P w K mg base (CX P w) 5 "_check_until" ["until", "deed", "of"] (spChkU K)) (C__check_name : Cal P w K mg base (CX P w) 4 "_check_name" ["value"] (spChkNm K)) (C__check_flag : Cal P w K mg base CX0 1 "_check_flag" ["value"] spChkF) : Fg P w K mg base (CX P w) 7 f fd ["self", "deed", "at", "of", "name", "is_kept", "until"] (spIni K 5) := by
  refine fg_of F sc_Keep____init__ (ini_len fun t r e => by cases r <;> first | rfl | cases e) (fun cdv A outer s H vs Q E hr h => ⟨_, ((pss_cons (ps_expr (pe_cal C__check_stamp hr.le (passes_call (takes_of rfl rfl rfl rfl) (fun _ _ _ _ h => h)) (pa_cons (pv 1) (pa_cons (pv 2) (pa_cons (pv 3) pa_nil)))))
  (pss_cons (ps_expr (pe_cal C__check_name hr.le (passes_call (takes_of rfl rfl rfl rfl) (fun _ _ _ _ h => h)) (pa_cons (pv 4) pa_nil)))
  (pss_cons (ps_expr (pe_cal C__check_flag hr.le pass0 (pa_cons (pv 5) pa_nil)))
  (pss_cons (ps_expr (pe_cal C__check_until hr.le (passes_call (takes_of rfl rfl rfl rfl) (fun _ _ _ _ h => h)) (pa_cons (pv 6) (pa_cons (pv 1) (pa_cons (pv 3) pa_nil)))))
  (pss_cons (ps_fldU (K := K) (pv 0) (pv 1) rfl)
  (pss_cons (ps_fldU (K := K) (pv 0) (pv 2) rfl)
  (pss_cons (ps_fldU (K := K) (pv 0) (pv 3) rfl)
  (pss_cons (ps_fldU (K := K) (pv 0) (pv 4) rfl)
  (pss_cons (ps_fldU (K := K) (pv 0) (pv 5) rfl)
  (pss_one (ps_fldU (K := K) (pv 0) (pv 6) rfl)))))))))))), ?_⟩)
  obtain ⟨x, dx, t, r, rfl, e, lo, hx, ho, q, bad⟩ := h
  cases r with
  | keep d a o nm b u =>
    obtain ⟨l1, l2, l3, l4, l5⟩ := lo
    have c := R.cls 5 (by decide)
    have n := R.no 5 (by decide)
    refine ⟨_, rfl, _, rfl, _, rfl, d, a, o, rfl, l1, l2, l3, fun gs => ?_, fun z => bad fun g => z g.1⟩
    refine ⟨_, rfl, nm, rfl, l4, fun gm H0 e0 => ?_, fun z => (bad (fun g => z g.2.1) _).2⟩
    have hx := e0 _ _ hx
    refine ⟨_, rfl, b, rfl, ?_⟩
    refine ⟨_, rfl, _, rfl, _, rfl, u, d, o, rfl, l5, l1, fun gu => ?_, fun z => (bad fun g => z g.2.2).ex e0⟩
    refine ⟨_, rfl, _, rfl, x, _, dx, _, rfl, hx, c, n _ (by simp), plt (Nat.le_refl 0), ?_⟩
    refine ⟨_, rfl, _, rfl, x, _, dx, _, rfl, upd_same, c, n _ (by simp), plt (pls (Nat.le_refl 0)), ?_⟩
    refine ⟨_, rfl, _, rfl, x, _, dx, _, rfl, upd_same, c, n _ (by simp), plt (pls (pls (Nat.le_refl 0))), ?_⟩
    refine ⟨_, rfl, _, rfl, x, _, dx, _, rfl, upd_same, c, n _ (by simp), plt (pls (pls (pls (Nat.le_refl 0)))), ?_⟩
    refine ⟨_, rfl, _, rfl, x, _, dx, _, rfl, upd_same, c, n _ (by simp), plt (pls (pls (pls (pls (Nat.le_refl 0))))), ?_⟩
    refine ⟨_, rfl, _, rfl, x, _, dx, _, rfl, upd_same, c, n _ (by simp), plt (pls (pls (pls (pls (pls (Nat.le_refl 0)))))), ?_⟩
    exact q ⟨gs, gm, gu⟩ _ .non ((Exb.of e0).trans (Exb.upd.trans (Exb.upd.trans (Exb.upd.trans (Exb.upd.trans (Exb.upd.trans Exb.upd)))))) upd_same trivial
  | _ => cases e
theorem ini_node (T : Txt K mg) (R : Rk K) (F : FnMD K "__init__" "Node.__init__" s_Node____init__ f fd) (C__check_number : Cal P w K mg base (CX P w) 4 "_check_number" ["value", "least", "greatest"] (spChkN K)) (C__check_stamp : Cal P w K mg base (CX P w) 5 "_check_stamp" ["deed", "at", "of"] (spChkS K)) (C__check_until : Cal P w K mg base (CX P w) 5 "_check_until" ["until", "deed", "of"] (spChkU K)) (C_chunk_count : Cal P w K mg base CX0 1 "chunk_count" ["size"] spCount) : Fg P w K mg base (CX P w) 7 f fd ["self", "deed", "at", "of", "node", "what", "size", "chunks", "until"] (spIni K 2) := by
  refine fg_of F sc_Node____init__ (ini_len fun t r e => by cases r <;> first | rfl | cases e) (fun cdv A outer s H vs Q E hr h => ⟨_, ((pss_cons (ps_expr (pe_cal C__check_stamp hr.le (passes_call (takes_of rfl rfl rfl rfl) (fun _ _ _ _ h => h)) (pa_cons (pv 1) (pa_cons (pv 2) (pa_cons (pv 3) pa_nil)))))
  (pss_cons (ps_expr (pe_cal C__check_number hr.le (passes_call (takes_of rfl rfl rfl rfl) (fun _ _ _ _ h => h)) (pa_cons (pv 4) (pa_cons (pe_op (u_add (K := K)) (pe_globI rfl T.g_ROOT) pe_int) (pa_cons (pe_globI rfl T.g_MOST_ID) pa_nil)))))
  (pss_cons (ps_expr (pe_cal C__check_number hr.le (passes_call (takes_of rfl rfl rfl rfl) (fun _ _ _ _ h => h)) (pa_cons (pv 5) (pa_cons (pe_globI rfl T.g_GONE) (pa_cons (pe_globI rfl T.g_DIRECTORY) pa_nil)))))
  (pss_cons (ps_expr (pe_cal C__check_number hr.le (passes_call (takes_of rfl rfl rfl rfl) (fun _ _ _ _ h => h)) (pa_cons (pv 6) (pa_cons pe_int (pa_cons (pe_ifExp (pt_cmpR (u_eq (K := K) hr) (pv 5) (pe_globI rfl T.g_FILE) (nomark _)) (pe_globI rfl T.g_MOST_SIZE) pe_int) pa_nil)))))
  (pss_cons (ps_expr (pe_cal C__check_number hr.le (passes_call (takes_of rfl rfl rfl rfl) (fun _ _ _ _ h => h)) (pa_cons (pv 7) (pa_cons pe_int (pa_cons (pe_op op_sub (pe_op (op_oneShl.or op_shl) pe_int (pe_cal C_chunk_count hr.le pass0 (pa_cons (pv 6) pa_nil))) pe_int) pa_nil)))))
  (pss_cons (ps_expr (pe_cal C__check_until hr.le (passes_call (takes_of rfl rfl rfl rfl) (fun _ _ _ _ h => h)) (pa_cons (pv 8) (pa_cons (pv 1) (pa_cons (pv 3) pa_nil)))))
  (pss_cons (ps_fldU (K := K) (pv 0) (pv 1) rfl)
  (pss_cons (ps_fldU (K := K) (pv 0) (pv 2) rfl)
  (pss_cons (ps_fldU (K := K) (pv 0) (pv 3) rfl)
  (pss_cons (ps_fldU (K := K) (pv 0) (pv 4) rfl)
  (pss_cons (ps_fldU (K := K) (pv 0) (pv 5) rfl)
  (pss_cons (ps_fldU (K := K) (pv 0) (pv 6) rfl)
  (pss_cons (ps_fldU (K := K) (pv 0) (pv 7) rfl)
  (pss_one (ps_fldU (K := K) (pv 0) (pv 8) rfl)))))))))))))))), ?_⟩)
  obtain ⟨x, dx, t, r, rfl, e, lo, hx, ho, q, bad⟩ := h
  cases r with
  | node d a o m v s k u =>
    obtain ⟨l1, l2, l3, l4, l5, l6, l7, l8⟩ := lo
    have c := R.cls 2 (by decide)
    have n := R.no 2 (by decide)
    refine ⟨_, rfl, _, rfl, _, rfl, d, a, o, rfl, l1, l2, l3, fun gs => ?_, fun z => bad fun g => z g.1⟩
    refine ⟨_, rfl, .inl ⟨_, _, rfl, rfl, .int m, 2, 65535, rfl, vi l4, fun z1 => ?_, fun z => (bad (fun g => ixn z ⟨g.2.1, g.2.2.1⟩) _).1⟩⟩
    have k1 := ixy z1
    refine ⟨_, rfl, .int v, 0, 2, rfl, vi l5, fun z2 => ?_, fun z => (bad (fun g => ixn z ⟨g.2.2.2.1, g.2.2.2.2.1⟩) _).1⟩
    have k2 := ixy z2
    have g5 := l6.1
    have ek : V.int ((s + 15) / 16) = V.int (((s + 15) / 16).toNat : Nat) := by
      congr 1
      omega
    refine ⟨_, rfl, _, rfl, .inl ⟨rfl, _, rfl, ?_⟩⟩
    by_cases g6 : s ≤ (if v = 1 then 96 else 0)
    case neg =>
      by_cases v1 : v = 1
      · rw [decide_eq_true (show V.int v = V.int 1 by rw [v1])]
        exact iteT ⟨.int s, 0, 96, rfl, vi l6, fun z3 => absurd (by rw [if_pos v1]; exact (ixy z3).2) g6, fun z => (bad (fun g => g6 g.2.2.2.2.2.2.1) _).1⟩
      · rw [decide_eq_false (fun z => v1 (V.int.inj z))]
        exact iteF ⟨.int s, 0, 0, rfl, vi l6, fun z3 => absurd (by rw [if_neg v1]; exact (ixy z3).2) g6, fun z => (bad (fun g => g6 g.2.2.2.2.2.2.1) _).1⟩
    apply once
    · intro rest
      by_cases v1 : v = 1
      · rw [decide_eq_true (show V.int v = V.int 1 by rw [v1])]
        exact iteT ⟨.int s, 0, 96, rfl, vi l6, fun z3 => rest, fun z => absurd ⟨g5, by rw [if_pos v1] at g6; exact g6⟩ (ixn z)⟩
      · rw [decide_eq_false (fun z => v1 (V.int.inj z))]
        exact iteF ⟨.int s, 0, 0, rfl, vi l6, fun z3 => rest, fun z => absurd ⟨g5, by rw [if_neg v1] at g6; exact g6⟩ (ixn z)⟩
    have s96 : s ≤ 96 := by
      split at g6 <;> omega
    have k6 : ((s + 15) / 16).toNat ≤ 6 := by omega
    have m63 : most s ≤ 63 := by
      have := Nat.pow_le_pow_right (show 0 < 2 by decide) k6
      unfold most
      have h2 : ((2 : Nat) ^ ((s + 15) / 16).toNat : Int) ≤ (2 : Nat) ^ 6 := by exact_mod_cast this
      have h3 : ((2 : Nat) ^ 6 : Int) = 64 := by decide
      have h4 : ((2 : Nat) : Int) = 2 := rfl
      rw [h4] at h2 h3
      omega
    refine ⟨_, rfl, _, rfl, s, rfl, g5, s96, .inl ⟨((s + 15) / 16).toNat, rfl, ek, by omega, _, _, rfl, rfl, .int k, 0, _, rfl, vi l7, fun z4 => ?_, fun z => (bad (fun g => ixn z ⟨l7.1, g.2.2.2.2.2.2.2.2.1⟩) _).1⟩⟩
    have k4 := ixy z4
    refine ⟨_, rfl, _, rfl, _, rfl, u, d, o, rfl, l8, l1, fun gu => ?_, fun z => (bad fun g => z g.2.2.2.2.2.2.2.2.2)⟩
    refine ⟨_, rfl, _, rfl, x, _, dx, _, rfl, hx, c, n _ (by simp), plt (Nat.le_refl 0), ?_⟩
    refine ⟨_, rfl, _, rfl, x, _, dx, _, rfl, upd_same, c, n _ (by simp), plt (pls (Nat.le_refl 0)), ?_⟩
    refine ⟨_, rfl, _, rfl, x, _, dx, _, rfl, upd_same, c, n _ (by simp), plt (pls (pls (Nat.le_refl 0))), ?_⟩
    refine ⟨_, rfl, _, rfl, x, _, dx, _, rfl, upd_same, c, n _ (by simp), plt (pls (pls (pls (Nat.le_refl 0)))), ?_⟩
    refine ⟨_, rfl, _, rfl, x, _, dx, _, rfl, upd_same, c, n _ (by simp), plt (pls (pls (pls (pls (Nat.le_refl 0))))), ?_⟩
    refine ⟨_, rfl, _, rfl, x, _, dx, _, rfl, upd_same, c, n _ (by simp), plt (pls (pls (pls (pls (pls (Nat.le_refl 0)))))), ?_⟩
    refine ⟨_, rfl, _, rfl, x, _, dx, _, rfl, upd_same, c, n _ (by simp), plt (pls (pls (pls (pls (pls (pls (Nat.le_refl 0))))))), ?_⟩
    refine ⟨_, rfl, _, rfl, x, _, dx, _, rfl, upd_same, c, n _ (by simp), plt (pls (pls (pls (pls (pls (pls (pls (Nat.le_refl 0)))))))), ?_⟩
    exact q ⟨gs, k1.1, k1.2, k2.1, k2.2, g5, g6, l7.1, k4.2, gu⟩ _ .non (Exb.upd.trans (Exb.upd.trans (Exb.upd.trans (Exb.upd.trans (Exb.upd.trans (Exb.upd.trans (Exb.upd.trans Exb.upd))))))) upd_same trivial
  | _ => cases e
theorem ini_chunk (T : Txt K mg) (R : Rk K) (F : FnMD K "__init__" "Chunk.__init__" s_Chunk____init__ f fd) (C__check_number : Cal P w K mg base (CX P w) 4 "_check_number" ["value", "least", "greatest"] (spChkN K)) (C__check_stamp : Cal P w K mg base (CX P w) 5 "_check_stamp" ["deed", "at", "of"] (spChkS K)) (C__check_until : Cal P w K mg base (CX P w) 5 "_check_until" ["until", "deed", "of"] (spChkU K)) (C_is_octets_of : Cal P w K mg base CX0 3 "is_octets_of" ["value", "count"] (spOctOf K)) : Fg P w K mg base (CX P w) 7 f fd ["self", "deed", "at", "of", "node", "index", "octets", "until"] (spIni K 4) := by
  refine fg_of F sc_Chunk____init__ (ini_len fun t r e => by cases r <;> first | rfl | cases e) (fun cdv A outer s H vs Q E hr h => ⟨_, ((pss_cons (ps_expr (pe_cal C__check_stamp hr.le (passes_call (takes_of rfl rfl rfl rfl) (fun _ _ _ _ h => h)) (pa_cons (pv 1) (pa_cons (pv 2) (pa_cons (pv 3) pa_nil)))))
  (pss_cons (ps_expr (pe_cal C__check_number hr.le (passes_call (takes_of rfl rfl rfl rfl) (fun _ _ _ _ h => h)) (pa_cons (pv 4) (pa_cons (pe_op (u_add (K := K)) (pe_globI rfl T.g_ROOT) pe_int) (pa_cons (pe_globI rfl T.g_MOST_ID) pa_nil)))))
  (pss_cons (ps_expr (pe_cal C__check_number hr.le (passes_call (takes_of rfl rfl rfl rfl) (fun _ _ _ _ h => h)) (pa_cons (pv 5) (pa_cons pe_int (pa_cons (pe_op op_sub (pe_globI rfl T.g_MOST_CHUNKS) pe_int) pa_nil)))))
  (pss_cons (ps_if (pt_not (pt_tru (K := K) (pe_cal C_is_octets_of hr.le pass0 (pa_cons (pv 6) (pa_cons (pe_globI rfl T.g_CHUNK_OCTETS) pa_nil))) (by intro _; rfl)))
  (pss_one ps_never) pss_nil)
  (pss_cons (ps_expr (pe_cal C__check_until hr.le (passes_call (takes_of rfl rfl rfl rfl) (fun _ _ _ _ h => h)) (pa_cons (pv 7) (pa_cons (pv 1) (pa_cons (pv 3) pa_nil)))))
  (pss_cons (ps_fldU (K := K) (pv 0) (pv 1) rfl)
  (pss_cons (ps_fldU (K := K) (pv 0) (pv 2) rfl)
  (pss_cons (ps_fldU (K := K) (pv 0) (pv 3) rfl)
  (pss_cons (ps_fldU (K := K) (pv 0) (pv 4) rfl)
  (pss_cons (ps_fldU (K := K) (pv 0) (pv 5) rfl)
  (pss_cons (ps_fldU (K := K) (pv 0) (pe_callTy (u_tup (K := K)) (by rfl) T.f_tuple (by decide +kernel) (pa_cons (pv 6) pa_nil)) rfl)
  (pss_one (ps_fldU (K := K) (pv 0) (pv 7) rfl)))))))))))))), ?_⟩)
  obtain ⟨x, dx, t, r, rfl, e, lo, hx, ho, q, bad⟩ := h
  cases r with
  | chunk d a o m ix os u =>
    obtain ⟨l1, l2, l3, l4, l5, go, gl, l8⟩ := lo
    have c := R.cls 4 (by decide)
    have n := R.no 4 (by decide)
    obtain ⟨p, rfl, hp⟩ := ho _ _ _ _ _ _ _ rfl
    have px : p ≠ x := fun z => by
      rw [z, hx] at hp
      rcases hp with z | z <;> cases z
    obtain ⟨tt, S⟩ : ∃ tt, Sv tt K H p (IV os) := by
      rcases hp with z | z
      · exact ⟨true, Sv.tup z⟩
      · exact ⟨false, Sv.lst z⟩
    refine ⟨_, rfl, _, rfl, _, rfl, d, a, o, rfl, l1, l2, l3, fun gs => ?_, fun z => bad fun g => z g.1⟩
    refine ⟨_, rfl, .inl ⟨_, _, rfl, rfl, .int m, 2, 65535, rfl, vi l4, fun z1 => ?_, fun z => (bad (fun g => ixn z ⟨g.2.1, g.2.2.1⟩) _).1⟩⟩
    have k1 := ixy z1
    refine ⟨_, rfl, _, _, rfl, rfl, .int ix, 0, 6 - 1, rfl, vi l5, fun z2 => ?_, fun z => (bad (fun g => ixn z ⟨g.2.2.2.1, g.2.2.2.2.1⟩) _).1⟩
    have k2 := ixy z2
    refine ⟨_, rfl, p, os, tt, 16, rfl, S, go, by omega, by omega, fun H0 e0 => ⟨true, rfl, iteF ?_⟩⟩
    have hx := e0 _ _ hx
    have hp := hp.imp (e0 _ _) (e0 _ _)
    refine ⟨_, rfl, _, rfl, _, rfl, u, d, o, rfl, l8, l1, fun gu => ?_, fun z => (bad fun g => z g.2.2.2.2.2.2.2).ex e0⟩
    refine ⟨_, rfl, _, rfl, x, _, dx, _, rfl, hx, c, n _ (by simp), plt (Nat.le_refl 0), ?_⟩
    refine ⟨_, rfl, _, rfl, x, _, dx, _, rfl, upd_same, c, n _ (by simp), plt (pls (Nat.le_refl 0)), ?_⟩
    refine ⟨_, rfl, _, rfl, x, _, dx, _, rfl, upd_same, c, n _ (by simp), plt (pls (pls (Nat.le_refl 0))), ?_⟩
    refine ⟨_, rfl, _, rfl, x, _, dx, _, rfl, upd_same, c, n _ (by simp), plt (pls (pls (pls (Nat.le_refl 0)))), ?_⟩
    refine ⟨_, rfl, _, rfl, x, _, dx, _, rfl, upd_same, c, n _ (by simp), plt (pls (pls (pls (pls (Nat.le_refl 0))))), ?_⟩
    have fin : ∀ (q0 : Addr) (H6 : Hp), Exb x H0 H6 → H6 x = some (.ins (Kl K 4) dx (putF "index" (.int ix) (putF "node" (.int m) (putF "of" (.int o) (putF "at" (.int a) (putF "deed" (.int d) [])))))) → H6 q0 = some (.tup (IV os)) → q0 ≠ x →
        sFld K (tVar 0) (tVar 7) "until" { nx := fun x H' => Q V.non H', rt := Q } [some (.ref x), some (.int d), some (.int a), some (.int o), some (.int m), some (.int ix), some (.ref p), some (.int u)] (upd H6 x (.ins (Kl K 4) dx (putF "octets" (.ref q0) (putF "index" (.int ix) (putF "node" (.int m) (putF "of" (.int o) (putF "at" (.int a) (putF "deed" (.int d) [])))))))) := fun q0 H6 e6 h6 hq nq => by
      refine ⟨_, rfl, _, rfl, x, _, dx, _, rfl, upd_same, c, n _ (by simp), plt (pls (pls (pls (pls (pls (pls (Nat.le_refl 0))))))), ?_⟩
      exact q ⟨gs, k1.1, k1.2, k2.1, k2.2, go, gl, gu⟩ _ (.ref q0) ((Exb.of e0).trans (e6.trans (Exb.upd.trans Exb.upd))) upd_same ⟨q0, rfl, by rw [upd_ne nq, upd_ne nq]; exact hq⟩
    have E5 : Exb x H0 (upd (upd (upd (upd (upd H0 x (.ins (Kl K 4) dx (putF "deed" (.int d) []))) x (.ins (Kl K 4) dx (putF "at" (.int a) (putF "deed" (.int d) [])))) x (.ins (Kl K 4) dx (putF "of" (.int o) (putF "at" (.int a) (putF "deed" (.int d) []))))) x (.ins (Kl K 4) dx (putF "node" (.int m) (putF "of" (.int o) (putF "at" (.int a) (putF "deed" (.int d) [])))))) x (.ins (Kl K 4) dx (putF "index" (.int ix) (putF "node" (.int m) (putF "of" (.int o) (putF "at" (.int a) (putF "deed" (.int d) []))))))) := Exb.upd.trans (Exb.upd.trans (Exb.upd.trans (Exb.upd.trans Exb.upd)))
    have hp5 := hp.imp (E5 _ _ px) (E5 _ _ px)
    have h5 := upd_same (H := upd (upd (upd (upd H0 x (.ins (Kl K 4) dx (putF "deed" (.int d) []))) x (.ins (Kl K 4) dx (putF "at" (.int a) (putF "deed" (.int d) [])))) x (.ins (Kl K 4) dx (putF "of" (.int o) (putF "at" (.int a) (putF "deed" (.int d) []))))) x (.ins (Kl K 4) dx (putF "node" (.int m) (putF "of" (.int o) (putF "at" (.int a) (putF "deed" (.int d) [])))))) (a := x) (o := .ins (Kl K 4) dx (putF "index" (.int ix) (putF "node" (.int m) (putF "of" (.int o) (putF "at" (.int a) (putF "deed" (.int d) []))))))
    refine ⟨_, rfl, p, IV os, rfl, ?_⟩
    rcases hp5 with z | z
    · exact .inr ⟨SqT.of z, _, rfl, x, _, dx, _, rfl, h5, c, n _ (by simp), plt (pls (pls (pls (pls (pls (Nat.le_refl 0)))))), fin p _ E5 h5 z px⟩
    · refine .inl ⟨SqL.of z, fun l nl => ?_⟩
      have yl := Evl.Ex.new (o := .tup (IV os)) nl
      have lx : l ≠ x := fun w => by rw [w, h5] at nl; cases nl
      exact ⟨_, rfl, x, _, dx, _, rfl, yl _ _ h5, c, n _ (by simp), plt (pls (pls (pls (pls (pls (Nat.le_refl 0)))))), fin l _ (E5.trans (Exb.of yl)) (yl _ _ h5) upd_same lx⟩
  | _ => cases e
end
end K12
/-! facts, keys, parts -/
namespace K12
open PySem PySem.Spec PyProof.Rows L2 VB BM
def facV (t : V) : Rc → List V
  | .node _ _ _ n w s c _ => [.str "node", .int n, .int w, .int s, .int c]
  | .name _ _ _ dir nm n _ => [.str "name", .int dir, .str nm, .int n]
  | .chunk _ _ _ n ix _ _ => [.str "chunk", .int n, .int ix, t]
  | .keep _ _ _ nm b _ => [.str "keep", .str nm, .bl b]
  | _ => []
def Rc.dd : Rc → Int
  | .node d .. => d
  | .name d .. => d
  | .chunk d .. => d
  | .keep d .. => d
  | _ => 0
def Rc.aa : Rc → Int
  | .node _ a .. => a
  | .name _ a .. => a
  | .chunk _ a .. => a
  | .keep _ a .. => a
  | _ => 0
def Rc.oo : Rc → Int
  | .node _ _ o .. => o
  | .name _ _ o .. => o
  | .chunk _ _ o .. => o
  | .keep _ _ o .. => o
  | _ => 0
def Rc.uu : Rc → Int
  | .node _ _ _ _ _ _ _ u => u
  | .name _ _ _ _ _ _ u => u
  | .chunk _ _ _ _ _ _ u => u
  | .keep _ _ _ _ _ u => u
  | _ => 0
section
variable {P : Program} {w : World} {K : PySem.W.Frag} {mg : Str → Option Value} {base : Heap} {f : Addr} {fd : FuncData}
def spFact (K : PySem.W.Frag) (i : Nat) : Sp := fun vs H Q _ => ∃ (a dx : Addr) (t : V) (r : Rc), vs = [.ref a] ∧ r.ix = i ∧ H a = some (.ins (Kl K i) dx (fls t r)) ∧ RT (facV t r) H Q
theorem fact_node (T : Txt K mg) (R : Rk K) (F : FnM K "fact" "Node.fact" s_Node__fact f fd) : Fg P w K mg base CX0 1 f fd ["self"] (spFact K 2) := by
  refine fg_of F sc_Node__fact (fun vs H Q E h => ?_) (fun cdv A outer s₀ H vs Q E hr h => ⟨_, (PSs.nox (pss_one (ps_ret (pe_tup (pa_cons pe_str (pa_cons (pe_fldU (K := K) (pv 0) rfl) (pa_cons (pe_fldU (K := K) (pv 0) rfl) (pa_cons (pe_fldU (K := K) (pv 0) rfl) (pa_cons (pe_fldU (K := K) (pv 0) rfl) pa_nil))))))))), ?_⟩)
  · obtain ⟨a, dx, t, r, rfl, _⟩ := h
    rfl
  · obtain ⟨a, dx, t, r, rfl, e, ea, q⟩ := h
    have c := R.cls 2 (by decide)
    have n := R.no 2 (by decide)
    cases r with
    | node d a0 o m v s k u => exact ⟨_, rfl, a, _, dx, _, _, rfl, ea, c, n _ (by simp), rfl, _, rfl, a, _, dx, _, _, rfl, ea, c, n _ (by simp), rfl, _, rfl, a, _, dx, _, _, rfl, ea, c, n _ (by simp), rfl, _, rfl, a, _, dx, _, _, rfl, ea, c, n _ (by simp), rfl, by show 5 ≤ sizeLine; decide, fun p np => q p _ np (Evl.Ex.new np) upd_same⟩
    | _ => cases e
theorem fact_name (T : Txt K mg) (R : Rk K) (F : FnM K "fact" "Name.fact" s_Name__fact f fd) : Fg P w K mg base CX0 1 f fd ["self"] (spFact K 3) := by
  refine fg_of F sc_Name__fact (fun vs H Q E h => ?_) (fun cdv A outer s₀ H vs Q E hr h => ⟨_, (PSs.nox (pss_one (ps_ret (pe_tup (pa_cons pe_str (pa_cons (pe_fldU (K := K) (pv 0) rfl) (pa_cons (pe_fldU (K := K) (pv 0) rfl) (pa_cons (pe_fldU (K := K) (pv 0) rfl) pa_nil)))))))), ?_⟩)
  · obtain ⟨a, dx, t, r, rfl, _⟩ := h
    rfl
  · obtain ⟨a, dx, t, r, rfl, e, ea, q⟩ := h
    have c := R.cls 3 (by decide)
    have n := R.no 3 (by decide)
    cases r with
    | name d a0 o dir nm m u => exact ⟨_, rfl, a, _, dx, _, _, rfl, ea, c, n _ (by simp), rfl, _, rfl, a, _, dx, _, _, rfl, ea, c, n _ (by simp), rfl, _, rfl, a, _, dx, _, _, rfl, ea, c, n _ (by simp), rfl, by show 4 ≤ sizeLine; decide, fun p np => q p _ np (Evl.Ex.new np) upd_same⟩
    | _ => cases e
theorem fact_chunk (T : Txt K mg) (R : Rk K) (F : FnM K "fact" "Chunk.fact" s_Chunk__fact f fd) : Fg P w K mg base CX0 1 f fd ["self"] (spFact K 4) := by
  refine fg_of F sc_Chunk__fact (fun vs H Q E h => ?_) (fun cdv A outer s₀ H vs Q E hr h => ⟨_, (PSs.nox (pss_one (ps_ret (pe_tup (pa_cons pe_str (pa_cons (pe_fldU (K := K) (pv 0) rfl) (pa_cons (pe_fldU (K := K) (pv 0) rfl) (pa_cons (pe_fldU (K := K) (pv 0) rfl) pa_nil)))))))), ?_⟩)
  · obtain ⟨a, dx, t, r, rfl, _⟩ := h
    rfl
  · obtain ⟨a, dx, t, r, rfl, e, ea, q⟩ := h
    have c := R.cls 4 (by decide)
    have n := R.no 4 (by decide)
    cases r with
    | chunk d a0 o m ix os u => exact ⟨_, rfl, a, _, dx, _, _, rfl, ea, c, n _ (by simp), rfl, _, rfl, a, _, dx, _, _, rfl, ea, c, n _ (by simp), rfl, _, rfl, a, _, dx, _, _, rfl, ea, c, n _ (by simp), rfl, by show 4 ≤ sizeLine; decide, fun p np => q p _ np (Evl.Ex.new np) upd_same⟩
    | _ => cases e
theorem fact_keep (T : Txt K mg) (R : Rk K) (F : FnM K "fact" "Keep.fact" s_Keep__fact f fd) : Fg P w K mg base CX0 1 f fd ["self"] (spFact K 5) := by
  refine fg_of F sc_Keep__fact (fun vs H Q E h => ?_) (fun cdv A outer s₀ H vs Q E hr h => ⟨_, (PSs.nox (pss_one (ps_ret (pe_tup (pa_cons pe_str (pa_cons (pe_fldU (K := K) (pv 0) rfl) (pa_cons (pe_fldU (K := K) (pv 0) rfl) pa_nil))))))), ?_⟩)
  · obtain ⟨a, dx, t, r, rfl, _⟩ := h
    rfl
  · obtain ⟨a, dx, t, r, rfl, e, ea, q⟩ := h
    have c := R.cls 5 (by decide)
    have n := R.no 5 (by decide)
    cases r with
    | keep d a0 o nm b u => exact ⟨_, rfl, a, _, dx, _, _, rfl, ea, c, n _ (by simp), rfl, _, rfl, a, _, dx, _, _, rfl, ea, c, n _ (by simp), rfl, by show 3 ≤ sizeLine; decide, fun p np => q p _ np (Evl.Ex.new np) upd_same⟩
    | _ => cases e
def spParts (K : PySem.W.Frag) : Sp := fun vs H Q _ => ∃ (a dx : Addr) (t : V) (r : Rc), vs = [.ref a] ∧ 2 ≤ r.ix ∧ H a = some (.ins (Kl K r.ix) dx (fls t r)) ∧ ∀ (p pf : Addr) (H' : Hp), Evl.Ex H H' → H' pf = some (.tup (facV t r)) → H' p = some (.tup [.int r.dd, .int r.aa, .int r.oo, .ref pf, .int r.uu]) → Q (.ref p) H'
abbrev FctM (P : Program) (w : World) (K : PySem.W.Frag) (mg : Str → Option Value) (base : Heap) : Prop := ∀ i, 2 ≤ i ∧ i < 6 → CalM P w K mg base CX0 1 (Kl K i) "fact" ["self"] (spFact K i)
theorem ix_lt : ∀ r : Rc, r.ix < 6
  | .head .. => show 0 < 6 by decide
  | .sl .. => show 1 < 6 by decide
  | .node .. => show 2 < 6 by decide
  | .name .. => show 3 < 6 by decide
  | .chunk .. => show 4 < 6 by decide
  | .keep .. => show 5 < 6 by decide
theorem tree4 {p : Rc → Prop} (h1 : ∀ d a o n w s c u, p (.node d a o n w s c u)) (h2 : ∀ d a o dir nm n u, p (.name d a o dir nm n u)) (h3 : ∀ d a o n ix os u, p (.chunk d a o n ix os u)) (h4 : ∀ d a o nm b u, p (.keep d a o nm b u)) : ∀ r : Rc, 2 ≤ r.ix → p r
  | .head .., h => absurd (show 2 ≤ 0 from h) (by decide)
  | .sl .., h => absurd (show 2 ≤ 1 from h) (by decide)
  | .node .., _ => h1 ..
  | .name .., _ => h2 ..
  | .chunk .., _ => h3 ..
  | .keep .., _ => h4 ..
theorem ok_parts (T : Txt K mg) (R : Rk K) (F : FnP K "_parts" s__parts f fd) (M_fact : FctM P w K mg base) : Fg P w K mg base CX0 2 f fd ["record"] (spParts K) := by
  refine fg_of F sc__parts (fun vs H Q E h => ?_) (fun cdv A outer s₀ H vs Q E hr h => ⟨_, (PSs.nox (pss_one (ps_ret (pe_tup (pa_cons (pe_fldU (K := K) (pv 0) rfl) (pa_cons (pe_fldU (K := K) (pv 0) rfl) (pa_cons (pe_fldU (K := K) (pv 0) rfl) (pa_cons (PE.any fun i hi => pe_calM0 (M_fact i hi) hr.le pass0 (pv 0)) (pa_cons (pe_fldU (K := K) (pv 0) rfl) pa_nil))))))))), ?_⟩)
  · obtain ⟨a, dx, t, r, rfl, _⟩ := h
    rfl
  · obtain ⟨a, dx, t, r, rfl, e, ea, q⟩ := h
    have c := R.cls r.ix (ix_lt r)
    have n := R.no r.ix (ix_lt r)
    have n4 : ((("deed" : Str) ∈ fnE.getD r.ix [] ∧ ("at" : Str) ∈ fnE.getD r.ix []) ∧ ("of" : Str) ∈ fnE.getD r.ix [] ∧ ("until" : Str) ∈ fnE.getD r.ix []) :=
      tree4 (p := fun r => (("deed" : Str) ∈ fnE.getD r.ix [] ∧ ("at" : Str) ∈ fnE.getD r.ix []) ∧ ("of" : Str) ∈ fnE.getD r.ix [] ∧ ("until" : Str) ∈ fnE.getD r.ix []) (fun _ _ _ _ _ _ _ _ => by show (_ ∈ fnE.getD 2 [] ∧ _ ∈ fnE.getD 2 []) ∧ _ ∈ fnE.getD 2 [] ∧ _ ∈ fnE.getD 2 []; simp) (fun _ _ _ _ _ _ _ => by show (_ ∈ fnE.getD 3 [] ∧ _ ∈ fnE.getD 3 []) ∧ _ ∈ fnE.getD 3 [] ∧ _ ∈ fnE.getD 3 []; simp)
        (fun _ _ _ _ _ _ _ => by show (_ ∈ fnE.getD 4 [] ∧ _ ∈ fnE.getD 4 []) ∧ _ ∈ fnE.getD 4 [] ∧ _ ∈ fnE.getD 4 []; simp) (fun _ _ _ _ _ _ => by show (_ ∈ fnE.getD 5 [] ∧ _ ∈ fnE.getD 5 []) ∧ _ ∈ fnE.getD 5 [] ∧ _ ∈ fnE.getD 5 []; simp) r e
    have l4 : ((fls t r).lookup ("deed" : Str) = some (V.int r.dd) ∧ (fls t r).lookup ("at" : Str) = some (V.int r.aa)) ∧ (fls t r).lookup ("of" : Str) = some (V.int r.oo) ∧ (fls t r).lookup ("until" : Str) = some (V.int r.uu) :=
      tree4 (p := fun r => ((fls t r).lookup ("deed" : Str) = some (V.int r.dd) ∧ (fls t r).lookup ("at" : Str) = some (V.int r.aa)) ∧ (fls t r).lookup ("of" : Str) = some (V.int r.oo) ∧ (fls t r).lookup ("until" : Str) = some (V.int r.uu)) (fun _ _ _ _ _ _ _ _ => ⟨⟨rfl, rfl⟩, rfl, rfl⟩) (fun _ _ _ _ _ _ _ => ⟨⟨rfl, rfl⟩, rfl, rfl⟩) (fun _ _ _ _ _ _ _ => ⟨⟨rfl, rfl⟩, rfl, rfl⟩) (fun _ _ _ _ _ _ => ⟨⟨rfl, rfl⟩, rfl, rfl⟩) r e
    have lf : (fls t r).lookup ("fact" : Str) = none := by cases r <;> rfl
    obtain ⟨⟨n1, n2⟩, n3, n5⟩ := n4
    obtain ⟨⟨l1, l2⟩, l3, l5⟩ := l4
    refine ⟨_, rfl, a, _, dx, _, _, rfl, ea, c, n _ n1, l1, _, rfl, a, _, dx, _, _, rfl, ea, c, n _ n2, l2, _, rfl, a, _, dx, _, _, rfl, ea, c, n _ n3, l3, ?_⟩
    refine ⟨r.ix, ⟨e, ix_lt r⟩, _, rfl, a, dx, _, rfl, ea, lf, a, dx, t, r, rfl, rfl, ea, fun pf H1 np e1 h1 => ?_⟩
    refine ⟨_, rfl, a, _, dx, _, _, rfl, e1 _ _ ea, c, n _ n5, l5, by show 5 ≤ sizeLine; decide, fun p np => ?_⟩
    have y := Evl.Ex.new (o := .tup [V.int r.dd, .int r.aa, .int r.oo, .ref pf, .int r.uu]) np
    exact q p pf _ (e1.trans y) (y _ _ h1) upd_same
def spHP (K : PySem.W.Frag) : Sp := fun vs H Q _ => ∃ (a dx : Addr) (seq tail : Int) (b : Bool), vs = [.ref a] ∧ H a = some (.ins (Kl K 0) dx (fls .non (.head seq tail b))) ∧ RT [.int seq, .int tail, .bl b] H Q
theorem ok_hp (T : Txt K mg) (R : Rk K) (F : FnP K "_head_parts" s__head_parts f fd) : Fg P w K mg base CX0 1 f fd ["head"] (spHP K) := by
  refine fg_of F sc__head_parts (fun vs H Q E h => ?_) (fun cdv A outer s₀ H vs Q E hr h => ⟨_, (PSs.nox (pss_one (ps_ret (pe_tup (pa_cons (pe_fldU (K := K) (pv 0) rfl) (pa_cons (pe_fldU (K := K) (pv 0) rfl) (pa_cons (pe_fldU (K := K) (pv 0) rfl) pa_nil))))))), ?_⟩)
  · obtain ⟨a, dx, seq, tail, b, rfl, _⟩ := h
    rfl
  · obtain ⟨a, dx, seq, tail, b, rfl, ea, q⟩ := h
    have c := R.cls 0 (by decide)
    have n := R.no 0 (by decide)
    exact ⟨_, rfl, a, _, dx, _, _, rfl, ea, c, n _ (by simp), rfl, _, rfl, a, _, dx, _, _, rfl, ea, c, n _ (by simp), rfl, _, rfl, a, _, dx, _, _, rfl, ea, c, n _ (by simp), rfl, by show 3 ≤ sizeLine; decide, fun p np => q p _ np (Evl.Ex.new np) upd_same⟩
/-! ### == -/
/-- the other one: a record, or no record -/
def Od (K : PySem.W.Frag) (H : Hp) (y : V) : Option Rc → Prop
  | some r => ∃ b, y = .ref b ∧ RecAt K H b r ∧ Good r
  | none => ∃ t, t ∈ tys ∧ TyE H y t
def ans (r : Rc) : Option Rc → Bool
  | some r' => decide (r = r')
  | none => false
def isC (i : Nat) : Option Rc → Bool
  | some r => decide (r.ix = i)
  | none => false
theorem TyE.x {H : Hp} {y : V} {t : Value} (h : TyE H y t) (ht : t ∈ tys) : TyX K H y t := by
  cases h with
  | non => exact .base .non
  | bl b => exact .base (.bl b)
  | int i => exact .base (.int i)
  | str x => exact .base (.str x)
  | lst e => exact .base (.lst e)
  | tup e => exact .base (.tup e)
  | ins e => exact absurd ht (by simp)
theorem RecAt.x (R : Rk K) {H : Hp} {b : Addr} {r : Rc} (h : RecAt K H b r) : TyX K H (.ref b) (.ref (Kl K r.ix)) := by
  obtain ⟨dx, t, e, _⟩ := h
  have i := R.ins r.ix (ix_lt r)
  exact .base (.ins e (R.cls r.ix (ix_lt r)) i.ha i.hn i.htk i.hm)
theorem isi_od (R : Rk K) {H : Hp} {y : V} {o : Option Rc} (h : Od K H y o) (j : Nat) (hj : j < 6) : ∃ t, TyX K H y t ∧ PySem.W.kitOne K t (.ref (Kl K j)) = some (isC j o) := by
  cases o with
  | none =>
    obtain ⟨t, ht, ty⟩ := h
    exact ⟨t, TyE.x ty ht, R.kitB t ht j hj⟩
  | some r =>
    obtain ⟨b, rfl, h, _⟩ := h
    exact ⟨_, h.x R, R.kit r.ix j (ix_lt r) hj⟩
def spEqR (K : PySem.W.Frag) (i : Nat) : Sp := fun vs H Q _ => ∃ (a : Addr) (y : V) (r : Rc) (o : Option Rc), vs = [.ref a, y] ∧ r.ix = i ∧ RecAt K H a r ∧ Good r ∧ Od K H y o ∧ RV (.bl (ans r o)) H Q
theorem ans_no {r : Rc} {o : Option Rc} (h : isC r.ix o = false) : ans r o = false := by
  cases o with
  | none => rfl
  | some r' =>
    unfold isC at h
    unfold ans
    exact decide_eq_false fun z => (of_decide_eq_false h) (by rw [z])
theorem eq_seal (T : Txt K mg) (R : Rk K) (F : FnM K "__eq__" "Seal.__eq__" s_Seal____eq__ f fd) : Fg P w K mg base CX0 4 f fd ["self", "other"] (spEqR K 1) := by
  refine fg_of F sc_Seal____eq__ (fun vs H Q E h => ?_) (fun cdv A outer s₀ H vs Q E hr h => ⟨_, (PSs.nox (pss_one (ps_ret (pe_and (pe_callB (u_isi (K := K)) (by rfl) T.f_isinstance (by decide +kernel) (pa_cons (pv 1) (pa_cons (pe_glob (v := .ref (He.ga K "Seal")) rfl T.g_Seal rfl) pa_nil))) (pe_and (pe_cmpR (u_eq (K := K) hr) (pe_fldU (K := K) (pv 0) rfl) (pe_fldU (K := K) (pv 1) rfl) (nomark _)) (pe_one (pe_cmpR (u_eq (K := K) hr) (pe_fldU (K := K) (pv 0) rfl) (pe_fldU (K := K) (pv 1) rfl) (nomark _)))))))), ?_⟩)
  · obtain ⟨a, y, r, o, rfl, _⟩ := h
    rfl
  · obtain ⟨a, y, r, o, rfl, e, ra, g, od, q⟩ := h
    obtain ⟨ty, tx, kt⟩ := isi_od R od 1 (by decide)
    refine ⟨_, rfl, _, _, ty, _, _, rfl, .own _, tx, kt, _, rfl, ?_⟩
    cases hc : isC 1 o with
    | false =>
      refine iteF ?_
      have := ans_no (r := r) (o := o) (by rw [e]; exact hc)
      rw [this] at q
      exact q _ (Evl.Ex.refl _)
    | true =>
      cases o with
      | none => cases hc
      | some r' =>
        have e' : r'.ix = 1 := of_decide_eq_true hc
        obtain ⟨b, rfl, ⟨db, tb, eb, _⟩, gb⟩ := od
        obtain ⟨da, ta, ea, _⟩ := ra
        have c := R.cls 1 (by decide)
        have n := R.no 1 (by decide)
        cases r with
        | sl t1 c1 =>
          cases r' with
          | sl t2 c2 =>
            refine iteT ⟨_, rfl, a, _, da, _, _, rfl, ea, c, n _ (by simp), rfl, _, rfl, b, _, db, _, _, rfl, eb, c, n _ (by simp), rfl, .inl ⟨rfl, _, rfl, ?_⟩⟩
            have qe : Q (.bl (decide (Rc.sl t1 c1 = Rc.sl t2 c2))) H := q _ (Evl.Ex.refl _)
            by_cases z : t1 = t2
            · subst z
              rw [decide_eq_true rfl]
              refine iteT ⟨_, rfl, a, _, da, _, _, rfl, ea, c, n _ (by simp), rfl, _, rfl, b, _, db, _, _, rfl, eb, c, n _ (by simp), rfl, .inl ⟨rfl, ?_⟩⟩
              have : decide (V.int c1 = V.int c2) = decide (Rc.sl t1 c1 = Rc.sl t1 c2) := decide_eq_decide.mpr ⟨fun h => by rw [V.int.inj h], fun h => by cases h; rfl⟩
              show Q (.bl (decide (V.int c1 = V.int c2))) H
              rw [this]
              exact qe
            · have z1 : decide (V.int t1 = V.int t2) = false := decide_eq_false fun h => z (V.int.inj h)
              rw [z1]
              have z2 : decide (Rc.sl t1 c1 = Rc.sl t2 c2) = false := decide_eq_false fun h => z (by cases h; rfl)
              rw [z2] at qe
              exact iteF qe
          | _ => cases e'
        | _ => cases e
end
end K12
/-! == of records -/
namespace K12
open PySem PySem.Spec PyProof.Rows L2 VB BM
def facD : Rc → List PyData
  | .node _ _ _ n w s c _ => [.str "node", .int n, .int w, .int s, .int c]
  | .name _ _ _ dir nm n _ => [.str "name", .int dir, .str nm, .int n]
  | .chunk _ _ _ n ix os _ => [.str "chunk", .int n, .int ix, .tuple (os.map .int)]
  | .keep _ _ _ nm b _ => [.str "keep", .str nm, .bool b]
  | _ => []
def partD (r : Rc) : PyData := .tuple [.int r.dd, .int r.aa, .int r.oo, .tuple (facD r), .int r.uu]
theorem ev_ints : ∀ xs ys : List Int, PyData.eqvAll (xs.map .int) (ys.map .int) = decide (xs = ys)
  | [], [] => by simp [PyData.eqvAll]
  | [], y :: ys => by simp [PyData.eqvAll]
  | x :: xs, [] => by simp [PyData.eqvAll]
  | x :: xs, y :: ys => by
    rw [List.map_cons, List.map_cons, PyData.eqvAll, ev_ints xs ys, PyData.eqv]
    by_cases h1 : x = y <;> by_cases h2 : xs = ys <;> simp [h1, h2]
theorem dp_ints {K : PySem.W.Frag} {H : Hp} : ∀ xs : List Int, DpAll K H (IV xs) (xs.map .int)
  | [] => .nil
  | x :: xs => .cons (.int x) (dp_ints xs)
theorem fac_dp {K : PySem.W.Frag} {H : Hp} {t : V} {r : Rc} (h : OcT H t r) : DpAll K H (facV t r) (facD r) := by
  cases r with
  | head => exact .nil
  | sl => exact .nil
  | node d a o n w s c u => exact .cons (.str _) (.cons (.int _) (.cons (.int _) (.cons (.int _) (.cons (.int _) .nil))))
  | name d a o dir nm n u => exact .cons (.str _) (.cons (.int _) (.cons (.str _) (.cons (.int _) .nil)))
  | chunk d a o n ix os u =>
    obtain ⟨p, rfl, hp⟩ := h
    exact .cons (.str _) (.cons (.int _) (.cons (.int _) (.cons (.tup (SqT.of hp) (dp_ints os)) .nil)))
  | keep d a o nm b u => exact .cons (.str _) (.cons (.str _) (.cons (.bl _) .nil))
theorem nm_ok {x : Str} (h : Nm x) : PyData.strOk x = true := by
  unfold PyData.strOk
  rw [Array.all_eq_true]
  intro i hi
  have := h.2.2 x.cps[i] (by simp)
  exact decide_eq_true (by omega)
theorem lay_ints : ∀ xs : List Int, PyData.canLayAll0 (xs.map .int) = true
  | [] => by simp [PyData.canLayAll0]
  | x :: xs => by rw [List.map_cons, PyData.canLayAll0, PyData.canLay0, lay_ints xs]; rfl
theorem dep_ints : ∀ xs : List Int, PyData.depthAll (xs.map .int) = 0
  | [] => by simp [PyData.depthAll]
  | x :: xs => by rw [List.map_cons, PyData.depthAll, PyData.depth, dep_ints xs]; rfl
theorem strOk_c (x : Str) (h : x.cps.all (· < 1114112) = true) : PyData.strOk x = true := h
theorem part_shaped {r : Rc} (g : Good r) : SeqAt.shaped (partD r) = true := by
  unfold SeqAt.shaped
  rw [Bool.and_eq_true]
  cases r with
  | head => exact ⟨by simp [partD, facD, PyData.canLay0, PyData.canLayAll0], by simp [partD, facD, PyData.depth, PyData.depthAll]⟩
  | sl => exact ⟨by simp [partD, facD, PyData.canLay0, PyData.canLayAll0], by simp [partD, facD, PyData.depth, PyData.depthAll]⟩
  | node d a o n w s c u => exact ⟨by simp [partD, facD, PyData.canLay0, PyData.canLayAll0]; decide +kernel, by simp [partD, facD, PyData.depth, PyData.depthAll]⟩
  | name d a o dir nm n u =>
    have := nm_ok g.2.2.2.1
    exact ⟨by simp [partD, facD, PyData.canLay0, PyData.canLayAll0, this]; decide +kernel, by simp [partD, facD, PyData.depth, PyData.depthAll]⟩
  | chunk d a o n ix os u => exact ⟨by simp [partD, facD, PyData.canLay0, PyData.canLayAll0, lay_ints]; decide +kernel, by simp [partD, facD, PyData.depth, PyData.depthAll, dep_ints]⟩
  | keep d a o nm b u =>
    have := nm_ok g.2.1
    exact ⟨by simp [partD, facD, PyData.canLay0, PyData.canLayAll0, this]; decide +kernel, by simp [partD, facD, PyData.depth, PyData.depthAll]⟩
theorem part_eqv {r r' : Rc} (e : r.ix = r'.ix) (h2 : 2 ≤ r.ix) : PyData.eqv (partD r) (partD r') = decide (r = r') := by
  cases r with
  | head => exact absurd (show 2 ≤ 0 from h2) (by decide)
  | sl => exact absurd (show 2 ≤ 1 from h2) (by decide)
  | node d a o n w s c u =>
    cases r' with
    | node d' a' o' n' w' s' c' u' =>
      rw [Bool.eq_iff_iff]
      simp [partD, facD, PyData.eqv, PyData.eqvAll, Rc.dd, Rc.aa, Rc.oo, Rc.uu]
      intros
      simp only [and_assoc]
    | _ => cases e
  | name d a o dir nm n u =>
    cases r' with
    | name d' a' o' dir' nm' n' u' =>
      rw [Bool.eq_iff_iff]
      simp [partD, facD, PyData.eqv, PyData.eqvAll, Rc.dd, Rc.aa, Rc.oo, Rc.uu]
      intros
      simp only [and_assoc]
    | _ => cases e
  | chunk d a o n ix os u =>
    cases r' with
    | chunk d' a' o' n' ix' os' u' =>
      rw [Bool.eq_iff_iff]
      simp [partD, facD, PyData.eqv, PyData.eqvAll, Rc.dd, Rc.aa, Rc.oo, Rc.uu, ev_ints]
      intros
      simp only [and_assoc]
    | _ => cases e
  | keep d a o nm b u =>
    cases r' with
    | keep d' a' o' nm' b' u' =>
      rw [Bool.eq_iff_iff]
      simp [partD, facD, PyData.eqv, PyData.eqvAll, Rc.dd, Rc.aa, Rc.oo, Rc.uu]
      intros
      simp only [and_assoc]
    | _ => cases e
section
variable {P : Program} {w : World} {K : PySem.W.Frag} {mg : Str → Option Value} {base : Heap} {f : Addr} {fd : FuncData}
theorem eq_head (T : Txt K mg) (R : Rk K) (F : FnM K "__eq__" "Head.__eq__" s_Head____eq__ f fd) (C__head_parts : Cal P w K mg base CX0 1 "_head_parts" ["head"] (spHP K)) : Fg P w K mg base CX0 4 f fd ["self", "other"] (spEqR K 0) := by
  refine fg_of F sc_Head____eq__ (fun vs H Q E h => ?_) (fun cdv A outer s₀ H vs Q E hr h => ⟨_, (PSs.nox (pss_one (ps_ret (pe_and (pe_callB (u_isi (K := K)) (by rfl) T.f_isinstance (by decide +kernel) (pa_cons (pv 1) (pa_cons (pe_glob (v := .ref (He.ga K "Head")) rfl T.g_Head rfl) pa_nil))) (pe_one (pe_cmpR (u_eq (K := K) hr) (pe_cal C__head_parts hr.le pass0 (pa_cons (pv 0) pa_nil)) (pe_cal C__head_parts hr.le pass0 (pa_cons (pv 1) pa_nil)) (nomark _))))))), ?_⟩)
  · obtain ⟨a, y, r, o, rfl, _⟩ := h
    rfl
  · obtain ⟨a, y, r, o, rfl, e, ra, g, od, q⟩ := h
    obtain ⟨ty, tx, kt⟩ := isi_od R od 0 (by decide)
    refine ⟨_, rfl, _, _, ty, _, _, rfl, .own _, tx, kt, _, rfl, ?_⟩
    cases hc : isC 0 o with
    | false =>
      refine iteF ?_
      have := ans_no (r := r) (o := o) (by rw [e]; exact hc)
      rw [this] at q
      exact q _ (Evl.Ex.refl _)
    | true =>
      cases o with
      | none => cases hc
      | some r' =>
        have e' : r'.ix = 0 := of_decide_eq_true hc
        obtain ⟨b, rfl, ⟨db, tb, eb, _⟩, gb⟩ := od
        obtain ⟨da, ta, ea, _⟩ := ra
        cases r with
        | head s1 t1 c1 =>
          cases r' with
          | head s2 t2 c2 =>
            refine iteT ⟨_, rfl, a, da, s1, t1, c1, rfl, ea, fun p1 H1 n1 e1 h1 => ⟨_, rfl, b, db, s2, t2, c2, rfl, e1 _ _ eb, fun p2 H2 n2 e2 h2 => ?_⟩⟩
            refine .inr ⟨.tuple [.int s1, .int t1, .bool c1], .tuple [.int s2, .int t2, .bool c2], .tup (SqT.of (e2 _ _ h1)) (.cons (.int _) (.cons (.int _) (.cons (.bl _) .nil))), .tup (SqT.of h2) (.cons (.int _) (.cons (.int _) (.cons (.bl _) .nil))), ?_, ?_, ?_⟩
            · simp [SeqAt.shaped, PyData.canLay0, PyData.canLayAll0, PyData.depth, PyData.depthAll]
            · simp [SeqAt.shaped, PyData.canLay0, PyData.canLayAll0, PyData.depth, PyData.depthAll]
            · have ev : PyData.eqv (.tuple [.int s1, .int t1, .bool c1]) (.tuple [.int s2, .int t2, .bool c2]) = decide (Rc.head s1 t1 c1 = Rc.head s2 t2 c2) := by
                rw [Bool.eq_iff_iff]
                simp [PyData.eqv, PyData.eqvAll]
              rw [ev]
              exact q _ (e1.trans e2)
          | _ => cases e'
        | _ => cases e
theorem eq_node (T : Txt K mg) (R : Rk K) (F : FnM K "__eq__" "Node.__eq__" s_Node____eq__ f fd) (C__parts : Cal P w K mg base CX0 2 "_parts" ["record"] (spParts K)) : Fg P w K mg base CX0 4 f fd ["self", "other"] (spEqR K 2) := by
  refine fg_of F sc_Node____eq__ (fun vs H Q E h => ?_) (fun cdv A outer s₀ H vs Q E hr h => ⟨_, (PSs.nox (pss_one (ps_ret (pe_and (pe_callB (u_isi (K := K)) (by rfl) T.f_isinstance (by decide +kernel) (pa_cons (pv 1) (pa_cons (pe_glob (v := .ref (He.ga K "Node")) rfl T.g_Node rfl) pa_nil))) (pe_one (pe_cmpR (u_eq (K := K) hr) (pe_cal C__parts hr.le pass0 (pa_cons (pv 0) pa_nil)) (pe_cal C__parts hr.le pass0 (pa_cons (pv 1) pa_nil)) (nomark _))))))), ?_⟩)
  · obtain ⟨a, y, r, o, rfl, _⟩ := h
    rfl
  · obtain ⟨a, y, r, o, rfl, e, ra, g, od, q⟩ := h
    obtain ⟨ty, tx, kt⟩ := isi_od R od 2 (by decide)
    refine ⟨_, rfl, _, _, ty, _, _, rfl, .own _, tx, kt, _, rfl, ?_⟩
    cases hc : isC 2 o with
    | false =>
      refine iteF ?_
      have := ans_no (r := r) (o := o) (by rw [e]; exact hc)
      rw [this] at q
      exact q _ (Evl.Ex.refl _)
    | true =>
      cases o with
      | none => cases hc
      | some r' =>
        have e' : r'.ix = 2 := of_decide_eq_true hc
        obtain ⟨b, rfl, ⟨db, tb, eb, ob⟩, gb⟩ := od
        obtain ⟨da, ta, ea, oa⟩ := ra
        refine iteT ⟨_, rfl, a, da, ta, r, rfl, by omega, ea, fun p1 f1 H1 e1 hf1 h1 => ⟨_, rfl, b, db, tb, r', rfl, by omega, e1 _ _ eb, fun p2 f2 H2 e2 hf2 h2 => ?_⟩⟩
        refine .inr ⟨partD r, partD r', .tup (SqT.of (e2 _ _ h1)) (.cons (.int _) (.cons (.int _) (.cons (.int _) (.cons (.tup (SqT.of (e2 _ _ hf1)) (fac_dp (oa.ex (e1.trans e2)))) (.cons (.int _) .nil))))), .tup (SqT.of h2) (.cons (.int _) (.cons (.int _) (.cons (.int _) (.cons (.tup (SqT.of hf2) (fac_dp (ob.ex (e1.trans e2)))) (.cons (.int _) .nil))))), part_shaped g, part_shaped gb, ?_⟩
        rw [part_eqv (by omega) (by omega)]
        exact q _ (e1.trans e2)
theorem eq_name (T : Txt K mg) (R : Rk K) (F : FnM K "__eq__" "Name.__eq__" s_Name____eq__ f fd) (C__parts : Cal P w K mg base CX0 2 "_parts" ["record"] (spParts K)) : Fg P w K mg base CX0 4 f fd ["self", "other"] (spEqR K 3) := by
  refine fg_of F sc_Name____eq__ (fun vs H Q E h => ?_) (fun cdv A outer s₀ H vs Q E hr h => ⟨_, (PSs.nox (pss_one (ps_ret (pe_and (pe_callB (u_isi (K := K)) (by rfl) T.f_isinstance (by decide +kernel) (pa_cons (pv 1) (pa_cons (pe_glob (v := .ref (He.ga K "Name")) rfl T.g_Name rfl) pa_nil))) (pe_one (pe_cmpR (u_eq (K := K) hr) (pe_cal C__parts hr.le pass0 (pa_cons (pv 0) pa_nil)) (pe_cal C__parts hr.le pass0 (pa_cons (pv 1) pa_nil)) (nomark _))))))), ?_⟩)
  · obtain ⟨a, y, r, o, rfl, _⟩ := h
    rfl
  · obtain ⟨a, y, r, o, rfl, e, ra, g, od, q⟩ := h
    obtain ⟨ty, tx, kt⟩ := isi_od R od 3 (by decide)
    refine ⟨_, rfl, _, _, ty, _, _, rfl, .own _, tx, kt, _, rfl, ?_⟩
    cases hc : isC 3 o with
    | false =>
      refine iteF ?_
      have := ans_no (r := r) (o := o) (by rw [e]; exact hc)
      rw [this] at q
      exact q _ (Evl.Ex.refl _)
    | true =>
      cases o with
      | none => cases hc
      | some r' =>
        have e' : r'.ix = 3 := of_decide_eq_true hc
        obtain ⟨b, rfl, ⟨db, tb, eb, ob⟩, gb⟩ := od
        obtain ⟨da, ta, ea, oa⟩ := ra
        refine iteT ⟨_, rfl, a, da, ta, r, rfl, by omega, ea, fun p1 f1 H1 e1 hf1 h1 => ⟨_, rfl, b, db, tb, r', rfl, by omega, e1 _ _ eb, fun p2 f2 H2 e2 hf2 h2 => ?_⟩⟩
        refine .inr ⟨partD r, partD r', .tup (SqT.of (e2 _ _ h1)) (.cons (.int _) (.cons (.int _) (.cons (.int _) (.cons (.tup (SqT.of (e2 _ _ hf1)) (fac_dp (oa.ex (e1.trans e2)))) (.cons (.int _) .nil))))), .tup (SqT.of h2) (.cons (.int _) (.cons (.int _) (.cons (.int _) (.cons (.tup (SqT.of hf2) (fac_dp (ob.ex (e1.trans e2)))) (.cons (.int _) .nil))))), part_shaped g, part_shaped gb, ?_⟩
        rw [part_eqv (by omega) (by omega)]
        exact q _ (e1.trans e2)
theorem eq_chunk (T : Txt K mg) (R : Rk K) (F : FnM K "__eq__" "Chunk.__eq__" s_Chunk____eq__ f fd) (C__parts : Cal P w K mg base CX0 2 "_parts" ["record"] (spParts K)) : Fg P w K mg base CX0 4 f fd ["self", "other"] (spEqR K 4) := by
  refine fg_of F sc_Chunk____eq__ (fun vs H Q E h => ?_) (fun cdv A outer s₀ H vs Q E hr h => ⟨_, (PSs.nox (pss_one (ps_ret (pe_and (pe_callB (u_isi (K := K)) (by rfl) T.f_isinstance (by decide +kernel) (pa_cons (pv 1) (pa_cons (pe_glob (v := .ref (He.ga K "Chunk")) rfl T.g_Chunk rfl) pa_nil))) (pe_one (pe_cmpR (u_eq (K := K) hr) (pe_cal C__parts hr.le pass0 (pa_cons (pv 0) pa_nil)) (pe_cal C__parts hr.le pass0 (pa_cons (pv 1) pa_nil)) (nomark _))))))), ?_⟩)
  · obtain ⟨a, y, r, o, rfl, _⟩ := h
    rfl
  · obtain ⟨a, y, r, o, rfl, e, ra, g, od, q⟩ := h
    obtain ⟨ty, tx, kt⟩ := isi_od R od 4 (by decide)
    refine ⟨_, rfl, _, _, ty, _, _, rfl, .own _, tx, kt, _, rfl, ?_⟩
    cases hc : isC 4 o with
    | false =>
      refine iteF ?_
      have := ans_no (r := r) (o := o) (by rw [e]; exact hc)
      rw [this] at q
      exact q _ (Evl.Ex.refl _)
    | true =>
      cases o with
      | none => cases hc
      | some r' =>
        have e' : r'.ix = 4 := of_decide_eq_true hc
        obtain ⟨b, rfl, ⟨db, tb, eb, ob⟩, gb⟩ := od
        obtain ⟨da, ta, ea, oa⟩ := ra
        refine iteT ⟨_, rfl, a, da, ta, r, rfl, by omega, ea, fun p1 f1 H1 e1 hf1 h1 => ⟨_, rfl, b, db, tb, r', rfl, by omega, e1 _ _ eb, fun p2 f2 H2 e2 hf2 h2 => ?_⟩⟩
        refine .inr ⟨partD r, partD r', .tup (SqT.of (e2 _ _ h1)) (.cons (.int _) (.cons (.int _) (.cons (.int _) (.cons (.tup (SqT.of (e2 _ _ hf1)) (fac_dp (oa.ex (e1.trans e2)))) (.cons (.int _) .nil))))), .tup (SqT.of h2) (.cons (.int _) (.cons (.int _) (.cons (.int _) (.cons (.tup (SqT.of hf2) (fac_dp (ob.ex (e1.trans e2)))) (.cons (.int _) .nil))))), part_shaped g, part_shaped gb, ?_⟩
        rw [part_eqv (by omega) (by omega)]
        exact q _ (e1.trans e2)
theorem eq_keep (T : Txt K mg) (R : Rk K) (F : FnM K "__eq__" "Keep.__eq__" s_Keep____eq__ f fd) (C__parts : Cal P w K mg base CX0 2 "_parts" ["record"] (spParts K)) : Fg P w K mg base CX0 4 f fd ["self", "other"] (spEqR K 5) := by
  refine fg_of F sc_Keep____eq__ (fun vs H Q E h => ?_) (fun cdv A outer s₀ H vs Q E hr h => ⟨_, (PSs.nox (pss_one (ps_ret (pe_and (pe_callB (u_isi (K := K)) (by rfl) T.f_isinstance (by decide +kernel) (pa_cons (pv 1) (pa_cons (pe_glob (v := .ref (He.ga K "Keep")) rfl T.g_Keep rfl) pa_nil))) (pe_one (pe_cmpR (u_eq (K := K) hr) (pe_cal C__parts hr.le pass0 (pa_cons (pv 0) pa_nil)) (pe_cal C__parts hr.le pass0 (pa_cons (pv 1) pa_nil)) (nomark _))))))), ?_⟩)
  · obtain ⟨a, y, r, o, rfl, _⟩ := h
    rfl
  · obtain ⟨a, y, r, o, rfl, e, ra, g, od, q⟩ := h
    obtain ⟨ty, tx, kt⟩ := isi_od R od 5 (by decide)
    refine ⟨_, rfl, _, _, ty, _, _, rfl, .own _, tx, kt, _, rfl, ?_⟩
    cases hc : isC 5 o with
    | false =>
      refine iteF ?_
      have := ans_no (r := r) (o := o) (by rw [e]; exact hc)
      rw [this] at q
      exact q _ (Evl.Ex.refl _)
    | true =>
      cases o with
      | none => cases hc
      | some r' =>
        have e' : r'.ix = 5 := of_decide_eq_true hc
        obtain ⟨b, rfl, ⟨db, tb, eb, ob⟩, gb⟩ := od
        obtain ⟨da, ta, ea, oa⟩ := ra
        refine iteT ⟨_, rfl, a, da, ta, r, rfl, by omega, ea, fun p1 f1 H1 e1 hf1 h1 => ⟨_, rfl, b, db, tb, r', rfl, by omega, e1 _ _ eb, fun p2 f2 H2 e2 hf2 h2 => ?_⟩⟩
        refine .inr ⟨partD r, partD r', .tup (SqT.of (e2 _ _ h1)) (.cons (.int _) (.cons (.int _) (.cons (.int _) (.cons (.tup (SqT.of (e2 _ _ hf1)) (fac_dp (oa.ex (e1.trans e2)))) (.cons (.int _) .nil))))), .tup (SqT.of h2) (.cons (.int _) (.cons (.int _) (.cons (.int _) (.cons (.tup (SqT.of hf2) (fac_dp (ob.ex (e1.trans e2)))) (.cons (.int _) .nil))))), part_shaped g, part_shaped gb, ?_⟩
        rw [part_eqv (by omega) (by omega)]
        exact q _ (e1.trans e2)
end
end K12
/-! "".join(a list of texts of one sign each) -/
namespace VB
open PySem PySem.Spec PyProof.Rows L2
abbrev chV (c : Nat) : V := .str ⟨#[c]⟩
def rJoin1 : V → List V → Hp → VK → Prop := fun x xs H Q => ∃ (D : Addr) (cs : List Nat), x = .str "" ∧ xs = [.ref D] ∧ H D = some (.lst (cs.map chV)) ∧ cs.length ≤ 1000 ∧ Q (.str ⟨cs.toArray⟩) H
theorem joinL_ones : ∀ cs : List Nat, TL.joinL [] (cs.map fun c => [c]) = cs
  | [] => rfl
  | [c] => rfl
  | c :: d :: r => by
    show [c] ++ ([] ++ TL.joinL [] ((d :: r).map fun c => [c])) = c :: d :: r
    rw [joinL_ones (d :: r)]
    rfl
theorem join_cs (cs : List Nat) : PySem.Txt.join (PySem.Str.ofString "") (cs.map fun c => (⟨#[c]⟩ : Str)) = ⟨cs.toArray⟩ := by
  show Builtin.Str.glued (PySem.Str.ofString "") _ = _
  rw [StrLaws.glued_eq_join]
  have h := TL.tl_join (PySem.Str.ofString "") (cs.map fun c => (⟨#[c]⟩ : Str))
  have e0 : TL.tl (PySem.Str.ofString "") = [] := by decide
  have e1 : (cs.map fun c => (⟨#[c]⟩ : Str)).map TL.tl = cs.map fun c => [c] := by
    rw [List.map_map]
    rfl
  rw [e0, e1, joinL_ones] at h
  generalize Str.join (PySem.Str.ofString "") (cs.map fun c => (⟨#[c]⟩ : Str)) = z at h ⊢
  obtain ⟨a⟩ := z
  have h : a.toList = cs := h
  rw [← h]
theorem car_cs : ∀ {cs : List Nat} {its : List Value}, Vals (cs.map chV) its → CarriedAll its (cs.map fun c => PyData.str (⟨#[c]⟩ : Str))
  | [], its, h => by
    cases h
    exact .nil
  | c :: cs, its, h => by
    cases h with
    | cons r t =>
      obtain ⟨t', rfl⟩ := (show ∃ t, _ = Value.str ⟨#[c]⟩ t from r)
      exact .cons (.str _ _) (car_cs t)
theorem mt_join1 {X : Cx} : MtR X "str.join" rJoin1 := by
  intro pins s σ H x xs v us Q I rx rxs h
  obtain ⟨D, cs, rfl, rfl, hD, hl, q⟩ := h
  obtain ⟨t, rfl⟩ := (show ∃ t, v = Value.str "" t from rx)
  obtain ⟨u, rfl, ru⟩ := rxs.one
  cases (show u = Value.ref D from ru)
  have hx : ObjOk X.prog X.w H s.heap D (.lst _) := I.hok D _ hD
  obtain ⟨_, its, n, rv, ho⟩ := hx
  refine PySem.W.KT.join_1 (l := cs) (g := fun c => (⟨#[c]⟩ : Str)) (D := D) (ys := its) ⟨_, ho, rfl, n, rfl⟩ (car_cs rv) (fun a _ => rfl) (by omega) fun t' k e => ?_
  rw [join_cs]
  exact ⟨.str ⟨cs.toArray⟩, H, I.tok _, ⟨t', rfl⟩, q⟩
/-- a tuple times nought -/
theorem tuple_mul0 (l : Addr) (items : Array Value) (n : Nat) (dd : Option Addr) (sl : Array (Option Value)) (u : Tok) (hi : items.isEmpty = false) :
    Meets (Builtin.«tuple.__mul__» ⟨[.ref l, .int 0 u], []⟩) (fun _ R s => s.heap.get? l = some { cls := .type "tuple", dict := dd, data := .seq items n, slots := sl } ∧
      R (.ok (.ret (Value.ref s.heap.objs.size))) { s with heap := s.heap.push { cls := Value.type "tuple", data := Data.seq #[] }, toks := s.toks }) :=
  .of_wp fun prog w A R s h => by
    obtain ⟨hp, g, d, tk, os⟩ := s
    obtain ⟨hl, h⟩ := h
    have f1 := AutoSeq1.idx_int
    have c1 : (items.isEmpty || (0 : Int) == 1) = false := by rw [hi]; rfl
    wp_walk using AutoSeq1.wpAny_loadPart' hl
    repeat (first
      | (refine wpAny_ite_false (decide_eq_false (by rw [c1]; exact Bool.false_ne_true)) ?_; wp_walk using AutoSeq1.wpAny_loadPart' hl)
      | (refine wpAny_ite_false (by decide) ?_; wp_walk using AutoSeq1.wpAny_loadPart' hl))
    exact ⟨_, rfl, h⟩
def rRepT0 (K : PySem.W.Frag) : R2 := fun x y H Q => ∃ l xs, x = .ref l ∧ y = .int 0 ∧ SqT K H l xs ∧ xs ≠ [] ∧ ∀ p, H p = none → Q (.ref p) (upd H p (.tup []))
theorem op_repT0 {X : Cx} : OpR X (binaryOp .Mult) (rRepT0 X.K) := by
  intro pins s σ H x y v u Q I rx ry h
  obtain ⟨l, xs, rfl, rfl, hT, hne, q⟩ := h
  cases rx
  obtain ⟨t, rfl⟩ := ry
  obtain ⟨its, r, ⟨⟨cls, dd, data, sl⟩, ho, hc, n, hd⟩, hs⟩ := I.tuple hT
  simp only at hc hd
  subst hc hd
  have hi : its.toArray.isEmpty = false := by
    cases r with
    | nil => exact absurd rfl hne
    | cons => rfl
  refine wpAny_binaryOp_repeat_ref (T := "tuple") (U := "int") (by decide) ⟨_, ho, rfl⟩ (fun s' => typeIs_int s' 0 t) noFill_tuple_mul F.fills_int_mul F.slot_int_rmul repeat_tuple F.slot_int_index.lookup
    (call_meets F.slot_int_rmul (typeIs_int s 0 t) F.entry_int_rmul (F.args_int_rmul_2 _ _) (int_rmul_tuple 0 t l its.toArray n dd sl)
      ⟨ho, rfl, ⟨_, ho, rfl⟩, call_meets F.slot_tuple_mul ⟨_, ho, rfl⟩ F.entry_tuple_mul (F.args_tuple_mul_2 _ _) (tuple_mul0 l its.toArray n dd sl t hi) ⟨ho, ?_⟩⟩)
  refine ⟨.ref s.heap.objs.size, _, I.laid (t' := s.toks) (o := .tup []) (fun b ob q => Heap.get?_push_of_some _ q) (Nat.le_refl _) ?_, rfl, q _ (I.hok.fresh (Nat.le_refl _))⟩
  exact ⟨Nat.zero_le _, [], .nil, IsTup.new _ _⟩
def rMul0 (K : PySem.W.Frag) : R2 := fun x y H Q => rMulU K x y H Q ∨ rRepT0 K x y H Q
theorem u_mul0 {X : Cx} {K : PySem.W.Frag} (hK : X.K = K := by rfl) : OpR X (binaryOp .Mult) (rMul0 K) := by
  subst hK
  exact (u_mul rfl).or op_repT0
end VB
/-! the octets of a record -/
namespace K12
open PySem PySem.Spec PyProof.Rows L2 VB BM
def be (n : Int) (c : Nat) : List Int := octO n.toNat c
theorem be_len (n : Int) (c : Nat) : (be n c).length = c := octO_len _ _
def pad (c : Nat) (l : List Int) : List Int := l ++ List.replicate (c - l.length) 0
def codes (x : Str) : List Int := x.cps.toList.map fun c : Nat => (c : Int)
theorem codes_len (x : Str) : (codes x).length = x.cps.size := by simp [codes]
def facO : Rc → List Int
  | .node _ _ _ n w s c _ => be n 2 ++ [w, s, c]
  | .name _ _ _ dir nm n _ => be dir 2 ++ be n 2 ++ ((nm.cps.size : Int) :: codes nm)
  | .chunk _ _ _ n ix os _ => be n 2 ++ [ix] ++ os
  | .keep _ _ _ nm b _ => [if b then 1 else 0] ++ ((nm.cps.size : Int) :: codes nm)
  | _ => []
def kdO (r : Rc) : Int := (r.ix : Int) + 2
def octs : Rc → List Int
  | .head seq tail b => pad 30 ([if b then 2 else 1] ++ be seq 4 ++ be tail 4)
  | .sl tail count => pad 30 ([3] ++ be tail 4 ++ [count])
  | r => pad 26 ([kdO r] ++ be r.dd 4 ++ [r.aa, r.oo] ++ facO r) ++ be r.uu 4
section
variable {P : Program} {w : World} {K : PySem.W.Frag} {mg : Str → Option Value} {base : Heap} {f : Addr} {fd : FuncData}
theorem iv_app (a b : List Int) : IV (a ++ b) = IV a ++ IV b := List.map_append
theorem iv_rep (n : Nat) (x : Int) : IV (List.replicate n x) = List.replicate n (V.int x) := List.map_replicate
/-- a tuple, new or one that stood -/
abbrev RX (xs : List V) (H : Hp) (Q : VK) : Prop := ∀ (p : Addr) (H' : Hp), Evl.Ex H H' → H' p = some (.tup xs) → Q (.ref p) H'
theorem cat_t {H : Hp} {p q : Addr} {xs ys : List V} {Q : VK} (h1 : H p = some (.tup xs)) (h2 : H q = some (.tup ys)) (ne : xs ≠ []) (z : xs.length + ys.length ≤ 1000) (k : RX (xs ++ ys) H Q) : rAddU K (.ref p) (.ref q) H Q :=
  .inr (.inr ⟨p, q, xs, ys, rfl, rfl, SqT.of h1, SqT.of h2, ne, Nat.le_trans z (by decide), fun e => k p H (Evl.Ex.refl _) (by rw [e, List.append_nil]; exact h1), fun _ r nr => k r _ (Evl.Ex.new nr) upd_same⟩)
def spFilled : Sp := fun vs H Q _ => ∃ (p : Addr) (os : List Int) (c : Nat), vs = [.ref p, .int (c : Int)] ∧ H p = some (.tup (IV os)) ∧ os ≠ [] ∧ (os.length + 2 ≤ c ∨ os.length = c) ∧ c ≤ 30 ∧ RX (IV (pad c os)) H Q
theorem ok_filled (T : Txt K mg) (F : FnP K "_filled" s__filled f fd) : Fg P w K mg base CX0 1 f fd ["octets", "count"] spFilled := by
  refine fg_of F sc__filled (fun vs H Q E h => ?_) (fun cdv A outer s H vs Q E hr h => ⟨_, (PSs.nox (pss_one (ps_ret (pe_op (u_add (K := K)) (pv 0) (pe_op (u_mul0 (K := K)) (pe_tup (pa_cons pe_int pa_nil)) (pe_op op_sub (pv 1) (pe_callB (u_len (K := K)) (by rfl) T.f_len (by decide +kernel) (pa_cons (pv 0) pa_nil)))))))), ?_⟩)
  · obtain ⟨p, os, c, rfl, _⟩ := h
    rfl
  · obtain ⟨p, os, c, rfl, S, ne, hl, h30, q⟩ := h
    refine ⟨_, rfl, by show 1 ≤ sizeLine; decide, fun z nz => ⟨_, rfl, _, rfl, _, _, rfl, .inr ⟨_, SqT.of ((Evl.Ex.new nz) _ _ S), rfl⟩, _, _, rfl, rfl, ?_⟩⟩
    have yz := Evl.Ex.new (o := .tup [V.int 0]) nz
    have hz := upd_same (H := H) (a := z) (o := .tup [V.int 0])
    generalize upd H z (.tup [V.int 0]) = H1 at yz hz ⊢
    have S1 := yz _ _ S
    have nv : IV os ≠ [] := fun e => ne (List.map_eq_nil_iff.mp e)
    have fin : ∀ l : Addr, H1 l = none → rAddU K (.ref p) (.ref l) (upd H1 l (.tup (IV (List.replicate (c - os.length) 0)))) Q := fun l nl => by
      have yl := Evl.Ex.new (o := .tup (IV (List.replicate (c - os.length) 0))) nl
      refine cat_t (yl _ _ S1) upd_same nv (by rw [iv_len, iv_len, List.length_replicate]; omega) fun r H' e h => ?_
      refine q r H' ((yz.trans yl).trans e) ?_
      rw [h, pad, iv_app]
    show rMul0 K (.ref z) (.int ((c : Int) - ((IV os).length : Int))) H1 _
    rw [iv_len]
    by_cases e : os.length = c
    · have e0 : (c : Int) - (os.length : Int) = 0 := by omega
      rw [e0]
      refine .inr ⟨z, _, rfl, rfl, SqT.of hz, by simp, fun l nl => ?_⟩
      have := fin l nl
      rw [e, Nat.sub_self] at this
      exact this
    · refine .inl (.inr (.inr ⟨z, _, _, rfl, rfl, SqT.of hz, by simp, by omega, by omega, by decide, fun l nl => ?_⟩))
      have ek : ((c : Int) - (os.length : Int)).toNat = c - os.length := by omega
      rw [ek]
      have er : (List.replicate (c - os.length) [V.int 0]).flatten = IV (List.replicate (c - os.length) 0) := by
        rw [List.flatten_replicate_singleton, iv_rep]
      rw [er]
      exact fin l nl
def spNmO : Sp := fun vs H Q _ => ∃ x : Str, vs = [.str x] ∧ Nm x ∧ RX (IV ((x.cps.size : Int) :: codes x)) H Q
theorem ok_nmO (T : Txt K mg) (F : FnP K "_octets_of_name" s__octets_of_name f fd) : Fg P w K mg base CX0 1 f fd ["name"] spNmO := by
  refine fg_of F sc__octets_of_name (fun vs H Q E h => ?_) (fun cdv A outer s H vs Q E hr h => ⟨_, (PSs.nox (pss_one (ps_ret (pe_op (u_add (K := K)) (pe_tup (pa_cons (pe_callB (u_len (K := K)) (by rfl) T.f_len (by decide +kernel) (pa_cons (pv 0) pa_nil)) pa_nil)) (pe_callTy (u_tup (K := K)) (by rfl) T.f_tuple (by decide +kernel) (pa_cons (pe_lc (own := [("letter", 1)]) rfl sc__octets_of_name.nd (pi_str (pv 0)) (blkOk_by (own := [("letter", 1)]) (N := ["name", "letter"]) (sc := defScope s__octets_of_name) (by decide +kernel)) (fun _ _ _ _ _ => (pg_name (i := 1) sc__octets_of_name.nd rfl (by first | exact Or.inl rfl | exact Or.inr rfl))) (fun _ _ _ _ _ => pts_nil) (fun _ _ _ _ _ => (pe_callB call_ord (by rfl) T.f_ord (by decide +kernel) (pa_cons (pv 1) pa_nil)))) pa_nil)))))), ?_⟩)
  · obtain ⟨x, rfl, _⟩ := h
    rfl
  · obtain ⟨x, rfl, h, q⟩ := h
    have hz : x.length ≤ sizeLine := Nat.le_trans (show x.length ≤ 8 from h.2.1) (by decide)
    refine ⟨_, rfl, .str x, x.length, rfl, ⟨hz, rfl⟩, by show 1 ≤ sizeLine; decide, fun p np => ?_⟩
    have yp := Evl.Ex.new (o := .tup [V.int (x.length : Int)]) np
    have hp := upd_same (H := H) (a := p) (o := .tup [V.int (x.length : Int)])
    generalize upd H p (.tup [V.int (x.length : Int)]) = H1 at yp hp ⊢
    refine ⟨_, rfl, x, rfl, fun D hD => ?_⟩
    have h8 := h.2.1
    refine lc_pureVS (us := IV (codes x)) walk_chs (fun _ _ => trivial) (by rw [iv_len, codes_len]) (by omega) hD (fun _ => rfl) ?_ ?_
    · intro i y u H' Q' hy hu ex k
      obtain ⟨c, hc', rfl⟩ : ∃ c, x.cps.toList[i]? = some c ∧ y = V.str ⟨#[c]⟩ := by
        unfold chs at hy
        rw [List.getElem?_map] at hy
        obtain ⟨c, h2, rfl⟩ := Option.map_eq_some_iff.mp hy
        exact ⟨c, h2, rfl⟩
      have hu' : u = V.int (c : Int) := by
        unfold codes at hu
        rw [List.getElem?_map, List.getElem?_map, hc'] at hu
        exact (Option.some.inj hu).symm
      subst hu'
      exact ⟨_, rfl, ⟨#[c]⟩, rfl, rfl, k _ (Evl.Ex.refl _)⟩
    · intro H' ex h3
      refine ⟨D, _, rfl, .inl ⟨SqL.of h3, fun l nl => ?_⟩⟩
      have yl := Evl.Ex.new (o := .tup (IV (codes x))) nl
      refine cat_t (xs := [V.int (x.length : Int)]) (ys := IV (codes x)) ((ex.trans yl) _ _ hp) upd_same (by simp) (by rw [iv_len, codes_len]; show 1 + x.cps.size ≤ 1000; omega) fun r H2 e2 h2 => ?_
      exact q r H2 (((yp.trans ex).trans yl).trans e2) h2
end
end K12
/-! the octets of a fact, written -/
namespace K12
open PySem PySem.Spec PyProof.Rows L2 VB BM
theorem te_eq {n : Int} (h : 0 ≤ n) (c : Nat) : ([V.int n, V.int (c : Int)] ++ [] : List V) = [V.int ((n.toNat : Nat) : Int), V.int (c : Int)] := by
  have e : ((n.toNat : Nat) : Int) = n := by omega
  rw [e]
  rfl
theorem iv_ne {l : List Int} {n : Nat} (h : l.length = n + 1) : IV l ≠ [] := fun e => by
  rw [List.map_eq_nil_iff.mp e] at h
  cases h
section
variable {P : Program} {w : World} {K : PySem.W.Frag} {mg : Str → Option Value} {base : Heap} {f : Addr} {fd : FuncData}
def spFacO : Sp := fun vs H Q _ => ∃ (pf : Addr) (t : V) (r : Rc), vs = [.ref pf] ∧ 2 ≤ r.ix ∧ Good r ∧ H pf = some (.tup (facV t r)) ∧ OcT H t r ∧ RX (IV (facO r)) H Q
theorem ok_facO (T : Txt K mg) (F : FnP K "_octets_of_fact" s__octets_of_fact f fd) (C_octets_telling : Cal P w K mg base CX0 1 "octets_telling" ["number", "count"] spTell) (C__octets_of_name : Cal P w K mg base CX0 1 "_octets_of_name" ["name"] spNmO) : Fg P w K mg base CX0 2 f fd ["fact"] spFacO := by
  refine fg_of F sc__octets_of_fact (fun vs H Q E h => ?_) (fun cdv A outer s₀ H vs Q E hr h => ⟨_, (PSs.nox (pss_cons (ps_if (pt_cmpR (u_eq (K := K) hr) (pe_ix (u_ix (K := K)) (pv 0) pe_int (fun _ _ => rfl)) pe_str (nomark _))
  (pss_cons (ps_asg (pv 0) (pg_tupU (K := K) (n := 5) rfl (pgs_cons (pg_name (i := 1) sc__octets_of_fact.nd rfl (by first | exact Or.inl rfl | exact Or.inr rfl)) (pgs_cons (pg_name (i := 2) sc__octets_of_fact.nd rfl (by first | exact Or.inl rfl | exact Or.inr rfl)) (pgs_cons (pg_name (i := 3) sc__octets_of_fact.nd rfl (by first | exact Or.inl rfl | exact Or.inr rfl)) (pgs_cons (pg_name (i := 4) sc__octets_of_fact.nd rfl (by first | exact Or.inl rfl | exact Or.inr rfl)) (pgs_cons (pg_name (i := 5) sc__octets_of_fact.nd rfl (by first | exact Or.inl rfl | exact Or.inr rfl)) pgs_nil)))))))
  (pss_one (ps_ret (pe_op (u_add (K := K)) (pe_cal C_octets_telling hr.le pass0 (pa_cons (pv 2) (pa_cons pe_int pa_nil))) (pe_tup (pa_cons (pv 3) (pa_cons (pv 4) (pa_cons (pv 5) pa_nil)))))))) pss_nil)
  (pss_cons (ps_if (pt_cmpR (u_eq (K := K) hr) (pe_ix (u_ix (K := K)) (pv 0) pe_int (fun _ _ => rfl)) pe_str (nomark _))
  (pss_cons (ps_asg (pv 0) (pg_tupU (K := K) (n := 4) rfl (pgs_cons (pg_name (i := 1) sc__octets_of_fact.nd rfl (by first | exact Or.inl rfl | exact Or.inr rfl)) (pgs_cons (pg_name (i := 6) sc__octets_of_fact.nd rfl (by first | exact Or.inl rfl | exact Or.inr rfl)) (pgs_cons (pg_name (i := 7) sc__octets_of_fact.nd rfl (by first | exact Or.inl rfl | exact Or.inr rfl)) (pgs_cons (pg_name (i := 2) sc__octets_of_fact.nd rfl (by first | exact Or.inl rfl | exact Or.inr rfl)) pgs_nil))))))
  (pss_one (ps_ret (pe_op (u_add (K := K)) (pe_op (u_add (K := K)) (pe_cal C_octets_telling hr.le pass0 (pa_cons (pv 6) (pa_cons pe_int pa_nil))) (pe_cal C_octets_telling hr.le pass0 (pa_cons (pv 2) (pa_cons pe_int pa_nil)))) (pe_cal C__octets_of_name hr.le pass0 (pa_cons (pv 7) pa_nil)))))) pss_nil)
  (pss_cons (ps_if (pt_cmpR (u_eq (K := K) hr) (pe_ix (u_ix (K := K)) (pv 0) pe_int (fun _ _ => rfl)) pe_str (nomark _))
  (pss_cons (ps_asg (pv 0) (pg_tupU (K := K) (n := 4) rfl (pgs_cons (pg_name (i := 1) sc__octets_of_fact.nd rfl (by first | exact Or.inl rfl | exact Or.inr rfl)) (pgs_cons (pg_name (i := 2) sc__octets_of_fact.nd rfl (by first | exact Or.inl rfl | exact Or.inr rfl)) (pgs_cons (pg_name (i := 8) sc__octets_of_fact.nd rfl (by first | exact Or.inl rfl | exact Or.inr rfl)) (pgs_cons (pg_name (i := 9) sc__octets_of_fact.nd rfl (by first | exact Or.inl rfl | exact Or.inr rfl)) pgs_nil))))))
  (pss_one (ps_ret (pe_op (u_add (K := K)) (pe_op (u_add (K := K)) (pe_cal C_octets_telling hr.le pass0 (pa_cons (pv 2) (pa_cons pe_int pa_nil))) (pe_tup (pa_cons (pv 8) pa_nil))) (pv 9))))) pss_nil)
  (pss_cons (ps_asg (pv 0) (pg_tupU (K := K) (n := 3) rfl (pgs_cons (pg_name (i := 1) sc__octets_of_fact.nd rfl (by first | exact Or.inl rfl | exact Or.inr rfl)) (pgs_cons (pg_name (i := 7) sc__octets_of_fact.nd rfl (by first | exact Or.inl rfl | exact Or.inr rfl)) (pgs_cons (pg_name (i := 10) sc__octets_of_fact.nd rfl (by first | exact Or.inl rfl | exact Or.inr rfl)) pgs_nil)))))
  (pss_one (ps_ret (pe_op (u_add (K := K)) (pe_tup (pa_cons (pe_callTy call_int1 (by rfl) T.f_int (by decide +kernel) (pa_cons (pv 10) pa_nil)) pa_nil)) (pe_cal C__octets_of_name hr.le pass0 (pa_cons (pv 7) pa_nil)))))))))), ?_⟩)
  · obtain ⟨pf, t, r, rfl, _⟩ := h
    rfl
  · obtain ⟨pf, t, r, rfl, h2, g, hp, oc, q⟩ := h
    cases r with
    | head => exact absurd (show 2 ≤ 0 from h2) (by decide)
    | sl => exact absurd (show 2 ≤ 1 from h2) (by decide)
    | node d a o n w' s c u =>
      refine ⟨_, rfl, .inr (.inl ⟨pf, _, 0, _, rfl, rfl, SqT.of hp, rfl, .inl ⟨rfl, _, rfl, iteT ?_⟩⟩)⟩
      obtain ⟨_, g1, g2, g3, g4, g5, g6, g7, g8, _⟩ := g
      refine ⟨_, rfl, pf, _, rfl, SqT.of hp, rfl, _, _, rfl, _, _, rfl, _, _, rfl, _, _, rfl, _, _, rfl, rfl, ?_⟩
      refine ⟨_, rfl, n.toNat, 2, te_eq (by omega) 2, by decide, fun p1 H1 np e1 h1 => ?_⟩
      refine ⟨_, rfl, _, rfl, _, rfl, by show 3 ≤ sizeLine; decide, fun p2 np2 => ?_⟩
      have y := Evl.Ex.new (o := .tup [V.int w', .int s, .int c]) np2
      exact cat_t (xs := IV (octO n.toNat 2)) (ys := IV [w', s, c]) (y _ _ h1) upd_same (iv_ne (octO_len _ _)) (by rw [iv_len, octO_len]; show 2 + 3 ≤ 1000; decide) fun r H' e h => q r H' ((e1.trans y).trans e) (by rw [h, ← iv_app]; rfl)
    | name d a o dir nm n u =>
      refine ⟨_, rfl, .inr (.inl ⟨pf, _, 0, _, rfl, rfl, SqT.of hp, rfl, .inl ⟨rfl, _, rfl, iteF ?_⟩⟩)⟩
      refine ⟨_, rfl, .inr (.inl ⟨pf, _, 0, _, rfl, rfl, SqT.of hp, rfl, .inl ⟨rfl, _, rfl, iteT ?_⟩⟩)⟩
      obtain ⟨_, g1, g2, gm, g3, g4, g5, _⟩ := g
      refine ⟨_, rfl, pf, _, rfl, SqT.of hp, rfl, _, _, rfl, _, _, rfl, _, _, rfl, _, _, rfl, rfl, ?_⟩
      refine ⟨_, rfl, dir.toNat, 2, te_eq (by omega) 2, by decide, fun p1 H1 np e1 h1 => ?_⟩
      refine ⟨_, rfl, n.toNat, 2, te_eq (by omega) 2, by decide, fun p2 H2 np2 e2 h2 => ?_⟩
      refine cat_t (xs := IV (octO dir.toNat 2)) (ys := IV (octO n.toNat 2)) (e2 _ _ h1) h2 (iv_ne (octO_len _ _)) (by rw [iv_len, iv_len, octO_len, octO_len]; decide) fun p3 H3 e3 h3 => ?_
      refine ⟨_, rfl, nm, rfl, gm, fun p4 H4 e4 h4 => ?_⟩
      have l4 : (IV ((nm.cps.size : Int) :: codes nm)).length ≤ 9 := by
        rw [iv_len, List.length_cons, codes_len]
        have := gm.2.1
        omega
      exact cat_t (xs := IV (octO dir.toNat 2) ++ IV (octO n.toNat 2)) (ys := IV ((nm.cps.size : Int) :: codes nm)) (e4 _ _ h3) h4 (by rw [← iv_app]; exact iv_ne (n := 3) (by rw [List.length_append, octO_len, octO_len])) (by rw [List.length_append, iv_len, iv_len, octO_len, octO_len]; omega) fun r H' e h => q r H' (((e1.trans e2).trans (e3.trans e4)).trans e) (by rw [h, ← iv_app, ← iv_app]; rfl)
    | chunk d a o n ix os u =>
      refine ⟨_, rfl, .inr (.inl ⟨pf, _, 0, _, rfl, rfl, SqT.of hp, rfl, .inl ⟨rfl, _, rfl, iteF ?_⟩⟩)⟩
      refine ⟨_, rfl, .inr (.inl ⟨pf, _, 0, _, rfl, rfl, SqT.of hp, rfl, .inl ⟨rfl, _, rfl, iteF ?_⟩⟩)⟩
      refine ⟨_, rfl, .inr (.inl ⟨pf, _, 0, _, rfl, rfl, SqT.of hp, rfl, .inl ⟨rfl, _, rfl, iteT ?_⟩⟩)⟩
      obtain ⟨_, g1, g2, g3, g4, go, gl, _⟩ := g
      obtain ⟨po, rfl, ho⟩ := oc
      refine ⟨_, rfl, pf, _, rfl, SqT.of hp, rfl, _, _, rfl, _, _, rfl, _, _, rfl, _, _, rfl, rfl, ?_⟩
      refine ⟨_, rfl, n.toNat, 2, te_eq (by omega) 2, by decide, fun p1 H1 np e1 h1 => ?_⟩
      refine ⟨_, rfl, by show 1 ≤ sizeLine; decide, fun p2 np2 => ?_⟩
      have y := Evl.Ex.new (o := .tup [V.int ix]) np2
      refine cat_t (xs := IV (octO n.toNat 2)) (ys := IV [ix]) (y _ _ h1) upd_same (iv_ne (octO_len _ _)) (by rw [iv_len, octO_len]; show 2 + 1 ≤ 1000; decide) fun p3 H3 e3 h3 => ?_
      refine ⟨_, rfl, ?_⟩
      exact cat_t (xs := IV (octO n.toNat 2) ++ IV [ix]) (ys := IV os) h3 (((e1.trans y).trans e3) _ _ ho) (by rw [← iv_app]; exact iv_ne (n := 2) (by rw [List.length_append, octO_len]; rfl)) (by rw [List.length_append, iv_len, iv_len, iv_len, octO_len, gl]; show 2 + 1 + 16 ≤ 1000; decide) fun r H' e h => q r H' (((e1.trans y).trans e3).trans e) (by rw [h, ← iv_app, ← iv_app]; rfl)
    | keep d a o nm b u =>
      refine ⟨_, rfl, .inr (.inl ⟨pf, _, 0, _, rfl, rfl, SqT.of hp, rfl, .inl ⟨rfl, _, rfl, iteF ?_⟩⟩)⟩
      refine ⟨_, rfl, .inr (.inl ⟨pf, _, 0, _, rfl, rfl, SqT.of hp, rfl, .inl ⟨rfl, _, rfl, iteF ?_⟩⟩)⟩
      refine ⟨_, rfl, .inr (.inl ⟨pf, _, 0, _, rfl, rfl, SqT.of hp, rfl, .inl ⟨rfl, _, rfl, iteF ?_⟩⟩)⟩
      obtain ⟨_, gm, _⟩ := g
      refine ⟨_, rfl, pf, _, rfl, SqT.of hp, rfl, _, _, rfl, _, _, rfl, _, _, rfl, rfl, ?_⟩
      have hb : ∀ {Q' : VK} {H' : Hp}, Q' (.int (if b then 1 else 0)) H' → (∃ i, ([V.bl b] : List V) = [V.int i] ∧ Q' (V.int i) H') ∨ ∃ k, ([V.bl b] : List V) = [V.bl k] ∧ Q' (V.int (if k = true then 1 else 0)) H' := fun h => .inr ⟨b, rfl, h⟩
      refine ⟨_, rfl, .inr ⟨b, rfl, by show 1 ≤ sizeLine; decide, fun p2 np2 => ?_⟩⟩
      have y := Evl.Ex.new (o := .tup [V.int (if b = true then 1 else 0)]) np2
      have h2' := upd_same (H := H) (a := p2) (o := .tup [V.int (if b = true then 1 else 0)])
      generalize upd H p2 (.tup [V.int (if b = true then 1 else 0)]) = H2 at y h2' ⊢
      refine ⟨_, rfl, nm, rfl, gm, fun p4 H4 e4 h4 => ?_⟩
      have l4 : (IV ((nm.cps.size : Int) :: codes nm)).length ≤ 9 := by
        rw [iv_len, List.length_cons, codes_len]
        have := gm.2.1
        omega
      exact cat_t (xs := IV [if b = true then 1 else 0]) (ys := IV ((nm.cps.size : Int) :: codes nm)) (e4 _ _ h2') h4 (iv_ne (n := 0) rfl) (by show 1 + _ ≤ 1000; omega) fun r H' e h => q r H' ((y.trans e4).trans e) (by rw [h, ← iv_app]; rfl)
theorem octs_tree {r : Rc} (h : 2 ≤ r.ix) : octs r = pad 26 ([kdO r] ++ be r.dd 4 ++ [r.aa, r.oo] ++ facO r) ++ be r.uu 4 := tree4 (p := fun r => octs r = pad 26 ([kdO r] ++ be r.dd 4 ++ [r.aa, r.oo] ++ facO r) ++ be r.uu 4) (fun _ _ _ _ _ _ _ _ => rfl) (fun _ _ _ _ _ _ _ => rfl) (fun _ _ _ _ _ _ _ => rfl) (fun _ _ _ _ _ _ => rfl) r h
abbrev fnm (r : Rc) : Str := ["node", "name", "chunk", "keep"].getD (r.ix - 2) ""
theorem fac0 {t : V} {r : Rc} (h : 2 ≤ r.ix) : atI (facV t r) 0 = some (.str (fnm r)) := tree4 (p := fun r => atI (facV t r) 0 = some (.str (fnm r))) (fun _ _ _ _ _ _ _ _ => rfl) (fun _ _ _ _ _ _ _ => rfl) (fun _ _ _ _ _ _ _ => rfl) (fun _ _ _ _ _ _ => rfl) r h
theorem fld4 {t : V} {r : Rc} (h : 2 ≤ r.ix) : (((fls t r).lookup ("deed" : Str) = some (V.int r.dd) ∧ (fls t r).lookup ("at" : Str) = some (V.int r.aa)) ∧ (fls t r).lookup ("of" : Str) = some (V.int r.oo) ∧ (fls t r).lookup ("until" : Str) = some (V.int r.uu)) ∧ (fls t r).lookup ("fact" : Str) = none ∧ (fls t r).lookup ("key" : Str) = none :=
  tree4 (p := fun r => (((fls t r).lookup ("deed" : Str) = some (V.int r.dd) ∧ (fls t r).lookup ("at" : Str) = some (V.int r.aa)) ∧ (fls t r).lookup ("of" : Str) = some (V.int r.oo) ∧ (fls t r).lookup ("until" : Str) = some (V.int r.uu)) ∧ (fls t r).lookup ("fact" : Str) = none ∧ (fls t r).lookup ("key" : Str) = none) (fun _ _ _ _ _ _ _ _ => ⟨⟨⟨rfl, rfl⟩, rfl, rfl⟩, rfl, rfl⟩) (fun _ _ _ _ _ _ _ => ⟨⟨⟨rfl, rfl⟩, rfl, rfl⟩, rfl, rfl⟩) (fun _ _ _ _ _ _ _ => ⟨⟨⟨rfl, rfl⟩, rfl, rfl⟩, rfl, rfl⟩) (fun _ _ _ _ _ _ => ⟨⟨⟨rfl, rfl⟩, rfl, rfl⟩, rfl, rfl⟩) r h
theorem nam4 {r : Rc} (h : 2 ≤ r.ix) : (("deed" : Str) ∈ fnE.getD r.ix [] ∧ ("at" : Str) ∈ fnE.getD r.ix []) ∧ ("of" : Str) ∈ fnE.getD r.ix [] ∧ ("until" : Str) ∈ fnE.getD r.ix [] :=
  tree4 (p := fun r => (("deed" : Str) ∈ fnE.getD r.ix [] ∧ ("at" : Str) ∈ fnE.getD r.ix []) ∧ ("of" : Str) ∈ fnE.getD r.ix [] ∧ ("until" : Str) ∈ fnE.getD r.ix []) (fun _ _ _ _ _ _ _ _ => by show (_ ∈ fnE.getD 2 [] ∧ _ ∈ fnE.getD 2 []) ∧ _ ∈ fnE.getD 2 [] ∧ _ ∈ fnE.getD 2 []; simp) (fun _ _ _ _ _ _ _ => by show (_ ∈ fnE.getD 3 [] ∧ _ ∈ fnE.getD 3 []) ∧ _ ∈ fnE.getD 3 [] ∧ _ ∈ fnE.getD 3 []; simp)
    (fun _ _ _ _ _ _ _ => by show (_ ∈ fnE.getD 4 [] ∧ _ ∈ fnE.getD 4 []) ∧ _ ∈ fnE.getD 4 [] ∧ _ ∈ fnE.getD 4 []; simp) (fun _ _ _ _ _ _ => by show (_ ∈ fnE.getD 5 [] ∧ _ ∈ fnE.getD 5 []) ∧ _ ∈ fnE.getD 5 [] ∧ _ ∈ fnE.getD 5 []; simp) r h
theorem facO_len {r : Rc} (h : 2 ≤ r.ix) (g : Good r) : (facO r).length ≤ 17 ∨ (facO r).length = 19 := by
  revert g
  refine tree4 (p := fun r => Good r → (facO r).length ≤ 17 ∨ (facO r).length = 19) ?_ ?_ ?_ ?_ r h
  · intro d a o n w s c u g
    left
    show (be n 2 ++ [w, s, c]).length ≤ 17
    rw [List.length_append, be_len]
    show 2 + 3 ≤ 17
    decide
  · intro d a o dir nm n u g
    left
    have := g.2.2.2.1.2.1
    show (be dir 2 ++ be n 2 ++ ((nm.cps.size : Int) :: codes nm)).length ≤ 17
    rw [List.length_append, List.length_append, be_len, be_len, List.length_cons, codes_len]
    omega
  · intro d a o n ix os u g
    right
    have := g.2.2.2.2.2.2.1
    show (be n 2 ++ [ix] ++ os).length = 19
    rw [List.length_append, List.length_append, be_len, this]
    rfl
  · intro d a o nm b u g
    left
    have := g.2.1.2.1
    show ([if b then 1 else 0] ++ ((nm.cps.size : Int) :: codes nm)).length ≤ 17
    rw [List.length_append]
    show 1 + ((codes nm).length + 1) ≤ 17
    rw [codes_len]
    omega
theorem dd_ok {r : Rc} (h : 2 ≤ r.ix) (g : Good r) : Stamp r.dd r.aa r.oo ∧ Until r.dd r.oo r.uu := by
  revert g
  exact tree4 (p := fun r => Good r → Stamp r.dd r.aa r.oo ∧ Until r.dd r.oo r.uu) (fun _ _ _ _ _ _ _ _ g => ⟨g.1, g.2.2.2.2.2.2.2.2.2⟩) (fun _ _ _ _ _ _ _ g => ⟨g.1, g.2.2.2.2.2.2.2⟩) (fun _ _ _ _ _ _ _ g => ⟨g.1, g.2.2.2.2.2.2.2⟩) (fun _ _ _ _ _ _ g => ⟨g.1, g.2.2⟩) r h
theorem uu_ok {r : Rc} (h : 2 ≤ r.ix) (g : Good r) : 0 ≤ r.uu ∧ r.uu ≤ 4294967295 := by
  obtain ⟨⟨h1, _⟩, h2⟩ := dd_ok h g
  rcases h2 with h2 | ⟨_, h3, h4⟩
  · rw [h2]
    decide
  · omega
def spTree (K : PySem.W.Frag) : Sp := fun vs H Q _ => ∃ (a : Addr) (r : Rc), vs = [.ref a] ∧ 2 ≤ r.ix ∧ RecAt K H a r ∧ RV (.bl true) H Q
theorem kit4 (R : Rk K) {r : Rc} (h : 2 ≤ r.ix) : PySem.W.kitAny K (.ref (Kl K r.ix)) [.ref (Kl K 2), .ref (Kl K 3), .ref (Kl K 4), .ref (Kl K 5)] = some true := by
  have k := fun j hj => R.kit r.ix j (ix_lt r) hj
  have l := ix_lt r
  have k2 := k 2 (by decide)
  have k3 := k 3 (by decide)
  have k4 := k 4 (by decide)
  have k5 := k 5 (by decide)
  have : r.ix = 2 ∨ r.ix = 3 ∨ r.ix = 4 ∨ r.ix = 5 := by omega
  rcases this with e | e | e | e <;> rw [e] at k2 k3 k4 k5 ⊢ <;> simp [PySem.W.kitAny, k2, k3, k4, k5]
theorem ok_tree (T : Txt K mg) (R : Rk K) (F : FnP K "is_tree_record" s_is_tree_record f fd) : Fg P w K mg base CX0 1 f fd ["value"] (spTree K) := by
  refine fg_of F sc_is_tree_record (fun vs H Q E h => ?_) (fun cdv A outer s₀ H vs Q E hr h => ⟨_, (PSs.nox (pss_one (ps_ret (pe_callB (u_isiT (K := K)) (by rfl) T.f_isinstance (by decide +kernel) (pa_cons (pv 0) (pa_cons (pe_tup (pa_cons (pe_glob (v := .ref (He.ga K "Node")) rfl T.g_Node rfl) (pa_cons (pe_glob (v := .ref (He.ga K "Name")) rfl T.g_Name rfl) (pa_cons (pe_glob (v := .ref (He.ga K "Chunk")) rfl T.g_Chunk rfl) (pa_cons (pe_glob (v := .ref (He.ga K "Keep")) rfl T.g_Keep rfl) pa_nil))))) pa_nil)))))), ?_⟩)
  · obtain ⟨a, r, rfl, _⟩ := h
    rfl
  · obtain ⟨a, r, rfl, h2, ra, q⟩ := h
    refine ⟨_, rfl, by show 4 ≤ sizeLine; decide, fun tp nt => ?_⟩
    have y := Evl.Ex.new (o := .tup [V.ref (Kl K 2), .ref (Kl K 3), .ref (Kl K 4), .ref (Kl K 5)]) nt
    exact ⟨_, tp, _, _, _, true, rfl, upd_same, .cons (.own _) (.cons (.own _) (.cons (.own _) (.cons (.own _) .nil))), (ra.ex y).x R, kit4 R h2, q _ y⟩
def spWr (K : PySem.W.Frag) : Sp := fun vs H Q _ => ∃ (a : Addr) (r : Rc), vs = [.ref a] ∧ Good r ∧ RecAt K H a r ∧ RX (IV (octs r)) H Q
/-- the kinds of facts stand in the module's dict -/
abbrev FkD (K : PySem.W.Frag) (w : World) : Prop := ∀ i, i < 4 → KDct K w (He.ga K "FACT_KINDS") (["node", "name", "chunk", "keep"].getD i "") (.int (4 + (i : Int)))
theorem ok_wr (T : Txt K mg) (R : Rk K) (FD : FkD K w) (F : FnP K "written" s_written f fd) (C_octets_telling : Cal P w K mg base CX0 1 "octets_telling" ["number", "count"] spTell) (C_is_tree_record : Cal P w K mg base CX0 1 "is_tree_record" ["value"] (spTree K)) (C__filled : Cal P w K mg base CX0 1 "_filled" ["octets", "count"] spFilled)
    (C__octets_of_fact : Cal P w K mg base CX0 2 "_octets_of_fact" ["fact"] spFacO) (M_fact : FctM P w K mg base) : Fg P w K mg base CX0 3 f fd ["record"] (spWr K) := by
  refine fg_of F sc_written (fun vs H Q E h => ?_) (fun cdv A outer s₀ H vs Q E hr h => ⟨_, (PSs.nox (pss_cons (ps_if (pt_tru (K := K) (pe_callB (u_isi (K := K)) (by rfl) T.f_isinstance (by decide +kernel) (pa_cons (pv 0) (pa_cons (pe_glob (v := .ref (He.ga K "Head")) rfl T.g_Head rfl) pa_nil))) (by intro _; rfl))
  (pss_cons (ps_set (i := 1) sc_written.nd rfl (by first | exact Or.inl rfl | exact Or.inr rfl) (pe_ifExp (pt_tru (K := K) (pe_fldU (K := K) (pv 0) rfl) (by intro _; rfl)) (pe_globI rfl T.g_CLEANING_KIND) (pe_globI rfl T.g_HEAD_KIND)))
  (pss_one (ps_ret (pe_cal C__filled hr.le pass0 (pa_cons (pe_op (u_add (K := K)) (pe_op (u_add (K := K)) (pe_tup (pa_cons (pv 1) pa_nil)) (pe_cal C_octets_telling hr.le pass0 (pa_cons (pe_fldU (K := K) (pv 0) rfl) (pa_cons pe_int pa_nil)))) (pe_cal C_octets_telling hr.le pass0 (pa_cons (pe_fldU (K := K) (pv 0) rfl) (pa_cons pe_int pa_nil)))) (pa_cons (pe_globI rfl T.g_DATA_OCTETS) pa_nil)))))) pss_nil)
  (pss_cons (ps_if (pt_tru (K := K) (pe_callB (u_isi (K := K)) (by rfl) T.f_isinstance (by decide +kernel) (pa_cons (pv 0) (pa_cons (pe_glob (v := .ref (He.ga K "Seal")) rfl T.g_Seal rfl) pa_nil))) (by intro _; rfl))
  (pss_one (ps_ret (pe_cal C__filled hr.le pass0 (pa_cons (pe_op (u_add (K := K)) (pe_op (u_add (K := K)) (pe_tup (pa_cons (pe_globI rfl T.g_SEAL_KIND) pa_nil)) (pe_cal C_octets_telling hr.le pass0 (pa_cons (pe_fldU (K := K) (pv 0) rfl) (pa_cons pe_int pa_nil)))) (pe_tup (pa_cons (pe_fldU (K := K) (pv 0) rfl) pa_nil))) (pa_cons (pe_globI rfl T.g_DATA_OCTETS) pa_nil))))) pss_nil)
  (pss_cons (ps_if (pt_not (pt_tru (K := K) (pe_cal C_is_tree_record hr.le pass0 (pa_cons (pv 0) pa_nil)) (by intro _; rfl)))
  (pss_one ps_never) pss_nil)
  (pss_cons (ps_set (i := 2) sc_written.nd rfl (by first | exact Or.inl rfl | exact Or.inr rfl) (PE.any fun i hi => pe_calM0 (M_fact i hi) hr.le pass0 (pv 0)))
  (pss_cons (ps_set (i := 3) sc_written.nd rfl (by first | exact Or.inl rfl | exact Or.inr rfl) (pe_op (u_add (K := K)) (pe_op (u_add (K := K)) (pe_tup (pa_cons (pe_ix ix_kdict (pe_glob (v := .ref (He.ga K "FACT_KINDS")) rfl T.g_FACT_KINDS rfl) (pe_ix (u_ix (K := K)) (pv 2) pe_int (fun _ _ => rfl)) (fun _ _ => rfl)) pa_nil)) (pe_cal C_octets_telling hr.le pass0 (pa_cons (pe_fldU (K := K) (pv 0) rfl) (pa_cons pe_int pa_nil)))) (pe_tup (pa_cons (pe_fldU (K := K) (pv 0) rfl) (pa_cons (pe_fldU (K := K) (pv 0) rfl) pa_nil)))))
  (pss_one (ps_ret (pe_op (u_add (K := K)) (pe_cal C__filled hr.le pass0 (pa_cons (pe_op (u_add (K := K)) (pv 3) (pe_cal C__octets_of_fact hr.le pass0 (pa_cons (pv 2) pa_nil))) (pa_cons (pe_globI rfl T.g_UNTIL_PLACE) pa_nil))) (pe_cal C_octets_telling hr.le pass0 (pa_cons (pe_fldU (K := K) (pv 0) rfl) (pa_cons pe_int pa_nil)))))))))))), ?_⟩)
  · obtain ⟨a, r, rfl, _⟩ := h
    rfl
  · obtain ⟨a, r, rfl, g, ra, q⟩ := h
    have kt := fun j hj => R.kit r.ix j (ix_lt r) hj
    have tx := ra.x R
    obtain ⟨dx, t, ea, oc⟩ := id ra
    have c := R.cls r.ix (ix_lt r)
    have n := R.no r.ix (ix_lt r)
    refine ⟨_, rfl, _, _, _, _, _, rfl, .own _, tx, kt 0 (by decide), _, rfl, ?_⟩
    by_cases h0 : r.ix = 0
    · cases r with
      | head seq tail b =>
        obtain ⟨g1, g2, g3⟩ := g
        refine iteT ⟨_, rfl, a, _, dx, _, _, rfl, ea, c, n _ (by simp [Rc.ix]), rfl, b, rfl, ?_⟩
        have rest : ∀ k : Int, k = (if b then 2 else 1) → (tRet (tCall spFilled [] E0 (tCons (tOp (rAddU K) (tOp (rAddU K) (tTup (tCons (tVar 1) tNil)) (tCall spTell [] E0 (tCons (tFld K (tVar 0) "seq") (tCons (tC (V.int 4)) tNil)))) (tCall spTell [] E0 (tCons (tFld K (tVar 0) "tail") (tCons (tC (V.int 4)) tNil)))) (tCons (tC (V.int 30)) tNil))))
            { nx := fun x H' => Q V.non H', rt := Q } [some (.ref a), some (.int k), none, none] H := by
          intro k ek
          refine ⟨_, rfl, by show 1 ≤ sizeLine; decide, fun p np => ?_⟩
          have y := Evl.Ex.new (o := .tup [V.int k]) np
          have hp := upd_same (H := H) (a := p) (o := .tup [V.int k])
          generalize upd H p (.tup [V.int k]) = H1 at y hp ⊢
          refine ⟨_, rfl, a, _, dx, _, _, rfl, y _ _ ea, c, n _ (by simp [Rc.ix]), rfl, seq.toNat, 4, te_eq (by omega) 4, by decide, fun p1 H2 n1 e1 h1 => ?_⟩
          refine cat_t (xs := IV [k]) (ys := IV (octO seq.toNat 4)) (e1 _ _ hp) h1 (iv_ne (n := 0) rfl) (by rw [iv_len, iv_len, octO_len]; show 1 + 4 ≤ 1000; decide) fun p2 H3 e2 h2 => ?_
          refine ⟨_, rfl, a, _, dx, _, _, rfl, ((y.trans e1).trans e2) _ _ ea, c, n _ (by simp [Rc.ix]), rfl, tail.toNat, 4, te_eq (by omega) 4, by decide, fun p3 H4 n3 e3 h3 => ?_⟩
          refine cat_t (xs := IV [k] ++ IV (octO seq.toNat 4)) (ys := IV (octO tail.toNat 4)) (e3 _ _ h2) h3 (by rw [← iv_app]; exact iv_ne (n := 4) (by rw [List.length_append, octO_len]; rfl)) (by rw [List.length_append, iv_len, iv_len, iv_len, octO_len, octO_len]; show 1 + 4 + 4 ≤ 1000; decide) fun p4 H5 e4 h4 => ?_
          refine ⟨p4, [k] ++ octO seq.toNat 4 ++ octO tail.toNat 4, 30, rfl, by rw [h4, ← iv_app, ← iv_app], by simp, .inl (by rw [List.length_append, List.length_append, octO_len, octO_len]; show 1 + 4 + 4 + 2 ≤ 30; decide), by decide, fun r H' e h => q r H' ((((y.trans e1).trans (e2.trans e3)).trans e4).trans e) ?_⟩
          rw [h, ek]
          rfl
        cases b with
        | true => exact iteT (rest 2 rfl)
        | false => exact iteF (rest 1 rfl)
      | _ => cases h0
    · rw [decide_eq_false h0]
      refine iteF ⟨_, rfl, _, _, _, _, _, rfl, .own _, tx, kt 1 (by decide), _, rfl, ?_⟩
      by_cases h1 : r.ix = 1
      · cases r with
        | sl tail count =>
          obtain ⟨g1, g2, g3, g4⟩ := g
          refine iteT ⟨by show 1 ≤ sizeLine; decide, fun p np => ?_⟩
          have y := Evl.Ex.new (o := .tup [V.int 3]) np
          have hp := upd_same (H := H) (a := p) (o := .tup [V.int 3])
          generalize upd H p (.tup [V.int 3]) = H1 at y hp ⊢
          refine ⟨_, rfl, a, _, dx, _, _, rfl, y _ _ ea, c, n _ (by simp [Rc.ix]), rfl, tail.toNat, 4, te_eq (by omega) 4, by decide, fun p1 H2 n1 e1 h1 => ?_⟩
          refine cat_t (xs := IV [3]) (ys := IV (octO tail.toNat 4)) (e1 _ _ hp) h1 (iv_ne (n := 0) rfl) (by rw [iv_len, iv_len, octO_len]; show 1 + 4 ≤ 1000; decide) fun p2 H3 e2 h2 => ?_
          refine ⟨_, rfl, a, _, dx, _, _, rfl, ((y.trans e1).trans e2) _ _ ea, c, n _ (by simp [Rc.ix]), rfl, by show 1 ≤ sizeLine; decide, fun p3 n3 => ?_⟩
          have y3 := Evl.Ex.new (o := .tup [V.int count]) n3
          refine cat_t (xs := IV [3] ++ IV (octO tail.toNat 4)) (ys := IV [count]) (y3 _ _ h2) upd_same (by rw [← iv_app]; exact iv_ne (n := 4) (by rw [List.length_append, octO_len]; rfl)) (by rw [List.length_append, iv_len, iv_len, iv_len, octO_len]; show 1 + 4 + 1 ≤ 1000; decide) fun p4 H5 e4 h4 => ?_
          refine ⟨p4, [3] ++ octO tail.toNat 4 ++ [count], 30, rfl, by rw [h4, ← iv_app, ← iv_app], by simp, .inl (by rw [List.length_append, List.length_append, octO_len]; show 1 + 4 + 1 + 2 ≤ 30; decide), by decide, fun r H' e h => q r H' ((((y.trans e1).trans e2).trans y3).trans (e4.trans e)) ?_⟩
          rw [h]
          rfl
        | _ => cases h1
      · rw [decide_eq_false h1]
        have h2 : 2 ≤ r.ix := by omega
        obtain ⟨⟨⟨l1, l2⟩, l3, l4⟩, lf, _⟩ := fld4 (t := t) h2
        obtain ⟨⟨n1, n2⟩, n3, n4⟩ := nam4 h2
        obtain ⟨gs, gu⟩ := dd_ok h2 g
        have gd := gs.1
        have fl := facO_len h2 g
        have i4 : r.ix - 2 < 4 := by have := ix_lt r; omega
        refine iteF ⟨_, rfl, a, r, rfl, h2, ra, fun H1 e1 => ⟨true, rfl, iteF ?_⟩⟩
        refine ⟨r.ix, ⟨h2, ix_lt r⟩, _, rfl, a, dx, _, rfl, e1 _ _ ea, lf, a, dx, t, r, rfl, rfl, e1 _ _ ea, fun pf H2 np e2 hf => ?_⟩
        have e12 := e1.trans e2
        refine ⟨_, rfl, .inr (.inl ⟨pf, _, 0, _, rfl, rfl, SqT.of hf, fac0 h2, _, fnm r, _, rfl, rfl, FD (r.ix - 2) i4, by show 1 ≤ sizeLine; decide, fun p3 n3' => ?_⟩)⟩
        have ek : (4 : Int) + ((r.ix - 2 : Nat) : Int) = kdO r := by unfold kdO; omega
        rw [ek]
        have y3 := Evl.Ex.new (o := .tup [V.int (kdO r)]) n3'
        have hp3 := upd_same (H := H2) (a := p3) (o := .tup [V.int (kdO r)])
        generalize upd H2 p3 (.tup [V.int (kdO r)]) = H3 at y3 hp3 ⊢
        refine ⟨_, rfl, a, _, dx, _, _, rfl, (e12.trans y3) _ _ ea, c, n _ n1, l1, r.dd.toNat, 4, te_eq (by omega) 4, by decide, fun p4 H4 n4' e4 h4 => ?_⟩
        refine cat_t (xs := IV [kdO r]) (ys := IV (octO r.dd.toNat 4)) (e4 _ _ hp3) h4 (iv_ne (n := 0) rfl) (by rw [iv_len, iv_len, octO_len]; show 1 + 4 ≤ 1000; decide) fun p5 H5 e5 h5 => ?_
        have e15 := (e12.trans y3).trans (e4.trans e5)
        refine ⟨_, rfl, a, _, dx, _, _, rfl, e15 _ _ ea, c, n _ n2, l2, _, rfl, a, _, dx, _, _, rfl, e15 _ _ ea, c, n _ n3, l3, by show 2 ≤ sizeLine; decide, fun p6 n6 => ?_⟩
        have y6 := Evl.Ex.new (o := .tup [V.int r.aa, .int r.oo]) n6
        refine cat_t (xs := IV [kdO r] ++ IV (octO r.dd.toNat 4)) (ys := IV [r.aa, r.oo]) (y6 _ _ h5) upd_same (by rw [← iv_app]; exact iv_ne (n := 4) (by rw [List.length_append, octO_len]; rfl)) (by rw [List.length_append, iv_len, iv_len, iv_len, octO_len]; show 1 + 4 + 2 ≤ 1000; decide) fun p7 H7 e7 h7 => ?_
        have e17 := (e15.trans y6).trans e7
        have hf7 := ((y3.trans (e4.trans e5)).trans (y6.trans e7)) _ _ hf
        refine ⟨_, rfl, _, rfl, pf, t, r, rfl, h2, g, hf7, oc.ex e17, fun p8 H8 e8 h8 => ?_⟩
        refine cat_t (xs := IV [kdO r] ++ IV (octO r.dd.toNat 4) ++ IV [r.aa, r.oo]) (ys := IV (facO r)) (e8 _ _ h7) h8 (by rw [← iv_app, ← iv_app]; exact iv_ne (n := 6) (by rw [List.length_append, List.length_append, octO_len]; rfl)) (by rw [List.length_append, List.length_append, iv_len, iv_len, iv_len, iv_len, octO_len]; show 1 + 4 + 2 + _ ≤ 1000; omega) fun p9 H9 e9 h9 => ?_
        have e19 := e17.trans (e8.trans e9)
        have l7 : ([kdO r] ++ octO r.dd.toNat 4 ++ [r.aa, r.oo] ++ facO r).length = 7 + (facO r).length := by
          rw [List.length_append, List.length_append, List.length_append, octO_len]
          rfl
        refine ⟨p9, [kdO r] ++ octO r.dd.toNat 4 ++ [r.aa, r.oo] ++ facO r, 26, rfl, by rw [h9, ← iv_app, ← iv_app, ← iv_app], by simp, (by rw [l7]; omega), by decide, fun pA HA eA hA => ?_⟩
        have e1A := e19.trans eA
        refine ⟨_, rfl, a, _, dx, _, _, rfl, e1A _ _ ea, c, n _ n4, l4, r.uu.toNat, 4, te_eq (uu_ok h2 g).1 4, by decide, fun pB HB nB eB hB => ?_⟩
        have pl : (pad 26 ([kdO r] ++ octO r.dd.toNat 4 ++ [r.aa, r.oo] ++ facO r)).length = 26 := by
          unfold pad
          rw [List.length_append, List.length_replicate, l7]
          omega
        refine cat_t (xs := IV (pad 26 ([kdO r] ++ octO r.dd.toNat 4 ++ [r.aa, r.oo] ++ facO r))) (ys := IV (octO r.uu.toNat 4)) (eB _ _ hA) hB (iv_ne (n := 25) pl) (by rw [iv_len, iv_len, pl, octO_len]; decide) fun pC HC eC hC => ?_
        refine q pC HC ((e1A.trans eB).trans eC) ?_
        rw [hC, octs_tree h2, ← iv_app]
        rfl
end
end K12
/-! the law's draws -/
namespace K12
open PySem PySem.Spec PyProof.Rows L2 VB BM
section
variable {P : Program} {w : World} {K : PySem.W.Frag} {mg : Str → Option Value} {base : Heap} {f : Addr} {fd : FuncData}
theorem exb_mut {b D : Addr} {H H' : Hp} {o : HO} (e : Exb b H H') (n : H D = none) : Exb b H (upd H' D o) := fun a u ne h => by
  rw [upd_ne (fun z => by rw [z, n] at h; cases h)]
  exact e a u ne h
theorem box_mut {b D : Addr} {H : Hp} {o : HO} {c : Int} (B : Box H b c) (n : D ≠ b) : Box (upd H D o) b c := by
  obtain ⟨d, m, k, t, h, r⟩ := B
  exact ⟨d, m, k, t, by rw [upd_ne (Ne.symm n)]; exact h, r⟩
theorem ix_l {H : Hp} {l : Addr} {xs : List V} {r : Int} {Q : VK} (h : H l = some (.lst xs)) (r0 : 0 ≤ r) (r1 : r < (xs.length : Int)) (q : ∀ v ∈ xs, Q v H) : rIx K (.ref l) (.int r) H Q := by
  obtain ⟨j, rfl⟩ : ∃ j : Nat, r = j := ⟨r.toNat, by omega⟩
  have hj : j < xs.length := by omega
  exact Sv.ix (x := .non) (Sv.lst h) (i := (j : Int)) (atI_nat (List.getElem?_eq_getElem hj)) (q _ (List.getElem_mem hj))
theorem clamp {lo hi : Int} (h : lo ≤ hi) (z : Int) : lo ≤ (if (if z < hi then z else hi) > lo then (if z < hi then z else hi) else lo) ∧ (if (if z < hi then z else hi) > lo then (if z < hi then z else hi) else lo) ≤ hi := by
  split <;> split at * <;> omega
def spNum : Sp := fun vs H Q _ => ∃ (bx : Addr) (c lo hi : Int), vs = [.ref bx, .int lo, .int hi] ∧ 0 ≤ lo ∧ lo ≤ hi ∧ hi ≤ 4294967295 ∧ Box H bx c ∧ c < 60000000 ∧ ∀ (n : Int) (H' : Hp), lo ≤ n → n ≤ hi → Exb bx H H' → Box H' bx (c + 2) → Q (.int n) H'
theorem ok_num (T : Txt K mg) (F : FnP K "_law_number" s__law_number f fd) (C__law_take : Cal P w K mg base CX0 1 "_law_take" ["_law_box_here", "_law_many"] spTake) : Fg P w K mg base CX0 2 f fd ["_law_box_here", "_law_least", "_law_most"] spNum := by
  refine fg_of F sc__law_number (fun vs H Q E h => ?_) (fun cdv A outer s H vs Q E hr h => ⟨_, (PSs.nox (pss_cons (ps_set (i := 3) sc__law_number.nd rfl (by first | exact Or.inl rfl | exact Or.inr rfl) (pe_cal C__law_take hr.le pass0 (pa_cons (pv 0) (pa_cons pe_int pa_nil))))
  (pss_cons (ps_if (pt_cmpR op_lt (pv 3) pe_int (nomark _))
  (pss_one (ps_ret (pe_ix (u_ix (K := K)) (pe_lst (pa_cons (pv 1) (pa_cons (pv 2) pa_nil))) (pv 3) (fun _ _ => rfl)))) pss_nil)
  (pss_cons (ps_if (pt_cmpR (u_eq (K := K) hr) (pv 3) pe_int (nomark _))
  (pss_one (ps_ret (pe_callB (call_max2 rfl) (by rfl) T.f_max (by decide +kernel) (pa_cons (pv 1) (pa_cons (pe_callB (call_min2 rfl) (by rfl) T.f_min (by decide +kernel) (pa_cons (pv 2) (pa_cons (pe_ix (u_ix (K := K)) (pe_lst (pa_cons (pe_op (u_add (K := K)) (pv 1) pe_int) (pa_cons (pe_op op_sub (pv 2) pe_int) pa_nil))) (pe_cal C__law_take hr.le pass0 (pa_cons (pv 0) (pa_cons pe_int pa_nil))) (fun _ _ => rfl)) pa_nil))) pa_nil))))) pss_nil)
  (pss_cons (ps_if (pt_cmpR (u_eq (K := K) hr) (pv 3) pe_int (nomark _))
  (pss_cons (ps_set (i := 4) sc__law_number.nd rfl (by first | exact Or.inl rfl | exact Or.inr rfl) (pe_lst (pa_cons pe_int (pa_cons pe_int (pa_cons pe_int (pa_cons pe_int (pa_cons pe_int (pa_cons pe_int (pa_cons pe_int (pa_cons pe_int pa_nil))))))))))
  (pss_one (ps_ret (pe_callB (call_max2 rfl) (by rfl) T.f_max (by decide +kernel) (pa_cons (pv 1) (pa_cons (pe_callB (call_min2 rfl) (by rfl) T.f_min (by decide +kernel) (pa_cons (pv 2) (pa_cons (pe_ix (u_ix (K := K)) (pv 4) (pe_cal C__law_take hr.le pass0 (pa_cons (pv 0) (pa_cons pe_int pa_nil))) (fun _ _ => rfl)) pa_nil))) pa_nil)))))) pss_nil)
  (pss_one (ps_ret (pe_op (u_add (K := K)) (pv 1) (pe_cal C__law_take hr.le pass0 (pa_cons (pv 0) (pa_cons (pe_op (u_add (K := K)) (pe_op op_sub (pv 2) (pv 1)) pe_int) pa_nil))))))))))), ?_⟩)
  · obtain ⟨bx, c, lo, hi, rfl, _⟩ := h
    rfl
  · obtain ⟨bx, c, lo, hi, rfl, h0, h1, h2, B, hc, q⟩ := h
    refine ⟨_, rfl, bx, 6, c, rfl, B, by decide, by decide, by omega, fun r H1 r0 r6 e1 B1 => ?_⟩
    refine ⟨_, rfl, _, _, rfl, rfl, _, rfl, ?_⟩
    by_cases w2 : r < 2
    · rw [decide_eq_true w2]
      refine iteT ⟨_, rfl, _, rfl, by show 2 ≤ sizeLine; decide, fun l nl => ⟨_, rfl, ix_l upd_same r0 w2 ?_⟩⟩
      have y := Evl.Ex.new (o := .lst [V.int lo, .int hi]) nl
      intro v hv
      have B2 := (B1.ex y).le (show c + 1 ≤ c + 2 by omega)
      rcases List.mem_cons.mp hv with rfl | hv
      · exact q lo _ (by omega) h1 (e1.trans (Exb.of y)) B2
      · rcases List.mem_cons.mp hv with rfl | hv
        · exact q hi _ h1 (by omega) (e1.trans (Exb.of y)) B2
        · cases hv
    rw [decide_eq_false w2]
    refine iteF ⟨_, rfl, .inl ⟨rfl, _, rfl, ?_⟩⟩
    by_cases w3 : r = 2
    · subst w3
      rw [decide_eq_true rfl]
      refine iteT ⟨_, rfl, _, rfl, _, rfl, .inl ⟨_, _, rfl, rfl, _, rfl, _, _, rfl, rfl, by show 2 ≤ sizeLine; decide, fun l nl => ?_⟩⟩
      have y := Evl.Ex.new (o := .lst [V.int (lo + 1), .int (hi - 1)]) nl
      refine ⟨_, rfl, bx, 2, c + 1, rfl, B1.ex y, by decide, by decide, by omega, fun r' H2 r0' r2' e2 B2 => ?_⟩
      have hl : H2 l = some (.lst [V.int (lo + 1), .int (hi - 1)]) := e2 _ _ ((B1.at nl)) upd_same
      refine ix_l hl r0' r2' fun v hv => ?_
      obtain ⟨z, rfl⟩ : ∃ z, v = V.int z := by
        rcases List.mem_cons.mp hv with rfl | hv
        · exact ⟨_, rfl⟩
        · rcases List.mem_cons.mp hv with rfl | hv
          · exact ⟨_, rfl⟩
          · cases hv
      obtain ⟨c1, c2⟩ := clamp h1 z
      exact ⟨_, _, rfl, _, _, rfl, q _ _ c1 c2 ((e1.trans (Exb.of y)).trans e2) (by rw [show c + 2 = c + 1 + 1 by omega]; exact B2)⟩
    · have e2 : decide (V.int r = V.int 2) = false := decide_eq_false fun z => w3 (V.int.inj z)
      rw [e2]
      refine iteF ⟨_, rfl, .inl ⟨rfl, _, rfl, ?_⟩⟩
      by_cases w4 : r = 3
      · subst w4
        refine iteT ?_
        refine ⟨by show 8 ≤ sizeLine; decide, fun l nl => ?_⟩
        have y := Evl.Ex.new (o := .lst [V.int 255, .int 256, .int 257, .int 65535, .int 65536, .int 16777215, .int 16777216, .int 16777217]) nl
        refine ⟨_, rfl, _, rfl, _, rfl, _, rfl, bx, 8, c + 1, rfl, B1.ex y, by decide, by decide, by omega, fun r' H2 r0' r2' e2 B2 => ?_⟩
        have hl : H2 l = some (.lst [V.int 255, .int 256, .int 257, .int 65535, .int 65536, .int 16777215, .int 16777216, .int 16777217]) := e2 _ _ ((B1.at nl)) upd_same
        refine ix_l hl r0' r2' fun v hv => ?_
        obtain ⟨z, rfl⟩ : ∃ z, v = V.int z := by
          have : ∀ v ∈ IV [255, 256, 257, 65535, 65536, 16777215, 16777216, 16777217], ∃ z, v = V.int z := fun v hv => by
            obtain ⟨z, _, rfl⟩ := List.mem_map.mp hv
            exact ⟨z, rfl⟩
          exact this v hv
        obtain ⟨c1, c2⟩ := clamp h1 z
        exact ⟨_, _, rfl, _, _, rfl, q _ _ c1 c2 ((e1.trans (Exb.of y)).trans e2) (by rw [show c + 2 = c + 1 + 1 by omega]; exact B2)⟩
      · have e3 : decide (V.int r = V.int 3) = false := decide_eq_false fun z => w4 (V.int.inj z)
        rw [e3]
        refine iteF ?_
        refine ⟨_, rfl, _, rfl, _, rfl, _, rfl, _, _, rfl, rfl, .inl ⟨_, _, rfl, rfl, bx, hi - lo + 1, c + 1, rfl, B1, by omega, by omega, by omega, fun r' H2 r0' r2' e2 B2 => ?_⟩⟩
        exact .inl ⟨_, _, rfl, rfl, q _ _ (by omega) (by omega) (e1.trans e2) (by rw [show c + 2 = c + 1 + 1 by omega]; exact B2)⟩
def spOct : Sp := fun vs H Q _ => ∃ (bx : Addr) (c : Int), vs = [.ref bx] ∧ Box H bx c ∧ c < 60000000 ∧ ∀ (n : Int) (H' : Hp), 0 ≤ n → n ≤ 255 → Exb bx H H' → Box H' bx (c + 1) → Q (.int n) H'
theorem ok_octet (T : Txt K mg) (F : FnP K "_law_octet" s__law_octet f fd) (C__law_take : Cal P w K mg base CX0 1 "_law_take" ["_law_box_here", "_law_many"] spTake) : Fg P w K mg base CX0 2 f fd ["_law_box_here"] spOct := by
  refine fg_of F sc__law_octet (fun vs H Q E h => ?_) (fun cdv A outer s H vs Q E hr h => ⟨_, (PSs.nox (pss_cons (ps_set (i := 1) sc__law_octet.nd rfl (by first | exact Or.inl rfl | exact Or.inr rfl) (pe_cal C__law_take hr.le pass0 (pa_cons (pv 0) (pa_cons pe_int pa_nil))))
  (pss_one (ps_ret (pe_ifExp (pt_cmpR op_lt (pv 1) pe_int (nomark _)) (pv 1) (pe_ix (u_ix (K := K)) (pe_lst (pa_cons pe_int (pa_cons pe_int pa_nil))) (pe_op u_mod (pe_callTy call_int1 (by rfl) T.f_int (by decide +kernel) (pa_cons (pv 1) pa_nil)) pe_int) (fun _ _ => rfl))))))), ?_⟩)
  · obtain ⟨bx, c, rfl, _⟩ := h
    rfl
  · obtain ⟨bx, c, rfl, B, hc, q⟩ := h
    refine ⟨_, rfl, bx, 300, c, rfl, B, by decide, by decide, by omega, fun r H1 r0 r6 e1 B1 => ?_⟩
    refine ⟨_, rfl, _, _, rfl, rfl, _, rfl, ?_⟩
    by_cases w2 : r < 256
    · rw [decide_eq_true w2]
      exact iteT ⟨_, rfl, q _ _ r0 (by omega) e1 B1⟩
    · rw [decide_eq_false w2]
      refine iteF ⟨by show 2 ≤ sizeLine; decide, fun l nl => ?_⟩
      have y := Evl.Ex.new (o := .lst [V.int 0, .int 255]) nl
      have n2 : (0 : Int) < 2 := by decide
      refine ⟨_, rfl, .inl ⟨_, rfl, _, _, rfl, rfl, n2, ix_l upd_same (Int.emod_nonneg _ (by decide)) (Int.emod_lt_of_pos _ (by decide)) fun v hv => ?_⟩⟩
      have B2 := B1.ex y
      rcases List.mem_cons.mp hv with rfl | hv
      · exact q 0 _ (by decide) (by decide) (e1.trans (Exb.of y)) B2
      · rcases List.mem_cons.mp hv with rfl | hv
        · exact q 255 _ (by decide) (by decide) (e1.trans (Exb.of y)) B2
        · cases hv
def spLet : Sp := fun vs H Q _ => ∃ (bx : Addr) (c : Int), vs = [.ref bx] ∧ Box H bx c ∧ c < 60000000 ∧ ∀ (x : Str) (H' : Hp), Nm x → Exb bx H H' → Box H' bx (c + 9) → Q (.str x) H'
theorem ok_letters (T : Txt K mg) (F : FnP K "_law_letters" s__law_letters f fd) (C__law_take : Cal P w K mg base CX0 1 "_law_take" ["_law_box_here", "_law_many"] spTake) : Fg P w K mg base CX0 2 f fd ["_law_box_here"] spLet := by
  refine fg_of F sc__law_letters (fun vs H Q E h => ?_) (fun cdv A outer s H vs Q E hr h => ⟨_, (PSs.nox (pss_one (ps_ret (pe_bm PySem.F.plainAttrs_str PySem.F.slot_str_join PySem.F.type_str_join mt_join1 pe_str (pa_cons (pe_lc (own := [("_law_k", 1)]) rfl sc__law_letters.nd (pi_range1 rfl T.f_range (pa_cons (pe_op (u_add (K := K)) pe_int (pe_cal C__law_take hr.le pass0 (pa_cons (pv 0) (pa_cons pe_int pa_nil)))) pa_nil)) (blkOk_by (own := [("_law_k", 1)]) (N := ["_law_box_here", "_law_k"]) (sc := defScope s__law_letters) (by decide +kernel)) (fun _ _ _ _ _ => (pg_name (i := 1) sc__law_letters.nd rfl (by first | exact Or.inl rfl | exact Or.inr rfl))) (fun _ _ _ _ _ => pts_nil) (fun _ _ _ _ _ => (pe_ix (u_ix (K := K)) pe_str (pe_cal C__law_take hr.le pass0 (pa_cons (pv 0) (pa_cons pe_int pa_nil))) (fun _ _ => rfl)))) pa_nil))))), ?_⟩)
  · obtain ⟨bx, c, rfl, _⟩ := h
    rfl
  · obtain ⟨bx, c, rfl, B, hc, q⟩ := h
    refine ⟨rfl, _, rfl, bx, 8, c, rfl, B, by decide, by decide, by omega, fun r H1 r0 r8 e1 B1 => .inl ⟨_, _, rfl, rfl, 1 + r, rfl, by omega, by omega, fun D hD => ?_⟩⟩
    obtain ⟨n, hn, n1, n8⟩ : ∃ n : Nat, (1 + r).toNat = n ∧ 1 ≤ n ∧ n ≤ 8 := ⟨_, rfl, by omega, by omega⟩
    rw [hn]
    refine lc_range (lo := 0) (n := n) (fun i H' => i ≤ n ∧ Exb bx H1 H' ∧ Box H' bx (c + 1 + (i : Int)) ∧ ∃ cs : List Nat, cs.length = i ∧ (∀ z ∈ cs, 97 ≤ z ∧ z ≤ 122) ∧ H' D = some (.lst (cs.map chV))) ⟨by omega, Exb.new hD, by rw [show c + 1 + ((0 : Nat) : Int) = c + 1 by omega]; exact B1.ex (Evl.Ex.new hD), [], rfl, (fun z hz => by cases hz), upd_same⟩ ?_ ?_
    · rintro i H2 hi ⟨_, e2, B2, cs, lc, hcs, h2⟩
      refine ⟨rfl, ?_⟩
      refine ⟨_, rfl, bx, 26, c + 1 + (i : Int), rfl, B2, by decide, by decide, by omega, fun z H3 z0 z26 e3 B3 => ?_⟩
      obtain ⟨j, rfl⟩ : ∃ j : Nat, z = j := ⟨z.toNat, by omega⟩
      have hj : j < 26 := by omega
      have Db : D ≠ bx := (B1.at hD)
      have ha : atI ("abcdefghijklmnopqrstuvwxyz" : Str).cps.toList (j : Int) = some (97 + j) := by
        have e : ("abcdefghijklmnopqrstuvwxyz" : Str).cps.toList = (List.range 26).map (97 + ·) := by decide +kernel
        exact atI_nat (by rw [e]; simp [hj])
      refine .inr (.inr ⟨_, _, 97 + j, rfl, rfl, by show 26 ≤ sizeLine; decide, ha, cs.map chV, e3 _ _ Db h2, by rw [List.length_map]; exact Evl.sz_lt (by omega), by omega, exb_mut (e2.trans e3) hD, ?_, cs ++ [97 + j], by rw [List.length_append, lc]; rfl, fun z hz => ?_, ?_⟩)
      · rw [show c + 1 + ((i + 1 : Nat) : Int) = c + 1 + (i : Int) + 1 by omega]
        exact box_mut B3 Db
      · rcases List.mem_append.mp hz with hz | hz
        · exact hcs z hz
        · have : z = 97 + j := by simpa using hz
          omega
      · rw [upd_same, List.map_append]
        rfl
    · rintro H2 ⟨_, e2, B2, cs, lc, hcs, h2⟩
      refine ⟨D, cs, rfl, rfl, h2, by omega, q _ _ ⟨?_, ?_, ?_⟩ (e1.trans e2) ?_⟩
      · show 1 ≤ cs.toArray.size
        rw [List.size_toArray]
        omega
      · show cs.toArray.size ≤ 8
        rw [List.size_toArray]
        omega
      · intro z hz
        exact hcs z (by simpa using hz)
      · exact B2.le (by omega)
end
end K12
/-! until, digits -/
namespace K12
open PySem PySem.Spec PyProof.Rows L2 VB BM
theorem octO_succ (n i : Nat) : octO n (i + 1) = ((n / 2 ^ (8 * i) % 256 : Nat) : Int) :: octO n i := by
  unfold octO
  rw [List.range_succ_eq_map, List.map_cons, List.map_map]
  congr 1
  refine List.map_congr_left fun j hj => ?_
  have hj := List.mem_range.mp hj
  show ((n / 2 ^ (8 * (i + 1 - 1 - (j + 1))) % 256 : Nat) : Int) = _
  rw [show i + 1 - 1 - (j + 1) = i - 1 - j by omega]
section
variable {P : Program} {w : World} {K : PySem.W.Frag} {mg : Str → Option Value} {base : Heap} {f : Addr} {fd : FuncData}
def spUnt : Sp := fun vs H Q _ => ∃ (bx p : Addr) (c d a o : Int), vs = [.ref bx, .ref p] ∧ H p = some (.lst [.int d, .int a, .int o]) ∧ p ≠ bx ∧ 1 ≤ d ∧ d ≤ 4294967295 ∧ 0 ≤ o ∧ Box H bx c ∧ c < 50000000 ∧ ∀ (u : Int) (H' : Hp), Until d o u → Exb bx H H' → Box H' bx (c + 3) → Q (.int u) H'
theorem ok_until (T : Txt K mg) (F : FnP K "_law_until" s__law_until f fd) (C__law_take : Cal P w K mg base CX0 1 "_law_take" ["_law_box_here", "_law_many"] spTake) (C__law_number : Cal P w K mg base CX0 2 "_law_number" ["_law_box_here", "_law_least", "_law_most"] spNum) : Fg P w K mg base CX0 3 f fd ["_law_box_here", "_law_place"] spUnt := by
  refine fg_of F sc__law_until (fun vs H Q E h => ?_) (fun cdv A outer s H vs Q E hr h => ⟨_, (PSs.nox (pss_cons (ps_if (PW.pt (pw_or (pt_cmpR op_gt (pe_ix (u_ix (K := K)) (pv 1) pe_int (fun _ _ => rfl)) pe_int (nomark _)) (pw_or (pt_cmpR (u_eq (K := K) hr) (pe_ix (u_ix (K := K)) (pv 1) pe_int (fun _ _ => rfl)) pe_int (nomark _)) (pw_or1 (pt_cmpR (u_eq (K := K) hr) (pe_cal C__law_take hr.le pass0 (pa_cons (pv 0) (pa_cons pe_int pa_nil))) pe_int (nomark _))))))
  (pss_one (ps_ret pe_int)) pss_nil)
  (pss_one (ps_ret (pe_cal C__law_number hr.le pass0 (pa_cons (pv 0) (pa_cons (pe_op (u_add (K := K)) (pe_ix (u_ix (K := K)) (pv 1) pe_int (fun _ _ => rfl)) pe_int) (pa_cons pe_int pa_nil)))))))), ?_⟩)
  · obtain ⟨bx, p, c, d, a, o, rfl, _⟩ := h
    rfl
  · obtain ⟨bx, p, c, d, a, o, rfl, hp, pb, h1, h2, h3, B, hc, q⟩ := h
    have B3 : ∀ {H' : Hp} {k : Int}, Box H' bx k → k ≤ c + 3 → Box H' bx (c + 3) := fun B h => B.le h
    refine ⟨_, rfl, .inl ⟨p, _, 2, _, rfl, rfl, SqL.of hp, rfl, _, _, rfl, rfl, _, rfl, ?_⟩⟩
    by_cases o0 : 0 < o
    · rw [decide_eq_true o0]
      exact iteT (q 0 H (.inl rfl) (fun _ _ _ z => z) (B3 B (by omega)))
    · rw [decide_eq_false o0]
      refine iteF ⟨_, rfl, .inl ⟨p, _, 0, _, rfl, rfl, SqL.of hp, rfl, .inl ⟨rfl, _, rfl, ?_⟩⟩⟩
      by_cases dM : d = 4294967295
      · rw [dM, decide_eq_true rfl]
        exact iteT (q 0 H (.inl rfl) (fun _ _ _ z => z) (B3 B (by omega)))
      · rw [decide_eq_false (fun z => dM (V.int.inj z))]
        refine iteF ⟨_, rfl, bx, 3, c, rfl, B, by decide, by decide, by omega, fun r H1 r0 r3 e1 B1 => ?_⟩
        refine .inl ⟨rfl, _, rfl, ?_⟩
        by_cases rz : r = 0
        · rw [rz, decide_eq_true rfl]
          exact iteT (q 0 H1 (.inl rfl) e1 (B3 B1 (by omega)))
        · rw [decide_eq_false (fun z => rz (V.int.inj z))]
          refine iteF ⟨_, rfl, _, rfl, .inl ⟨p, _, 0, _, rfl, rfl, SqL.of (e1 _ _ pb hp), rfl, .inl ⟨_, _, rfl, rfl, bx, c + 1, d + 1, 4294967295, rfl, by omega, by omega, by decide, B1, by omega, fun n H2 n1 n2 e2 B2 => ?_⟩⟩⟩
          exact q n H2 (.inr ⟨by omega, n1, n2⟩) (e1.trans e2) (B3 B2 (by omega))
def spDig : Sp := fun vs H Q _ => ∃ (n : Int) (c : Nat), vs = [.int n, .int (c : Int)] ∧ 0 ≤ n ∧ c ≤ 8 ∧ RL (IV (octO n.toNat c)) H Q
theorem ok_digits (T : Txt K mg) (F : FnP K "_law_digits" s__law_digits f fd) : Fg P w K mg base CX0 1 f fd ["_law_number_here", "_law_count"] spDig := by
  refine fg_of F sc__law_digits (fun vs H Q E h => ?_) (fun cdv A outer s H vs Q E hr h => ⟨_, (PSs.nox (pss_cons (ps_par (i := 2) (j := 3) rfl sc__law_digits.nd rfl rfl (by decide) rfl rfl (pa_cons (pe_lst pa_nil) (pa_cons (pv 0) pa_nil)) (by rfl))
  (pss_cons (ps_for PassesOwn.never rfl (pi_range1 rfl T.f_range (pa_cons (pv 1) pa_nil)) (pg_name (i := 4) sc__law_digits.nd rfl (by first | exact Or.inl rfl | exact Or.inr rfl))
  (pss_cons (ps_set (i := 2) sc__law_digits.nd rfl (by first | exact Or.inl rfl | exact Or.inr rfl) (pe_op (u_add (K := K)) (pe_lst (pa_cons (pe_op u_mod (pe_callTy call_int1 (by rfl) T.f_int (by decide +kernel) (pa_cons (pv 3) pa_nil)) pe_int) pa_nil)) (pv 2)))
  (pss_one (ps_set (i := 3) sc__law_digits.nd rfl (by first | exact Or.inl rfl | exact Or.inr rfl) (pe_op u_fdiv (pv 3) pe_int)))))
  (pss_one (ps_ret (pv 2)))))), ?_⟩)
  · obtain ⟨n, c, rfl, _⟩ := h
    rfl
  · obtain ⟨n, c, rfl, n0, c8, q⟩ := h
    obtain ⟨m, rfl⟩ : ∃ m : Nat, n = m := ⟨n.toNat, by omega⟩
    rw [Int.toNat_natCast] at q
    refine ⟨by show 0 ≤ sizeLine; decide, fun l nl => ?_⟩
    have yl := Evl.Ex.new (o := .lst []) nl
    have hl := upd_same (H := H) (a := l) (o := .lst [])
    refine ⟨_, rfl, _, _, rfl, _, rfl, (c : Int), rfl, by omega, by omega, ?_⟩
    have cn : ((c : Int)).toNat = c := by omega
    rw [cn]
    generalize upd H l (.lst []) = H0 at yl hl ⊢
    refine for_range (lo := 0) (n := c) (fun i σ H' => i ≤ c ∧ Evl.Ex H H' ∧ ∃ (g : Addr) (v4 : Option V), H g = none ∧ H' g = some (.lst (IV (octO m i))) ∧ σ = [some (.int (m : Int)), some (.int (c : Int)), some (.ref g), some (.int ((m / 2 ^ (8 * i) : Nat) : Int)), v4]) ⟨by omega, yl, l, _, nl, hl, by rw [Nat.mul_zero, Nat.pow_zero, Nat.div_one]; rfl⟩ ?_ ?_
    · rintro i σ H1 hi ⟨_, e1, g, v4, ng, hg, rfl⟩
      have p256 : (0 : Int) < 256 := by decide
      refine ⟨_, rfl, .inl ⟨_, rfl, _, _, rfl, rfl, p256, by show 1 ≤ sizeLine; decide, fun z nz => ?_⟩⟩
      have yz := Evl.Ex.new (o := .lst [V.int (((m / 2 ^ (8 * i) : Nat) : Int) % 256)]) nz
      refine ⟨_, rfl, .inr (.inl ⟨z, g, _, _, rfl, rfl, upd_same, yz _ _ hg, by rw [iv_len, octO_len]; show 1 + i ≤ sizeLine; exact Evl.sz_of (by omega), fun r nr => ?_⟩)⟩
      have yr := Evl.Ex.new (o := .lst ([V.int (((m / 2 ^ (8 * i) : Nat) : Int) % 256)] ++ IV (octO m i))) nr
      refine ⟨_, rfl, _, _, rfl, rfl, ⟨by decide, by decide⟩, by omega, (e1.trans yz).trans yr, r, some (.int (0 + (i : Int))), Evl.fresh_back (e1.trans yz) nr, ?_, ?_⟩
      · rw [upd_same, octO_succ]
        rfl
      · have e : ((m / 2 ^ (8 * i) : Nat) : Int) / 256 = ((m / 2 ^ (8 * (i + 1)) : Nat) : Int) := by
          rw [show 8 * (i + 1) = 8 * i + 8 by omega, Nat.pow_add, ← Nat.div_div_eq_div_mul]
          rfl
        show [some (V.int (m : Int)), some (.int (c : Int)), some (.ref r), some (.int (((m / 2 ^ (8 * i) : Nat) : Int) / 256)), some (.int (0 + (i : Int)))] = _
        rw [e]
    · rintro σ H1 ⟨_, e1, g, v4, ng, hg, rfl⟩
      exact ⟨_, rfl, q g H1 ng e1 hg⟩
end
end K12
/-! drawn rows -/
namespace K12
open PySem PySem.Spec PyProof.Rows L2 VB BM
theorem row_ne {H : Hp} {l bx : Addr} {r : Rc} {c : Int} (h : RowAt H l r) (B : Box H bx c) : l ≠ bx := fun z => by
  obtain ⟨t, h1, _⟩ := h
  obtain ⟨d, m, k, b, h2, _⟩ := B
  rw [z, h2] at h1
  cases r <;> (have := HO.lst.inj (Option.some.inj h1); cases this)
theorem RowAt.xb {H H' : Hp} {l bx : Addr} {r : Rc} {c : Int} (h : RowAt H l r) (B : Box H bx c) (e : Exb bx H H') : RowAt H' l r := by
  have n := row_ne h B
  obtain ⟨t, h1, h2⟩ := h
  refine ⟨t, e _ _ n h1, h2.xb (fun xs z => ?_) e⟩
  obtain ⟨d, m, k, b, h3, _⟩ := B
  rw [h3] at z
  cases z
section
variable {P : Program} {w : World} {K : PySem.W.Frag} {mg : Str → Option Value} {base : Heap} {f : Addr} {fd : FuncData}
theorem pk {H : Hp} {bx l : Addr} {c n : Int} {Q : VK} (zs : List Int) (B : Box H bx c) (nl : H l = none) (h0 : 0 < zs.length) (hn : (zs.length : Int) = n) (h2 : n < 100) (hc : c < 100000000) (q : ∀ (z : Int) (H' : Hp), z ∈ zs → Exb bx H H' → Box H' bx (c + 1) → Q (.int z) H') :
    spTake [.ref bx, .int n] (upd H l (.lst (IV zs))) (fun r H1 => rIx K (.ref l) r H1 Q) noX := by
  have y := Evl.Ex.new (o := .lst (IV zs)) nl
  refine ⟨bx, n, c, rfl, B.ex y, by omega, by omega, hc, fun r H1 r0 r1 e1 B1 => ?_⟩
  have hl : H1 l = some (.lst (IV zs)) := e1 _ _ (B.at nl) upd_same
  refine ix_l hl r0 (by rw [iv_len]; omega) fun v hv => ?_
  obtain ⟨z, hz, rfl⟩ := List.mem_map.mp hv
  exact q z H1 hz ((Exb.of y).trans e1) B1
theorem most_at {s : Int} (h0 : 0 ≤ s) (h1 : s ≤ 96) : atI [V.int 0, .int 1, .int 3, .int 7, .int 15, .int 31, .int 63] ((s + 15) / 16) = some (.int (most s)) := by
  obtain ⟨n, hn, n6⟩ : ∃ n : Nat, (s + 15) / 16 = n ∧ n ≤ 6 := ⟨((s + 15) / 16).toNat, by omega, by omega⟩
  unfold most
  rw [hn, Int.toNat_natCast]
  match n, n6 with
  | 0, _ => rfl
  | 1, _ => rfl
  | 2, _ => rfl
  | 3, _ => rfl
  | 4, _ => rfl
  | 5, _ => rfl
  | 6, _ => rfl
theorem most_0 {s : Int} (h0 : 0 ≤ s) (h1 : s ≤ 96) : 0 ≤ most s ∧ most s ≤ 63 := by
  have k6 : ((s + 15) / 16).toNat ≤ 6 := by omega
  have p := Nat.pow_le_pow_right (show 0 < 2 by decide) k6
  have p1 := Nat.one_le_two_pow (n := ((s + 15) / 16).toNat)
  have e : (2 : Int) ^ ((s + 15) / 16).toNat = ((2 ^ ((s + 15) / 16).toNat : Nat) : Int) := by simp
  unfold most
  rw [e]
  have : (2 : Nat) ^ 6 = 64 := by decide
  omega
theorem cat_l {H : Hp} {a b : Addr} {xs ys : List V} {Q : VK} (h1 : H a = some (.lst xs)) (h2 : H b = some (.lst ys)) (z : xs.length + ys.length ≤ 1000) (k : RL (xs ++ ys) H Q) : rAddU K (.ref a) (.ref b) H Q :=
  .inr (.inl ⟨a, b, xs, ys, rfl, rfl, h1, h2, Nat.le_trans z (by decide), fun r nr => k r _ nr (Evl.Ex.new nr) upd_same⟩)
theorem Box.ne {H : Hp} {bx p : Addr} {c : Int} (B : Box H bx c) (h : H p = none) : p ≠ bx := B.at h
abbrev dw1 (K : PySem.W.Frag) : TS := (tAsg (tOp (rIx K) (tLst (tCons (tC (V.int 0)) (tCons (tC (V.int 1)) (tCons (tC (V.int 2)) (tCons (tC (V.int 3)) (tCons (tC (V.int 4)) (tCons (tC (V.int 5)) (tCons (tC (V.int 6)) (tCons (tC (V.int 0)) (tCons (tC (V.int 6)) tNil)))))))))) (tCall spTake [] E0 (tCons (tVar 0) (tCons (tC (V.int 9)) tNil)))) (gName 3))
abbrev dw2 (K : PySem.W.Frag) : TS := (tAsg (tLst (tCons (tCall spNum [] E0 (tCons (tVar 0) (tCons (tC (V.int 1)) (tCons (tC (V.int 4294967295)) tNil)))) (tCons (tIf (tTest (tOp (rI0 fun i j => V.bl (decide (j < i))) (tVar 3) (tC (V.int 0)))) (tCall spTake [] E0 (tCons (tVar 0) (tCons (tVar 3) tNil))) (tC (V.int 0))) (tCons (tVar 3) tNil)))) (gName 4))
abbrev dw3 (K : PySem.W.Frag) : TS := (tAsg (tCall spUnt [] E0 (tCons (tVar 0) (tCons (tVar 4) tNil))) (gName 5))
abbrev dw4 (K : PySem.W.Frag) : TS := (tIfS (tTest (tOp (rEqU K) (tVar 1) (tC (V.int 2)))) (tSeq (tAsg (tOp (rIx K) (tLst (tCons (tC (V.int 1)) (tCons (tC (V.int 0)) (tCons (tC (V.int 1)) (tCons (tC (V.int 2)) (tCons (tC (V.int 1)) (tCons (tC (V.int 1)) tNil))))))) (tCall spTake [] E0 (tCons (tVar 0) (tCons (tC (V.int 6)) tNil)))) (gName 6)) (tSeq (tAsg (tOp (rMulU K) (tOp (rIx K) (tLst (tCons (tC (V.int 0)) (tCons (tC (V.int 1)) (tCons (tC (V.int 15)) (tCons (tC (V.int 16)) (tCons (tC (V.int 17)) (tCons (tC (V.int 80)) (tCons (tC (V.int 81)) (tCons (tC (V.int 95)) (tCons (tC (V.int 96)) (tCons (tCall spTake [] E0 (tCons (tVar 0) (tCons (tC (V.int 97)) tNil))) tNil))))))))))) (tCall spTake [] E0 (tCons (tVar 0) (tCons (tC (V.int 10)) tNil)))) (tCB (fun xs H Q => (∃ i, xs = [V.int i] ∧ Q (V.int i) H) ∨ ∃ k, xs = [V.bl k] ∧ Q (V.int (if k = true then 1 else 0)) H) (tCons (tOp (rEqU K) (tVar 6) (tC (V.int 1))) tNil))) (gName 7)) (tSeq (tAsg (tOp (rIx K) (tLst (tCons (tC (V.int 0)) (tCons (tC (V.int 1)) (tCons (tC (V.int 3)) (tCons (tC (V.int 7)) (tCons (tC (V.int 15)) (tCons (tC (V.int 31)) (tCons (tC (V.int 63)) tNil)))))))) (tOp (rI (fun x j => 0 < j ∧ j < 1073741824) fun i j => V.int (i / j)) (tOp (rAddU K) (tVar 7) (tC (V.int 15))) (tC (V.int 16)))) (gName 8)) (tSeq (tAsg (tOp (rIx K) (tLst (tCons (tVar 8) (tCons (tC (V.int 0)) (tCons (tCall spTake [] E0 (tCons (tVar 0) (tCons (tOp (rAddU K) (tVar 8) (tC (V.int 1))) tNil))) (tCons (tOp (rI (fun x j => 0 < j ∧ j < 1073741824) fun i j => V.int (i / j)) (tVar 8) (tC (V.int 2))) tNil))))) (tCall spTake [] E0 (tCons (tVar 0) (tCons (tC (V.int 4)) tNil)))) (gName 9)) (tRet (tOp (rAddU K) (tOp (rAddU K) (tLst (tCons (tC (V.str ("Node"))) tNil)) (tVar 4)) (tLst (tCons (tCall spNum [] E0 (tCons (tVar 0) (tCons (tC (V.int 2)) (tCons (tC (V.int 65535)) tNil)))) (tCons (tVar 6) (tCons (tVar 7) (tCons (tVar 9) (tCons (tVar 5) tNil)))))))))))) tNext)
abbrev dw5 (K : PySem.W.Frag) : TS := (tIfS (tTest (tOp (rEqU K) (tVar 1) (tC (V.int 3)))) (tSeq (tAsg (tOp (rMulU K) (tCall spNum [] E0 (tCons (tVar 0) (tCons (tC (V.int 2)) (tCons (tC (V.int 65535)) tNil)))) (tCB (fun xs H Q => (∃ i, xs = [V.int i] ∧ Q (V.int i) H) ∨ ∃ k, xs = [V.bl k] ∧ Q (V.int (if k = true then 1 else 0)) H) (tCons (tOp (rI0 fun i j => V.bl (decide (j < i))) (tCall spTake [] E0 (tCons (tVar 0) (tCons (tC (V.int 4)) tNil))) (tC (V.int 0))) tNil))) (gName 10)) (tRet (tOp (rAddU K) (tOp (rAddU K) (tLst (tCons (tC (V.str ("Name"))) tNil)) (tVar 4)) (tLst (tCons (tCall spNum [] E0 (tCons (tVar 0) (tCons (tC (V.int 1)) (tCons (tC (V.int 65535)) tNil)))) (tCons (tCall spLet [] E0 (tCons (tVar 0) tNil)) (tCons (tVar 10) (tCons (tVar 5) tNil)))))))) tNext)
abbrev dw6 (K : PySem.W.Frag) : TS := (tIfS (tTest (tOp (rEqU K) (tVar 1) (tC (V.int 5)))) (tRet (tOp (rAddU K) (tOp (rAddU K) (tLst (tCons (tC (V.str ("Keep"))) tNil)) (tVar 4)) (tLst (tCons (tCall spLet [] E0 (tCons (tVar 0) tNil)) (tCons (tOp (rEqU K) (tCall spTake [] E0 (tCons (tVar 0) (tCons (tC (V.int 2)) tNil))) (tC (V.int 0))) (tCons (tVar 5) tNil)))))) tNext)
abbrev dw7 (K : PySem.W.Frag) : TS := (tAsg (tCB (rTupU K) (tCons (tLc (iRng1 (tCons (tC (V.int 16)) tNil)) (gName 12) tYes (tCall spOct [] E0 (tCons (tVar 0) tNil)) (List.map (fun x => x.snd) [(Str.ofString "_law_k", 12)])) tNil)) (gName 11))
abbrev dw8 (K : PySem.W.Frag) : TS := (tRet (tOp (rAddU K) (tOp (rAddU K) (tLst (tCons (tC (V.str ("Chunk"))) tNil)) (tVar 4)) (tLst (tCons (tCall spNum [] E0 (tCons (tVar 0) (tCons (tC (V.int 2)) (tCons (tC (V.int 65535)) tNil)))) (tCons (tCall spTake [] E0 (tCons (tVar 0) (tCons (tC (V.int 6)) tNil))) (tCons (tVar 11) (tCons (tVar 5) tNil)))))))
abbrev dwT (K : PySem.W.Frag) : TS := tSeq (dw3 K) (tSeq (dw4 K) (tSeq (dw5 K) (tSeq (dw6 K) (tSeq (dw7 K) (dw8 K)))))
theorem tree_run {D : Ends} {Q : VK} {bx p : Addr} {c k d a o : Int} {H : Hp} (eD : D.rt = Q) (k2 : 2 ≤ k) (k5 : k ≤ 5) (B : Box H bx c) (hc : c < 40000100) (hp : H p = some (.lst [.int d, .int a, .int o])) (pb : p ≠ bx) (st : Stamp d a o)
    (q : ∀ (l : Addr) (r : Rc) (H' : Hp), (r.ix : Int) = k → Good r → RowAt H' l r → Exb bx H H' → Box H' bx (c + 50) → Q (.ref l) H') : dwT K D [some (.ref bx), some (.int k), none, some (.int o), some (.ref p), none, none, none, none, none, none, none, none] H := by
  subst eD
  have kd : ∀ n : Int, k ≠ n → decide (V.int k = V.int n) = false := fun n h => decide_eq_false fun z => h (V.int.inj z)
  obtain ⟨s1, s2, s3, s4, s5, s6⟩ := st
  have o0 : 0 ≤ o := by split at s5 <;> omega
  refine ⟨_, rfl, _, rfl, bx, p, c, d, a, o, rfl, hp, pb, s1, s2, o0, B, by omega, fun u H1 hu e1 B1 => ?_⟩
  have hp1 := e1 _ _ pb hp
  refine ⟨_, rfl, .inl ⟨rfl, _, rfl, ?_⟩⟩
  by_cases h2 : k = 2
  · subst h2
    rw [decide_eq_true rfl]
    refine iteT ?_
    have n2 : (0 : Int) < 2 ∧ (2 : Int) < 1073741824 := by decide
    have n16 : (0 : Int) < 16 ∧ (16 : Int) < 1073741824 := by decide
    refine ⟨by show 6 ≤ sizeLine; decide, fun l nl => ⟨_, rfl, pk [1, 0, 1, 2, 1, 1] B1 nl (by decide) rfl (by decide) (by omega) fun v H2 hv e2 B2 => ?_⟩⟩
    have v02 : 0 ≤ v ∧ v ≤ 2 := by
      have : ∀ z ∈ ([1, 0, 1, 2, 1, 1] : List Int), 0 ≤ z ∧ z ≤ 2 := by decide
      exact this v hv
    refine ⟨_, rfl, bx, 97, _, rfl, B2, by decide, by decide, by omega, fun z H3 z0 z97 e3 B3 => ⟨by show 10 ≤ sizeLine; decide, fun l2 nl2 => ⟨_, rfl, pk [0, 1, 15, 16, 17, 80, 81, 95, 96, z] B3 nl2 (Nat.succ_pos _) rfl (by decide) (by omega) fun s0 H4 hs0 e4 B4 => ?_⟩⟩⟩
    have s096 : 0 ≤ s0 ∧ s0 ≤ 96 := by
      simp only [List.mem_cons, List.not_mem_nil, or_false] at hs0
      omega
    refine ⟨_, rfl, .inl ⟨rfl, .inr ⟨_, rfl, .inl ⟨_, _, rfl, rfl, mulx_ok (a := 10) (b := 10) (by show _ < 1024; omega) (by show _ < 1024; split <;> decide) (by decide), ?_⟩⟩⟩⟩
    obtain ⟨sz, esz, sz0, sz1, szv⟩ : ∃ sz, s0 * (if decide (V.int v = V.int 1) = true then 1 else 0) = sz ∧ 0 ≤ sz ∧ sz ≤ 96 ∧ sz ≤ (if v = 1 then 96 else 0) := by
      by_cases v1 : v = 1
      · subst v1
        exact ⟨s0, by rw [decide_eq_true rfl, if_pos rfl, Int.mul_one], s096.1, s096.2, by rw [if_pos rfl]; exact s096.2⟩
      · exact ⟨0, by rw [decide_eq_false (fun h => v1 (V.int.inj h))]; simp, by decide, by decide, by rw [if_neg v1]; decide⟩
    show tSeq _ _ _ (List.set _ 7 (some (V.int (s0 * (if decide (V.int v = V.int 1) = true then 1 else 0))))) H4
    rw [esz]
    refine ⟨by show 7 ≤ sizeLine; decide, fun l3 nl3 => ⟨_, rfl, .inl ⟨_, _, rfl, rfl, _, _, rfl, rfl, n16, Sv.ix (x := .non) (Sv.lst upd_same) (most_at sz0 sz1) ?_⟩⟩⟩
    have y3 := Evl.Ex.new (o := .lst [V.int 0, .int 1, .int 3, .int 7, .int 15, .int 31, .int 63]) nl3
    have B5 := B4.ex y3
    obtain ⟨m0, m63⟩ := most_0 sz0 sz1
    generalize upd H4 l3 (.lst [V.int 0, .int 1, .int 3, .int 7, .int 15, .int 31, .int 63]) = H5 at y3 B5 ⊢
    refine ⟨_, rfl, _, rfl, _, rfl, .inl ⟨_, _, rfl, rfl, bx, most sz + 1, _, rfl, B5, by omega, by omega, by omega, fun z2 H6 z20 z2m e6 B6 => ⟨_, rfl, _, _, rfl, rfl, n2, by show 4 ≤ sizeLine; decide, fun l4 nl4 => ⟨_, rfl, pk [most sz, 0, z2, most sz / 2] B6 nl4 (Nat.succ_pos _) rfl (by decide) (by omega) fun ck H7 hck e7 B7 => ?_⟩⟩⟩⟩
    have c0m : 0 ≤ ck ∧ ck ≤ most sz := by
      simp only [List.mem_cons, List.not_mem_nil, or_false] at hck
      omega
    have E17 : Exb bx H1 H7 := (e2.trans e3).trans ((e4.trans (Exb.of y3)).trans (e6.trans e7))
    have hp7 := E17 _ _ pb hp1
    refine ⟨by show 1 ≤ sizeLine; decide, fun l5 nl5 => ⟨_, rfl, cat_l upd_same ((Evl.Ex.new nl5) _ _ hp7) (by show 1 + 3 ≤ 1000; decide) fun r1 H8 nr1 e8 h8 => ?_⟩⟩
    have y5 := (Evl.Ex.new (o := .lst [V.str "Node"]) nl5).trans e8
    have B8 := B7.ex y5
    have r1b := (B7.ex (Evl.Ex.new nl5)).at nr1
    refine ⟨_, rfl, bx, _, 2, 65535, rfl, by decide, by decide, by decide, B8, by omega, fun nn0 H9 nn1 nn2 e9 B9 => ?_⟩
    have h9 := e9 _ _ r1b h8
    refine ⟨_, rfl, _, rfl, _, rfl, _, rfl, by show 5 ≤ sizeLine; decide, fun l6 nl6 => ?_⟩
    have y6 := Evl.Ex.new (o := .lst [V.int nn0, .int v, .int sz, .int ck, .int u]) nl6
    refine cat_l (y6 _ _ h9) upd_same (by show 1 + 3 + 5 ≤ 1000; decide) fun l7 H10 nl7 e10 h10 => ?_
    exact q l7 (.node d a o nn0 v sz ck u) H10 rfl ⟨⟨s1, s2, s3, s4, s5, s6⟩, nn1, nn2, v02.1, v02.2, sz0, szv, c0m.1, c0m.2, hu⟩ ⟨.non, h10, trivial⟩ ((e1.trans E17).trans ((Exb.of y5).trans (e9.trans (Exb.of (y6.trans e10))))) ((B9.ex (y6.trans e10)).le (by omega))
  · rw [kd 2 h2]
    refine iteF ⟨_, rfl, .inl ⟨rfl, _, rfl, ?_⟩⟩
    by_cases h3 : k = 3
    · subst h3
      rw [decide_eq_true rfl]
      refine iteT ?_
      refine ⟨_, rfl, bx, _, 2, 65535, rfl, by decide, by decide, by decide, B1, by omega, fun n0 H2 n1 n2 e2 B2 => ?_⟩
      refine ⟨_, rfl, bx, 4, _, rfl, B2, by decide, by decide, by omega, fun z H3 z0 z4 e3 B3 => ?_⟩
      refine ⟨_, _, rfl, rfl, .inr ⟨_, rfl, .inl ⟨_, _, rfl, rfl, mulx_ok (a := 17) (b := 10) (by show _ < 131072; omega) (by show _ < 1024; split <;> decide) (by decide), ?_⟩⟩⟩
      obtain ⟨m, em, m1, m2, m3⟩ : ∃ m, n0 * (if decide ((0 : Int) < z) = true then 1 else 0) = m ∧ m ≠ 1 ∧ 0 ≤ m ∧ m ≤ 65535 := by
        by_cases z1 : 0 < z
        · exact ⟨n0, by rw [decide_eq_true z1, if_pos rfl, Int.mul_one], by omega, by omega, by omega⟩
        · exact ⟨0, by rw [decide_eq_false z1]; simp, by decide, by decide, by decide⟩
      show gName 10 (V.int (n0 * (if decide ((0 : Int) < z) = true then 1 else 0))) _ _ _
      rw [em]
      have hp3 := (e2.trans e3) _ _ pb hp1
      refine ⟨by show 1 ≤ sizeLine; decide, fun l5 nl5 => ⟨_, rfl, cat_l upd_same ((Evl.Ex.new nl5) _ _ hp3) (by show 1 + 3 ≤ 1000; decide) fun r1 H8 nr1 e8 h8 => ?_⟩⟩
      have y5 := (Evl.Ex.new (o := .lst [V.str "Name"]) nl5).trans e8
      have B8 := B3.ex y5
      have r1b := (B3.ex (Evl.Ex.new nl5)).at nr1
      refine ⟨_, rfl, bx, _, 1, 65535, rfl, by decide, by decide, by decide, B8, by omega, fun dr H9 dr1 dr2 e9 B9 => ?_⟩
      refine ⟨_, rfl, bx, _, rfl, B9, by omega, fun x H10 hx e10 B10 => ?_⟩
      have h10 := (e9.trans e10) _ _ r1b h8
      refine ⟨_, rfl, _, rfl, by show 4 ≤ sizeLine; decide, fun l6 nl6 => ?_⟩
      have y6 := Evl.Ex.new (o := .lst [V.int dr, .str x, .int m, .int u]) nl6
      refine cat_l (y6 _ _ h10) upd_same (by show 1 + 3 + 4 ≤ 1000; decide) fun l7 H11 nl7 e11 h11 => ?_
      exact q l7 (.name d a o dr x m u) H11 rfl ⟨⟨s1, s2, s3, s4, s5, s6⟩, dr1, dr2, hx, m1, m2, m3, hu⟩ ⟨.non, h11, trivial⟩ ((e1.trans (e2.trans e3)).trans ((Exb.of y5).trans ((e9.trans e10).trans (Exb.of (y6.trans e11))))) ((B10.ex (y6.trans e11)).le (by omega))
    · rw [kd 3 h3]
      refine iteF ⟨_, rfl, .inl ⟨rfl, _, rfl, ?_⟩⟩
      by_cases h5 : k = 5
      · subst h5
        rw [decide_eq_true rfl]
        refine iteT ?_
        refine ⟨by show 1 ≤ sizeLine; decide, fun l5 nl5 => ⟨_, rfl, cat_l upd_same ((Evl.Ex.new nl5) _ _ hp1) (by show 1 + 3 ≤ 1000; decide) fun r1 H8 nr1 e8 h8 => ?_⟩⟩
        have y5 := (Evl.Ex.new (o := .lst [V.str "Keep"]) nl5).trans e8
        have B8 := B1.ex y5
        have r1b := (B1.ex (Evl.Ex.new nl5)).at nr1
        refine ⟨_, rfl, bx, _, rfl, B8, by omega, fun x H9 hx e9 B9 => ?_⟩
        refine ⟨_, rfl, bx, 2, _, rfl, B9, by decide, by decide, by omega, fun z H10 z0 z2 e10 B10 => .inl ⟨rfl, _, rfl, by show 3 ≤ sizeLine; decide, fun l6 nl6 => ?_⟩⟩
        have h10 := (e9.trans e10) _ _ r1b h8
        have y6 := Evl.Ex.new (o := .lst [V.str x, .bl (decide (V.int z = V.int 0)), .int u]) nl6
        refine cat_l (y6 _ _ h10) upd_same (by show 1 + 3 + 3 ≤ 1000; decide) fun l7 H11 nl7 e11 h11 => ?_
        exact q l7 (.keep d a o x (decide (V.int z = V.int 0)) u) H11 rfl ⟨⟨s1, s2, s3, s4, s5, s6⟩, hx, hu⟩ ⟨.non, h11, trivial⟩ (e1.trans ((Exb.of y5).trans ((e9.trans e10).trans (Exb.of (y6.trans e11))))) ((B10.ex (y6.trans e11)).le (by omega))
      · rw [kd 5 h5]
        refine iteF ?_
        obtain rfl : k = 4 := by omega
        refine ⟨(16 : Int), rfl, by decide, by decide, fun D2 hD => ?_⟩
        refine lc_range (lo := 0) (n := 16) (fun i H' => i ≤ 16 ∧ Exb bx H1 H' ∧ Box H' bx (c + 3 + (i : Int)) ∧ ∃ os : List Int, os.length = i ∧ Oct os ∧ H' D2 = some (.lst (IV os))) ⟨by omega, Exb.new hD, by rw [show c + 3 + ((0 : Nat) : Int) = c + 3 by omega]; exact B1.ex (Evl.Ex.new hD), [], rfl, (fun z hz => by cases hz), upd_same⟩ ?_ ?_
        · rintro i H2 hi ⟨_, e2, B2, os, lo, ho, h2⟩
          refine ⟨rfl, ?_⟩
          have Db : D2 ≠ bx := B1.at hD
          refine ⟨_, rfl, bx, _, rfl, B2, by omega, fun z H3 z0 z255 e3 B3 => ?_⟩
          refine ⟨IV os, e3 _ _ Db h2, by rw [iv_len]; exact Evl.sz_lt (by omega), by omega, exb_mut (e2.trans e3) hD, ?_, os ++ [z], by rw [List.length_append, lo]; rfl, fun x hx => ?_, ?_⟩
          · rw [show c + 3 + ((i + 1 : Nat) : Int) = c + 3 + (i : Int) + 1 by omega]
            exact box_mut B3 Db
          · rcases List.mem_append.mp hx with hx | hx
            · exact ho x hx
            · have : x = z := by simpa using hx
              omega
          · rw [upd_same, iv_app]
            rfl
        · rintro H2 ⟨_, e2, B2, os, lo, ho, h2⟩
          refine ⟨D2, _, rfl, .inl ⟨SqL.of h2, fun tp ntp => ?_⟩⟩
          have yt := Evl.Ex.new (o := .tup (IV os)) ntp
          have ht := upd_same (H := H2) (a := tp) (o := .tup (IV os))
          have tb := B2.at ntp
          have B3 := B2.ex yt
          have hp3 := (e2.trans (Exb.of yt)) _ _ pb hp1
          generalize upd H2 tp (.tup (IV os)) = H3 at yt ht B3 hp3 ⊢
          refine ⟨by show 1 ≤ sizeLine; decide, fun l5 nl5 => ⟨_, rfl, cat_l upd_same ((Evl.Ex.new nl5) _ _ hp3) (by show 1 + 3 ≤ 1000; decide) fun r1 H8 nr1 e8 h8 => ?_⟩⟩
          have y5 := (Evl.Ex.new (o := .lst [V.str "Chunk"]) nl5).trans e8
          have B8 := B3.ex y5
          have r1b := (B3.ex (Evl.Ex.new nl5)).at nr1
          refine ⟨_, rfl, bx, _, 2, 65535, rfl, by decide, by decide, by decide, B8, by omega, fun nd H9 nd1 nd2 e9 B9 => ?_⟩
          refine ⟨_, rfl, bx, 6, _, rfl, B9, by decide, by decide, by omega, fun z H10 z0 z6 e10 B10 => ?_⟩
          have h10 := (e9.trans e10) _ _ r1b h8
          have ht10 := (e9.trans e10) _ _ tb (y5 _ _ ht)
          refine ⟨_, rfl, _, rfl, by show 4 ≤ sizeLine; decide, fun l6 nl6 => ?_⟩
          have y6 := Evl.Ex.new (o := .lst [V.int nd, .int z, .ref tp, .int u]) nl6
          refine cat_l (y6 _ _ h10) upd_same (by show 1 + 3 + 4 ≤ 1000; decide) fun l7 H11 nl7 e11 h11 => ?_
          exact q l7 (.chunk d a o nd z os u) H11 rfl ⟨⟨s1, s2, s3, s4, s5, s6⟩, nd1, nd2, z0, by omega, ho, lo, hu⟩ ⟨.ref tp, h11, tp, rfl, (y6.trans e11) _ _ ht10⟩ ((e1.trans (e2.trans (Exb.of (yt.trans y5)))).trans ((e9.trans e10).trans (Exb.of (y6.trans e11)))) ((B10.ex (y6.trans e11)).le (by omega))
def spDrw : Sp := fun vs H Q _ => ∃ (bx : Addr) (c k : Int), vs = [.ref bx, .int k] ∧ 0 ≤ k ∧ k ≤ 5 ∧ Box H bx c ∧ c < 40000000 ∧ ∀ (l : Addr) (r : Rc) (H' : Hp), (r.ix : Int) = k → Good r → RowAt H' l r → Exb bx H H' → Box H' bx (c + 60) → Q (.ref l) H'
theorem ok_drawn (T : Txt K mg) (F : FnP K "_law_drawn" s__law_drawn f fd) (C__law_take : Cal P w K mg base CX0 1 "_law_take" ["_law_box_here", "_law_many"] spTake) (C__law_number : Cal P w K mg base CX0 2 "_law_number" ["_law_box_here", "_law_least", "_law_most"] spNum) (C__law_until : Cal P w K mg base CX0 3 "_law_until" ["_law_box_here", "_law_place"] spUnt)
    (C__law_letters : Cal P w K mg base CX0 2 "_law_letters" ["_law_box_here"] spLet) (C__law_octet : Cal P w K mg base CX0 2 "_law_octet" ["_law_box_here"] spOct) : Fg P w K mg base CX0 4 f fd ["_law_box_here", "_law_kind"] spDrw := by
  refine fg_of F sc__law_drawn (fun vs H Q E h => ?_) (fun cdv A outer s H vs Q E hr h => ⟨_, (PSs.nox (pss_cons (ps_if (pt_cmpR (u_eq (K := K) hr) (pv 1) pe_int (nomark _))
  (pss_cons (ps_set (i := 2) sc__law_drawn.nd rfl (by first | exact Or.inl rfl | exact Or.inr rfl) (pe_cal C__law_number hr.le pass0 (pa_cons (pv 0) (pa_cons pe_int (pa_cons pe_int pa_nil)))))
  (pss_one (ps_ret (pe_lst (pa_cons pe_str (pa_cons (pv 2) (pa_cons (pe_cal C__law_number hr.le pass0 (pa_cons (pv 0) (pa_cons pe_int (pa_cons (pv 2) pa_nil)))) (pa_cons (pe_cmpR (u_eq (K := K) hr) (pe_cal C__law_take hr.le pass0 (pa_cons (pv 0) (pa_cons pe_int pa_nil))) pe_int (nomark _)) pa_nil)))))))) pss_nil)
  (pss_cons (ps_if (pt_cmpR (u_eq (K := K) hr) (pv 1) pe_int (nomark _))
  (pss_one (ps_ret (pe_lst (pa_cons pe_str (pa_cons (pe_cal C__law_number hr.le pass0 (pa_cons (pv 0) (pa_cons pe_int (pa_cons pe_int pa_nil)))) (pa_cons (pe_cal C__law_number hr.le pass0 (pa_cons (pv 0) (pa_cons pe_int (pa_cons pe_int pa_nil)))) pa_nil)))))) pss_nil)
  (pss_cons (ps_set (i := 3) sc__law_drawn.nd rfl (by first | exact Or.inl rfl | exact Or.inr rfl) (pe_ix (u_ix (K := K)) (pe_lst (pa_cons pe_int (pa_cons pe_int (pa_cons pe_int (pa_cons pe_int (pa_cons pe_int (pa_cons pe_int (pa_cons pe_int (pa_cons pe_int (pa_cons pe_int pa_nil)))))))))) (pe_cal C__law_take hr.le pass0 (pa_cons (pv 0) (pa_cons pe_int pa_nil))) (fun _ _ => rfl)))
  (pss_cons (ps_set (i := 4) sc__law_drawn.nd rfl (by first | exact Or.inl rfl | exact Or.inr rfl) (pe_lst (pa_cons (pe_cal C__law_number hr.le pass0 (pa_cons (pv 0) (pa_cons pe_int (pa_cons pe_int pa_nil)))) (pa_cons (pe_ifExp (pt_cmpR op_gt (pv 3) pe_int (nomark _)) (pe_cal C__law_take hr.le pass0 (pa_cons (pv 0) (pa_cons (pv 3) pa_nil))) pe_int) (pa_cons (pv 3) pa_nil)))))
  (pss_cons (ps_set (i := 5) sc__law_drawn.nd rfl (by first | exact Or.inl rfl | exact Or.inr rfl) (pe_cal C__law_until hr.le pass0 (pa_cons (pv 0) (pa_cons (pv 4) pa_nil))))
  (pss_cons (ps_if (pt_cmpR (u_eq (K := K) hr) (pv 1) pe_int (nomark _))
  (pss_cons (ps_set (i := 6) sc__law_drawn.nd rfl (by first | exact Or.inl rfl | exact Or.inr rfl) (pe_ix (u_ix (K := K)) (pe_lst (pa_cons pe_int (pa_cons pe_int (pa_cons pe_int (pa_cons pe_int (pa_cons pe_int (pa_cons pe_int pa_nil))))))) (pe_cal C__law_take hr.le pass0 (pa_cons (pv 0) (pa_cons pe_int pa_nil))) (fun _ _ => rfl)))
  (pss_cons (ps_set (i := 7) sc__law_drawn.nd rfl (by first | exact Or.inl rfl | exact Or.inr rfl) (pe_op (u_mul (K := K)) (pe_ix (u_ix (K := K)) (pe_lst (pa_cons pe_int (pa_cons pe_int (pa_cons pe_int (pa_cons pe_int (pa_cons pe_int (pa_cons pe_int (pa_cons pe_int (pa_cons pe_int (pa_cons pe_int (pa_cons (pe_cal C__law_take hr.le pass0 (pa_cons (pv 0) (pa_cons pe_int pa_nil))) pa_nil))))))))))) (pe_cal C__law_take hr.le pass0 (pa_cons (pv 0) (pa_cons pe_int pa_nil))) (fun _ _ => rfl)) (pe_callTy call_int1 (by rfl) T.f_int (by decide +kernel) (pa_cons (pe_cmpR (u_eq (K := K) hr) (pv 6) pe_int (nomark _)) pa_nil))))
  (pss_cons (ps_set (i := 8) sc__law_drawn.nd rfl (by first | exact Or.inl rfl | exact Or.inr rfl) (pe_ix (u_ix (K := K)) (pe_lst (pa_cons pe_int (pa_cons pe_int (pa_cons pe_int (pa_cons pe_int (pa_cons pe_int (pa_cons pe_int (pa_cons pe_int pa_nil)))))))) (pe_op u_fdiv (pe_op (u_add (K := K)) (pv 7) pe_int) pe_int) (fun _ _ => rfl)))
  (pss_cons (ps_set (i := 9) sc__law_drawn.nd rfl (by first | exact Or.inl rfl | exact Or.inr rfl) (pe_ix (u_ix (K := K)) (pe_lst (pa_cons (pv 8) (pa_cons pe_int (pa_cons (pe_cal C__law_take hr.le pass0 (pa_cons (pv 0) (pa_cons (pe_op (u_add (K := K)) (pv 8) pe_int) pa_nil))) (pa_cons (pe_op u_fdiv (pv 8) pe_int) pa_nil))))) (pe_cal C__law_take hr.le pass0 (pa_cons (pv 0) (pa_cons pe_int pa_nil))) (fun _ _ => rfl)))
  (pss_one (ps_ret (pe_op (u_add (K := K)) (pe_op (u_add (K := K)) (pe_lst (pa_cons pe_str pa_nil)) (pv 4)) (pe_lst (pa_cons (pe_cal C__law_number hr.le pass0 (pa_cons (pv 0) (pa_cons pe_int (pa_cons pe_int pa_nil)))) (pa_cons (pv 6) (pa_cons (pv 7) (pa_cons (pv 9) (pa_cons (pv 5) pa_nil))))))))))))) pss_nil)
  (pss_cons (ps_if (pt_cmpR (u_eq (K := K) hr) (pv 1) pe_int (nomark _))
  (pss_cons (ps_set (i := 10) sc__law_drawn.nd rfl (by first | exact Or.inl rfl | exact Or.inr rfl) (pe_op (u_mul (K := K)) (pe_cal C__law_number hr.le pass0 (pa_cons (pv 0) (pa_cons pe_int (pa_cons pe_int pa_nil)))) (pe_callTy call_int1 (by rfl) T.f_int (by decide +kernel) (pa_cons (pe_cmpR op_gt (pe_cal C__law_take hr.le pass0 (pa_cons (pv 0) (pa_cons pe_int pa_nil))) pe_int (nomark _)) pa_nil))))
  (pss_one (ps_ret (pe_op (u_add (K := K)) (pe_op (u_add (K := K)) (pe_lst (pa_cons pe_str pa_nil)) (pv 4)) (pe_lst (pa_cons (pe_cal C__law_number hr.le pass0 (pa_cons (pv 0) (pa_cons pe_int (pa_cons pe_int pa_nil)))) (pa_cons (pe_cal C__law_letters hr.le pass0 (pa_cons (pv 0) pa_nil)) (pa_cons (pv 10) (pa_cons (pv 5) pa_nil))))))))) pss_nil)
  (pss_cons (ps_if (pt_cmpR (u_eq (K := K) hr) (pv 1) pe_int (nomark _))
  (pss_one (ps_ret (pe_op (u_add (K := K)) (pe_op (u_add (K := K)) (pe_lst (pa_cons pe_str pa_nil)) (pv 4)) (pe_lst (pa_cons (pe_cal C__law_letters hr.le pass0 (pa_cons (pv 0) pa_nil)) (pa_cons (pe_cmpR (u_eq (K := K) hr) (pe_cal C__law_take hr.le pass0 (pa_cons (pv 0) (pa_cons pe_int pa_nil))) pe_int (nomark _)) (pa_cons (pv 5) pa_nil))))))) pss_nil)
  (pss_cons (ps_set (i := 11) sc__law_drawn.nd rfl (by first | exact Or.inl rfl | exact Or.inr rfl) (pe_callTy (u_tup (K := K)) (by rfl) T.f_tuple (by decide +kernel) (pa_cons (pe_lc (own := [("_law_k", 12)]) rfl sc__law_drawn.nd (pi_range1 rfl T.f_range (pa_cons pe_int pa_nil)) (blkOk_by (own := [("_law_k", 12)]) (N := ["_law_box_here", "_law_kind", "_law_seq", "_law_total", "_law_place", "_law_until_here", "_law_what", "_law_size", "_law_most", "_law_chunks", "_law_node", "_law_octets_here", "_law_k"]) (sc := defScope s__law_drawn) (by decide +kernel)) (fun _ _ _ _ _ => (pg_name (i := 12) sc__law_drawn.nd rfl (by first | exact Or.inl rfl | exact Or.inr rfl))) (fun _ _ _ _ _ => pts_nil) (fun _ _ _ _ _ => (pe_cal C__law_octet hr.le pass0 (pa_cons (pv 0) pa_nil)))) pa_nil)))
  (pss_one (ps_ret (pe_op (u_add (K := K)) (pe_op (u_add (K := K)) (pe_lst (pa_cons pe_str pa_nil)) (pv 4)) (pe_lst (pa_cons (pe_cal C__law_number hr.le pass0 (pa_cons (pv 0) (pa_cons pe_int (pa_cons pe_int pa_nil)))) (pa_cons (pe_cal C__law_take hr.le pass0 (pa_cons (pv 0) (pa_cons pe_int pa_nil))) (pa_cons (pv 11) (pa_cons (pv 5) pa_nil)))))))))))))))))), ?_⟩)
  · obtain ⟨bx, c, k, rfl, _⟩ := h
    rfl
  · obtain ⟨bx, c, k, rfl, k0, k5, B, hc, q⟩ := h
    have kd : ∀ n : Int, k ≠ n → decide (V.int k = V.int n) = false := fun n h => decide_eq_false fun z => h (V.int.inj z)
    refine ⟨_, rfl, .inl ⟨rfl, _, rfl, ?_⟩⟩
    by_cases h0 : k = 0
    · subst h0
      refine iteT ⟨_, rfl, bx, c, 1, 4294967295, rfl, by decide, by decide, by decide, B, by omega, fun sq H1 s1 s2 e1 B1 => ?_⟩
      refine ⟨_, rfl, _, rfl, _, rfl, bx, c + 2, 1, sq, rfl, by decide, s1, s2, B1, by omega, fun tl H2 t1 t2 e2 B2 => ?_⟩
      refine ⟨_, rfl, bx, 2, c + 2 + 2, rfl, B2, by decide, by decide, by omega, fun b H3 b0 b2 e3 B3 => .inl ⟨rfl, by show 4 ≤ sizeLine; decide, fun l nl => ?_⟩⟩
      have y := Evl.Ex.new (o := .lst [V.str "Head", .int sq, .int tl, .bl (decide (V.int b = V.int 0))]) nl
      exact q l (.head sq tl (decide (V.int b = V.int 0))) _ rfl ⟨t1, t2, s2⟩ ⟨.non, upd_same, trivial⟩ (((e1.trans e2).trans e3).trans (Exb.of y)) ((B3.ex y).le (by omega))
    rw [kd 0 h0]
    refine iteF ⟨_, rfl, .inl ⟨rfl, _, rfl, ?_⟩⟩
    by_cases h1 : k = 1
    · subst h1
      refine iteT ⟨_, rfl, bx, c, 1, 4294967295, rfl, by decide, by decide, by decide, B, by omega, fun sq H1 s1 s2 e1 B1 => ?_⟩
      refine ⟨_, rfl, bx, c + 2, 0, 14, rfl, by decide, by decide, by decide, B1, by omega, fun tl H2 t1 t2 e2 B2 => ⟨by show 3 ≤ sizeLine; decide, fun l nl => ?_⟩⟩
      have y := Evl.Ex.new (o := .lst [V.str "Seal", .int sq, .int tl]) nl
      exact q l (.sl sq tl) _ rfl ⟨s1, s2, t1, t2⟩ ⟨.non, upd_same, trivial⟩ ((e1.trans e2).trans (Exb.of y)) ((B2.ex y).le (by omega))
    rw [kd 1 h1]
    refine iteF ?_
    show dw1 K _ _ H
    refine ⟨by show 9 ≤ sizeLine; decide, fun l nl => ⟨_, rfl, pk [0, 1, 2, 3, 4, 5, 6, 0, 6] B nl (by decide) rfl (by decide) (by omega) fun o H1 ho e1 B1 => ?_⟩⟩
    have o06 : 0 ≤ o ∧ o ≤ 6 := by
      have : ∀ z ∈ ([0, 1, 2, 3, 4, 5, 6, 0, 6] : List Int), 0 ≤ z ∧ z ≤ 6 := by decide
      exact this o ho
    refine ⟨_, rfl, bx, c + 1, 1, 4294967295, rfl, by decide, by decide, by decide, B1, by omega, fun d H2 d1 d2 e2 B2 => ?_⟩
    refine ⟨_, rfl, _, _, rfl, rfl, _, rfl, ?_⟩
    have fin : ∀ (a : Int) (H3 : Hp) (c' : Int), Exb bx H H3 → Box H3 bx c' → c' ≤ c + 4 → Stamp d a o → ∀ D : Ends, D.rt = Q → (tAsg (tLst (tCons (tC (V.int d)) (tCons (tC (V.int a)) (tCons (tVar 3) tNil)))) (gName 4)) {D with nx := dwT K D} [some (.ref bx), some (.int k), none, some (.int o), none, none, none, none, none, none, none, none, none] H3 := by
      intro a H3 c' e3 B3 hc' st D eD
      refine ⟨_, rfl, by show 3 ≤ sizeLine; decide, fun p np => ?_⟩
      have y := Evl.Ex.new (o := .lst [V.int d, .int a, .int o]) np
      exact tree_run eD (by omega) k5 ((B3.ex y).le hc') (by omega) upd_same (B3.at np) st fun l' r H' hr' hg hR e' B' => q l' r H' hr' hg hR (e3.trans ((Exb.of y).trans e')) (B'.le (by omega))
    by_cases o0 : 0 < o
    · rw [decide_eq_true o0]
      refine iteT ⟨_, rfl, _, rfl, bx, o, c + 1 + 2, rfl, B2, by omega, by omega, by omega, fun a H3 a0 a1 e3 B3 => ?_⟩
      exact fin a H3 _ ((e1.trans e2).trans e3) B3 (by omega) ⟨d1, d2, a0, by omega, by split <;> omega, o06.2⟩ _ rfl
    · rw [decide_eq_false o0]
      refine iteF ?_
      exact fin 0 H2 _ (e1.trans e2) B2 (by omega) ⟨d1, d2, by decide, by decide, by rw [if_pos rfl]; omega, o06.2⟩ _ rfl
end
end K12
/-! good rows, other rows -/
namespace K12
open PySem PySem.Spec PyProof.Rows L2 VB BM
section
variable {P : Program} {w : World} {K : PySem.W.Frag} {mg : Str → Option Value} {base : Heap} {f : Addr} {fd : FuncData}
/-- each value in its own bounds -/
def Loose : Rc → Prop
  | .head seq tail _ => 1 ≤ tail ∧ tail ≤ 4294967295 ∧ 1 ≤ seq ∧ seq ≤ 4294967295
  | .sl tail count => 1 ≤ tail ∧ tail ≤ 4294967295 ∧ 0 ≤ count ∧ count ≤ 14
  | .node d a o n w s c u => (1 ≤ d ∧ d ≤ 4294967295 ∧ 0 ≤ a ∧ a ≤ 5 ∧ 0 ≤ o ∧ o ≤ 6) ∧ 2 ≤ n ∧ n ≤ 65535 ∧ 0 ≤ w ∧ w ≤ 2 ∧ 0 ≤ s ∧ s ≤ 96 ∧ 0 ≤ c ∧ c ≤ 63 ∧ 0 ≤ u ∧ u ≤ 4294967295
  | .name d a o dir nm n u => (1 ≤ d ∧ d ≤ 4294967295 ∧ 0 ≤ a ∧ a ≤ 5 ∧ 0 ≤ o ∧ o ≤ 6) ∧ 1 ≤ dir ∧ dir ≤ 65535 ∧ Nm nm ∧ n ≠ 1 ∧ 0 ≤ n ∧ n ≤ 65535 ∧ 0 ≤ u ∧ u ≤ 4294967295
  | .chunk d a o n ix os u => (1 ≤ d ∧ d ≤ 4294967295 ∧ 0 ≤ a ∧ a ≤ 5 ∧ 0 ≤ o ∧ o ≤ 6) ∧ 2 ≤ n ∧ n ≤ 65535 ∧ 0 ≤ ix ∧ ix ≤ 5 ∧ Oct os ∧ os.length = 16 ∧ 0 ≤ u ∧ u ≤ 4294967295
  | .keep d a o nm _ u => (1 ≤ d ∧ d ≤ 4294967295 ∧ 0 ≤ a ∧ a ≤ 5 ∧ 0 ≤ o ∧ o ≤ 6) ∧ Nm nm ∧ 0 ≤ u ∧ u ≤ 4294967295
theorem r_ix {σ : List (Option V)} {H : Hp} {l : Addr} {xs : List V} {i : Int} {v : V} {Q : VK} (hs : σ[0]? = some (some (.ref l))) (h : H l = some (.lst xs)) (e : atI xs i = some v) (q : Q v H) : tOp (rIx K) (tVar 0) (tC (V.int i)) σ H Q :=
  ⟨_, hs, Sv.ix (x := .non) (Sv.lst h) e q⟩
theorem r_eqT {σ : List (Option V)} {H : Hp} {l : Addr} {xs : List V} {i : Int} {v c : V} {Q : Bool → Hp → Prop} (hs : σ[0]? = some (some (.ref l))) (h : H l = some (.lst xs)) (e : atI xs i = some v) (sc : scal v c = true) (q : Q (decide (v = c)) H) : tTest (tOp (rEqU K) (tOp (rIx K) (tVar 0) (tC (V.int i))) (tC c)) σ H Q :=
  r_ix hs h e (.inl ⟨sc, _, rfl, q⟩)
abbrev gd3 (K : PySem.W.Frag) : TS := (tIfS (tAnd (tNot (tTest (tOp (rI0 fun i j => V.bl (decide (i < j))) (tOp (rIx K) (tVar 0) (tC (V.int 2))) (tOp (rIx K) (tVar 0) (tC (V.int 3)))))) (tNot (tAnd (tTest (tOp (rEqU K) (tOp (rIx K) (tVar 0) (tC (V.int 2))) (tC (V.int 0)))) (tTest (tOp (rEqU K) (tOp (rIx K) (tVar 0) (tC (V.int 3))) (tC (V.int 0))))))) (tRet (tC (V.bl false))) tNext)
abbrev gd4 (K : PySem.W.Frag) : TS := (tIfS (tAnd (tTest (tOp (rNeU K) (tOp (rIx K) (tVar 0) (tUn (rU fun i => V.int (-i)) (tC (V.int 1)))) (tC (V.int 0)))) (tOr (tTest (tOp (rI0 fun i j => V.bl (decide (j < i))) (tOp (rIx K) (tVar 0) (tC (V.int 3))) (tC (V.int 0)))) (tTest (tOp (rI0 fun i j => V.bl (decide (i ≤ j))) (tOp (rIx K) (tVar 0) (tUn (rU fun i => V.int (-i)) (tC (V.int 1)))) (tOp (rIx K) (tVar 0) (tC (V.int 1))))))) (tRet (tC (V.bl false))) tNext)
theorem dki (a b : Int) : decide (V.int a = V.int b) = decide (a = b) := by
  by_cases h : a = b
  · rw [h, decide_eq_true rfl, decide_eq_true rfl]
  · rw [decide_eq_false h, decide_eq_false fun z => h (V.int.inj z)]
theorem gd34 {REST : TS} {D : Ends} {Q : VK} {l : Addr} {xs : List V} {d a o u : Int} {H : Hp} (eD : D.rt = Q) (h : H l = some (.lst xs)) (e1 : atI xs 1 = some (.int d)) (e2 : atI xs 2 = some (.int a)) (e3 : atI xs 3 = some (.int o)) (eu : atI xs (-1) = some (.int u))
    (L : 1 ≤ d ∧ d ≤ 4294967295 ∧ 0 ≤ a ∧ a ≤ 5 ∧ 0 ≤ o ∧ o ≤ 6) (u0 : 0 ≤ u) (u1 : u ≤ 4294967295) (qf : Q (.bl false) H) (k : Stamp d a o → Until d o u → REST D [some (.ref l)] H) : (tSeq (gd3 K) (tSeq (gd4 K) REST)) D [some (.ref l)] H := by
  subst eD
  obtain ⟨d1, d2, a0, a5, o0, o6⟩ := L
  have neg : ∀ {Q' : VK}, Q' (.int u) H → tOp (rIx K) (tVar 0) (tUn (rU fun i => V.int (-i)) (tC (V.int 1))) [some (.ref l)] H Q' := fun q => ⟨_, rfl, _, rfl, Sv.ix (x := .non) (Sv.lst h) eu q⟩
  have p4 : Stamp d a o → tSeq (gd4 K) REST D [some (.ref l)] H := fun st => by
    refine neg (.inl ⟨rfl, _, rfl, ?_⟩)
    rw [dki]
    by_cases uz : u = 0
    · rw [decide_eq_true uz]
      exact iteF (iteF (k st (.inl uz)))
    · rw [decide_eq_false uz]
      refine iteT (r_ix rfl h e3 ⟨_, _, rfl, rfl, _, rfl, ?_⟩)
      by_cases oz : 0 < o
      · rw [decide_eq_true oz]
        exact iteT (iteT qf)
      · rw [decide_eq_false oz]
        refine iteF (neg (r_ix rfl h e1 ⟨_, _, rfl, rfl, _, rfl, ?_⟩))
        by_cases ud : u ≤ d
        · rw [decide_eq_true ud]
          exact iteT qf
        · rw [decide_eq_false ud]
          exact iteF (k st (.inr ⟨by omega, by omega, u1⟩))
  refine r_ix rfl h e2 (r_ix rfl h e3 ⟨_, _, rfl, rfl, _, rfl, ?_⟩)
  by_cases ao : a < o
  · rw [decide_eq_true ao]
    exact iteF (iteF (p4 ⟨d1, d2, a0, a5, by split <;> omega, o6⟩))
  · rw [decide_eq_false ao]
    refine iteT (r_eqT rfl h e2 rfl ?_)
    rw [dki]
    by_cases az : a = 0
    · rw [decide_eq_true az]
      refine iteT (r_eqT rfl h e3 rfl ?_)
      rw [dki]
      by_cases oz : o = 0
      · rw [decide_eq_true oz]
        exact iteF (p4 ⟨d1, d2, a0, a5, by rw [if_pos az]; omega, o6⟩)
      · rw [decide_eq_false oz]
        exact iteT qf
    · rw [decide_eq_false az]
      exact iteF (iteT qf)
end
end K12
/-! rows beside -/
namespace K12
open PySem PySem.Spec PyProof.Rows L2 VB BM
section
variable {P : Program} {w : World} {K : PySem.W.Frag} {mg : Str → Option Value} {base : Heap} {f : Addr} {fd : FuncData}
theorem Until.bd {d o u : Int} (h : Until d o u) (d1 : 1 ≤ d) : 0 ≤ u ∧ u ≤ 4294967295 := by
  rcases h with h | h <;> omega
theorem Stamp.bd {d a o : Int} (h : Stamp d a o) : 1 ≤ d ∧ d ≤ 4294967295 ∧ 0 ≤ a ∧ a ≤ 5 ∧ 0 ≤ o ∧ o ≤ 6 := by
  obtain ⟨h1, h2, h3, h4, h5, h6⟩ := h
  split at h5 <;> omega
theorem Good.loose {r : Rc} (h : Good r) : Loose r := by
  cases r with
  | head seq tail b =>
    obtain ⟨h1, h2, h3⟩ := h
    exact ⟨h1, by omega, by omega, h3⟩
  | sl tail count => exact h
  | node d a o n w s c u =>
    obtain ⟨st, h1, h2, h3, h4, h5, h6, h7, h8, h9⟩ := h
    have s96 : s ≤ 96 := by split at h6 <;> omega
    have m := most_0 h5 s96
    exact ⟨st.bd, h1, h2, h3, h4, h5, s96, h7, by omega, (h9.bd st.1).1, (h9.bd st.1).2⟩
  | name d a o dir nm n u =>
    obtain ⟨st, h1, h2, h3, h4, h5, h6, h9⟩ := h
    exact ⟨st.bd, h1, h2, h3, h4, h5, h6, (h9.bd st.1).1, (h9.bd st.1).2⟩
  | chunk d a o n ix os u =>
    obtain ⟨st, h1, h2, h3, h4, h5, h6, h9⟩ := h
    exact ⟨st.bd, h1, h2, h3, h4, h5, h6, (h9.bd st.1).1, (h9.bd st.1).2⟩
  | keep d a o nm b u =>
    obtain ⟨st, h1, h9⟩ := h
    exact ⟨st.bd, h1, (h9.bd st.1).1, (h9.bd st.1).2⟩
theorem row_len {t t' : V} {r r' : Rc} (e : r.ix = r'.ix) : (rowV t r).length = (rowV t' r').length := by
  cases r <;> cases r' <;> first | rfl | (simp [Rc.ix] at e; done)
/-- a row with one value of another's -/
theorem mix {t1 t2 : V} {H : Hp} {r1 r2 : Rc} (e : r2.ix = r1.ix) (g1 : Loose r1) (g2 : Loose r2) (o1 : OcT H t1 r1) (o2 : OcT H t2 r2) {j : Nat} (j1 : 1 ≤ j) (jn : j < (rowV t1 r1).length) :
    ∃ v r' t', (rowV t2 r2)[j]? = some v ∧ (rowV t1 r1).take j ++ [v] ++ (rowV t1 r1).drop (j + 1) = rowV t' r' ∧ Loose r' ∧ r'.ix = r1.ix ∧ OcT H t' r' := by
  cases r1 with
  | head a1 a2 a3 =>
    cases r2 <;> try (simp [Rc.ix] at e; done)
    rcases (show j = 1 ∨ j = 2 ∨ j = 3 by change j < 4 at jn; omega) with rfl | rfl | rfl <;> refine ⟨_, .head _ _ _, .non, rfl, rfl, ?_, rfl, trivial⟩ <;> (simp only [Loose] at *; omega)
  | sl a1 a2 =>
    cases r2 <;> try (simp [Rc.ix] at e; done)
    rcases (show j = 1 ∨ j = 2 by change j < 3 at jn; omega) with rfl | rfl <;> refine ⟨_, .sl _ _, .non, rfl, rfl, ?_, rfl, trivial⟩ <;> (simp only [Loose] at *; omega)
  | node a1 a2 a3 a4 a5 a6 a7 a8 =>
    cases r2 <;> try (simp [Rc.ix] at e; done)
    rcases (show j = 1 ∨ j = 2 ∨ j = 3 ∨ j = 4 ∨ j = 5 ∨ j = 6 ∨ j = 7 ∨ j = 8 by change j < 9 at jn; omega) with rfl | rfl | rfl | rfl | rfl | rfl | rfl | rfl <;> refine ⟨_, .node _ _ _ _ _ _ _ _, .non, rfl, rfl, ?_, rfl, trivial⟩ <;> (simp only [Loose] at *; omega)
  | name a1 a2 a3 a4 a5 a6 a7 =>
    cases r2 <;> try (simp [Rc.ix] at e; done)
    obtain ⟨L, m1, m2, mn, m3, m4, m5, m6, m7⟩ := g1
    obtain ⟨L', m1', m2', mn', m3', m4', m5', m6', m7'⟩ := g2
    rcases (show j = 1 ∨ j = 2 ∨ j = 3 ∨ j = 4 ∨ j = 5 ∨ j = 6 ∨ j = 7 by change j < 8 at jn; omega) with rfl | rfl | rfl | rfl | rfl | rfl | rfl <;> refine ⟨_, .name _ _ _ _ _ _ _, .non, rfl, rfl, ⟨by omega, by omega, by omega, by assumption, by omega, by omega, by omega, by omega, by omega⟩, rfl, trivial⟩
  | chunk a1 a2 a3 a4 a5 os a7 =>
    cases r2 with
    | chunk b1 b2 b3 b4 b5 os' b7 =>
      obtain ⟨L, m1, m2, m3, m4, mn, ml, m6, m7⟩ := g1
      obtain ⟨L', m1', m2', m3', m4', mn', ml', m6', m7'⟩ := g2
      rcases (show j = 1 ∨ j = 2 ∨ j = 3 ∨ j = 4 ∨ j = 5 ∨ j = 7 ∨ j = 6 by change j < 8 at jn; omega) with rfl | rfl | rfl | rfl | rfl | rfl | rfl
      · exact ⟨_, .chunk _ _ _ _ _ os _, t1, rfl, rfl, ⟨by omega, by omega, by omega, by omega, by omega, mn, ml, by omega, by omega⟩, rfl, o1⟩
      · exact ⟨_, .chunk _ _ _ _ _ os _, t1, rfl, rfl, ⟨by omega, by omega, by omega, by omega, by omega, mn, ml, by omega, by omega⟩, rfl, o1⟩
      · exact ⟨_, .chunk _ _ _ _ _ os _, t1, rfl, rfl, ⟨by omega, by omega, by omega, by omega, by omega, mn, ml, by omega, by omega⟩, rfl, o1⟩
      · exact ⟨_, .chunk _ _ _ _ _ os _, t1, rfl, rfl, ⟨by omega, by omega, by omega, by omega, by omega, mn, ml, by omega, by omega⟩, rfl, o1⟩
      · exact ⟨_, .chunk _ _ _ _ _ os _, t1, rfl, rfl, ⟨by omega, by omega, by omega, by omega, by omega, mn, ml, by omega, by omega⟩, rfl, o1⟩
      · exact ⟨_, .chunk _ _ _ _ _ os _, t1, rfl, rfl, ⟨by omega, by omega, by omega, by omega, by omega, mn, ml, by omega, by omega⟩, rfl, o1⟩
      · exact ⟨_, .chunk _ _ _ _ _ os' _, t2, rfl, rfl, ⟨by omega, by omega, by omega, by omega, by omega, mn', ml', by omega, by omega⟩, rfl, o2⟩
    | _ => exact absurd e (by simp [Rc.ix])
  | keep a1 a2 a3 a4 a5 a6 =>
    cases r2 <;> try (simp [Rc.ix] at e; done)
    obtain ⟨L, mn, m6, m7⟩ := g1
    obtain ⟨L', mn', m6', m7'⟩ := g2
    rcases (show j = 1 ∨ j = 2 ∨ j = 3 ∨ j = 4 ∨ j = 5 ∨ j = 6 by change j < 7 at jn; omega) with rfl | rfl | rfl | rfl | rfl | rfl <;> refine ⟨_, .keep _ _ _ _ _ _, .non, rfl, rfl, ⟨by omega, by assumption, by omega, by omega⟩, rfl, trivial⟩
theorem row_n (t : V) : ∀ r : Rc, ∃ n, (rowV t r).length = n + 1 ∧ 2 ≤ n ∧ n ≤ 8
  | .head .. => ⟨3, rfl, by decide, by decide⟩
  | .sl .. => ⟨2, rfl, by decide, by decide⟩
  | .node .. => ⟨8, rfl, by decide, by decide⟩
  | .name .. => ⟨7, rfl, by decide, by decide⟩
  | .chunk .. => ⟨7, rfl, by decide, by decide⟩
  | .keep .. => ⟨6, rfl, by decide, by decide⟩
end
end K12
/-! a chunk of a list; rows of records; keys -/
namespace K12
open PySem PySem.Spec PyProof.Rows L2 VB BM
section
variable {P : Program} {w : World} {K : PySem.W.Frag} {mg : Str → Option Value} {base : Heap} {f : Addr} {fd : FuncData}
theorem kit4i (R : Rk K) (i : Nat) (hi : i < 6) : PySem.W.kitAny K (.ref (Kl K i)) [.ref (Kl K 2), .ref (Kl K 3), .ref (Kl K 4), .ref (Kl K 5)] = some (decide (2 ≤ i)) := by
  unfold PySem.W.kitAny PySem.W.kitAny PySem.W.kitAny PySem.W.kitAny PySem.W.kitAny
  rw [R.kit i 2 hi (by decide), R.kit i 3 hi (by decide), R.kit i 4 hi (by decide), R.kit i 5 hi (by decide)]
  rcases (show i = 0 ∨ i = 1 ∨ i = 2 ∨ i = 3 ∨ i = 4 ∨ i = 5 by omega) with rfl | rfl | rfl | rfl | rfl | rfl <;> rfl
theorem told_fin {D : Ends} {a p : Addr} {v w x : V} {nm : Str} {fs : List V} {ta : TA} {H : Hp} {Q : VK} (eD : D.rt = Q) (hp : H p = some (.lst [v, w, x])) (hf : fs.length ≤ 20) (h : ∀ (H' : Hp) (Q' : List V → Hp → Prop), Evl.Ex H H' → Q' fs H' → ta [some (.ref a), some (.ref p)] H' Q')
    (q : ∀ (l : Addr) (H' : Hp), Evl.Ex H H' → H' l = some (.lst (.str nm :: v :: w :: x :: fs)) → Q (.ref l) H') : tRet (tOp (rAddU K) (tOp (rAddU K) (tLst (tCons (tC (V.str nm)) tNil)) (tVar 1)) (tLst ta)) D [some (.ref a), some (.ref p)] H := by
  subst eD
  refine ⟨by show 1 ≤ sizeLine; decide, fun l1 n1 => ?_⟩
  have y1 := Evl.Ex.new (o := .lst [V.str nm]) n1
  refine ⟨_, rfl, cat_l upd_same (y1 _ _ hp) (by show 1 + 3 ≤ 1000; decide) fun l2 H2 n2 e2 h2 => ?_⟩
  have E2 := y1.trans e2
  refine h H2 _ E2 ⟨Nat.le_trans hf (by decide), fun l3 n3 => ?_⟩
  have y3 := Evl.Ex.new (o := .lst fs) n3
  refine cat_l (y3 _ _ h2) upd_same (by show 4 + fs.length ≤ 1000; omega) fun l4 H4 n4 e4 h4 => ?_
  exact q l4 H4 ((E2.trans y3).trans e4) h4
def spTold (K : PySem.W.Frag) : Sp := fun vs H Q _ => ∃ (a : Addr) (r : Rc), vs = [.ref a] ∧ RecAt K H a r ∧ ∀ (l : Addr) (H' : Hp), Evl.Ex H H' → RowAt H' l r → Q (.ref l) H'
theorem ok_told (T : Txt K mg) (R : Rk K) (F : FnP K "_law_told" s__law_told f fd) : Fg P w K mg base CX0 1 f fd ["_law_thing"] (spTold K) := by
  refine fg_of F sc__law_told (fun vs H Q E h => ?_) (fun cdv A outer s H vs Q E hr h => ⟨_, (PSs.nox (pss_cons (ps_if (pt_tru (K := K) (pe_callB (u_isi (K := K)) (by rfl) T.f_isinstance (by decide +kernel) (pa_cons (pv 0) (pa_cons (pe_glob (v := .ref (He.ga K "Head")) rfl T.g_Head rfl) pa_nil))) (by intro _; rfl))
  (pss_one (ps_ret (pe_lst (pa_cons pe_str (pa_cons (pe_fldU (K := K) (pv 0) rfl) (pa_cons (pe_fldU (K := K) (pv 0) rfl) (pa_cons (pe_fldU (K := K) (pv 0) rfl) pa_nil))))))) pss_nil)
  (pss_cons (ps_if (pt_tru (K := K) (pe_callB (u_isi (K := K)) (by rfl) T.f_isinstance (by decide +kernel) (pa_cons (pv 0) (pa_cons (pe_glob (v := .ref (He.ga K "Seal")) rfl T.g_Seal rfl) pa_nil))) (by intro _; rfl))
  (pss_one (ps_ret (pe_lst (pa_cons pe_str (pa_cons (pe_fldU (K := K) (pv 0) rfl) (pa_cons (pe_fldU (K := K) (pv 0) rfl) pa_nil)))))) pss_nil)
  (pss_cons (ps_if (pt_not (pt_tru (K := K) (pe_callB (u_isiT (K := K)) (by rfl) T.f_isinstance (by decide +kernel) (pa_cons (pv 0) (pa_cons (pe_tup (pa_cons (pe_glob (v := .ref (He.ga K "Node")) rfl T.g_Node rfl) (pa_cons (pe_glob (v := .ref (He.ga K "Name")) rfl T.g_Name rfl) (pa_cons (pe_glob (v := .ref (He.ga K "Chunk")) rfl T.g_Chunk rfl) (pa_cons (pe_glob (v := .ref (He.ga K "Keep")) rfl T.g_Keep rfl) pa_nil))))) pa_nil))) (by intro _; rfl)))
  (pss_one (ps_ret (pe_lst pa_nil))) pss_nil)
  (pss_cons (ps_set (i := 1) sc__law_told.nd rfl (by first | exact Or.inl rfl | exact Or.inr rfl) (pe_lst (pa_cons (pe_fldU (K := K) (pv 0) rfl) (pa_cons (pe_fldU (K := K) (pv 0) rfl) (pa_cons (pe_fldU (K := K) (pv 0) rfl) pa_nil)))))
  (pss_cons (ps_if (pt_tru (K := K) (pe_callB (u_isi (K := K)) (by rfl) T.f_isinstance (by decide +kernel) (pa_cons (pv 0) (pa_cons (pe_glob (v := .ref (He.ga K "Node")) rfl T.g_Node rfl) pa_nil))) (by intro _; rfl))
  (pss_one (ps_ret (pe_op (u_add (K := K)) (pe_op (u_add (K := K)) (pe_lst (pa_cons pe_str pa_nil)) (pv 1)) (pe_lst (pa_cons (pe_fldU (K := K) (pv 0) rfl) (pa_cons (pe_fldU (K := K) (pv 0) rfl) (pa_cons (pe_fldU (K := K) (pv 0) rfl) (pa_cons (pe_fldU (K := K) (pv 0) rfl) (pa_cons (pe_fldU (K := K) (pv 0) rfl) pa_nil))))))))) pss_nil)
  (pss_cons (ps_if (pt_tru (K := K) (pe_callB (u_isi (K := K)) (by rfl) T.f_isinstance (by decide +kernel) (pa_cons (pv 0) (pa_cons (pe_glob (v := .ref (He.ga K "Name")) rfl T.g_Name rfl) pa_nil))) (by intro _; rfl))
  (pss_one (ps_ret (pe_op (u_add (K := K)) (pe_op (u_add (K := K)) (pe_lst (pa_cons pe_str pa_nil)) (pv 1)) (pe_lst (pa_cons (pe_fldU (K := K) (pv 0) rfl) (pa_cons (pe_fldU (K := K) (pv 0) rfl) (pa_cons (pe_fldU (K := K) (pv 0) rfl) (pa_cons (pe_fldU (K := K) (pv 0) rfl) pa_nil)))))))) pss_nil)
  (pss_cons (ps_if (pt_tru (K := K) (pe_callB (u_isi (K := K)) (by rfl) T.f_isinstance (by decide +kernel) (pa_cons (pv 0) (pa_cons (pe_glob (v := .ref (He.ga K "Chunk")) rfl T.g_Chunk rfl) pa_nil))) (by intro _; rfl))
  (pss_one (ps_ret (pe_op (u_add (K := K)) (pe_op (u_add (K := K)) (pe_lst (pa_cons pe_str pa_nil)) (pv 1)) (pe_lst (pa_cons (pe_fldU (K := K) (pv 0) rfl) (pa_cons (pe_fldU (K := K) (pv 0) rfl) (pa_cons (pe_fldU (K := K) (pv 0) rfl) (pa_cons (pe_fldU (K := K) (pv 0) rfl) pa_nil)))))))) pss_nil)
  (pss_one (ps_ret (pe_op (u_add (K := K)) (pe_op (u_add (K := K)) (pe_lst (pa_cons pe_str pa_nil)) (pv 1)) (pe_lst (pa_cons (pe_fldU (K := K) (pv 0) rfl) (pa_cons (pe_fldU (K := K) (pv 0) rfl) (pa_cons (pe_fldU (K := K) (pv 0) rfl) pa_nil))))))))))))))), ?_⟩)
  · obtain ⟨a, r, rfl, _⟩ := h
    rfl
  · obtain ⟨a, r, rfl, ⟨dx, t, ha, ho⟩, q⟩ := h
    have c := R.cls r.ix (ix_lt r)
    have n := R.no r.ix (ix_lt r)
    have tx : ∀ {H' : Hp}, Evl.Ex H H' → TyX K H' (.ref a) (.ref (Kl K r.ix)) := fun e => RecAt.x R (⟨dx, t, e _ _ ha, ho.ex e⟩ : RecAt K _ a r)
    have isi : ∀ {σ : List (Option V)} {H' : Hp} (j : Nat) (hj : j < 6) {b : Bool} {Q' : Bool → Hp → Prop}, σ[0]? = some (some (.ref a)) → Evl.Ex H H' → decide (r.ix = j) = b → Q' b H' → VB.tTru K (tCB (rIsi K) (tCons (tVar 0) (tCons (tC (V.ref (Kl K j))) tNil))) σ H' Q' := by
      intro σ H' j hj b Q' hs e eb q'
      exact ⟨_, hs, _, _, _, _, _, rfl, .own _, tx e, R.kit r.ix j (ix_lt r) hj, _, rfl, by rw [eb]; exact q'⟩
    have four : ∀ {b : Bool} {Q' : Bool → Hp → Prop}, decide (2 ≤ r.ix) = b → (∀ H', Evl.Ex H H' → Q' b H') → VB.tTru K (tCB (rIsiT K) (tCons (tVar 0) (tCons (tTup (tCons (tC (V.ref (Kl K 2))) (tCons (tC (V.ref (Kl K 3))) (tCons (tC (V.ref (Kl K 4))) (tCons (tC (V.ref (Kl K 5))) tNil))))) tNil))) [some (.ref a), none] H Q' := by
      intro b Q' eb q'
      exact ⟨_, rfl, by show 4 ≤ sizeLine; decide, fun tp ntp => ⟨_, tp, _, _, _, _, rfl, upd_same, .cons (.own _) (.cons (.own _) (.cons (.own _) (.cons (.own _) .nil))), tx (Evl.Ex.new ntp), kit4i R r.ix (ix_lt r), _, rfl, by rw [eb]; exact q' _ (Evl.Ex.new ntp)⟩⟩
    have rf := Evl.Ex.refl H
    cases r with
    | head seq tail b =>
      refine isi 0 (by decide) rfl rf rfl (iteT (⟨_, rfl, a, _, dx, _, _, rfl, (rf) _ _ ha, c, n _ (by simp [Rc.ix]), rfl, ⟨_, rfl, a, _, dx, _, _, rfl, (rf) _ _ ha, c, n _ (by simp [Rc.ix]), rfl, ⟨_, rfl, a, _, dx, _, _, rfl, (rf) _ _ ha, c, n _ (by simp [Rc.ix]), rfl, ⟨by show 4 ≤ sizeLine; decide, fun l nl => ?_⟩⟩⟩⟩))
      exact q l _ (Evl.Ex.new nl) ⟨t, upd_same, trivial⟩
    | sl tail count =>
      refine isi 0 (by decide) rfl rf rfl (iteF (isi 1 (by decide) rfl rf rfl (iteT (⟨_, rfl, a, _, dx, _, _, rfl, (rf) _ _ ha, c, n _ (by simp [Rc.ix]), rfl, ⟨_, rfl, a, _, dx, _, _, rfl, (rf) _ _ ha, c, n _ (by simp [Rc.ix]), rfl, ⟨by show 3 ≤ sizeLine; decide, fun l nl => ?_⟩⟩⟩))))
      exact q l _ (Evl.Ex.new nl) ⟨t, upd_same, trivial⟩
    | node d a1 o n1 wh s' c1 u =>
      refine isi 0 (by decide) rfl rf rfl (iteF (isi 1 (by decide) rfl rf rfl (iteF (four rfl fun H1 e1 => iteF ?_))))
      refine ⟨_, rfl, a, _, dx, _, _, rfl, (e1) _ _ ha, c, n _ (by simp [Rc.ix]), rfl, ⟨_, rfl, a, _, dx, _, _, rfl, (e1) _ _ ha, c, n _ (by simp [Rc.ix]), rfl, ⟨_, rfl, a, _, dx, _, _, rfl, (e1) _ _ ha, c, n _ (by simp [Rc.ix]), rfl, ⟨by show 3 ≤ sizeLine; decide, fun p np => ?_⟩⟩⟩⟩
      have y := e1.trans (Evl.Ex.new (o := .lst [V.int d, .int a1, .int o]) np)
      refine isi 2 (by decide) rfl y rfl (iteT ?_)
      exact told_fin (fs := [.int n1, .int wh, .int s', .int c1, .int u]) rfl upd_same (by show 5 ≤ 20; decide) (fun H' Q' e k => ⟨_, rfl, a, _, dx, _, _, rfl, (y.trans e) _ _ ha, c, n _ (by simp [Rc.ix]), rfl, ⟨_, rfl, a, _, dx, _, _, rfl, (y.trans e) _ _ ha, c, n _ (by simp [Rc.ix]), rfl, ⟨_, rfl, a, _, dx, _, _, rfl, (y.trans e) _ _ ha, c, n _ (by simp [Rc.ix]), rfl, ⟨_, rfl, a, _, dx, _, _, rfl, (y.trans e) _ _ ha, c, n _ (by simp [Rc.ix]), rfl, ⟨_, rfl, a, _, dx, _, _, rfl, (y.trans e) _ _ ha, c, n _ (by simp [Rc.ix]), rfl, k⟩⟩⟩⟩⟩) fun l H' e h => q l H' (y.trans e) ⟨t, h, trivial⟩
    | name d a1 o dr nm n1 u =>
      refine isi 0 (by decide) rfl rf rfl (iteF (isi 1 (by decide) rfl rf rfl (iteF (four rfl fun H1 e1 => iteF ?_))))
      refine ⟨_, rfl, a, _, dx, _, _, rfl, (e1) _ _ ha, c, n _ (by simp [Rc.ix]), rfl, ⟨_, rfl, a, _, dx, _, _, rfl, (e1) _ _ ha, c, n _ (by simp [Rc.ix]), rfl, ⟨_, rfl, a, _, dx, _, _, rfl, (e1) _ _ ha, c, n _ (by simp [Rc.ix]), rfl, ⟨by show 3 ≤ sizeLine; decide, fun p np => ?_⟩⟩⟩⟩
      have y := e1.trans (Evl.Ex.new (o := .lst [V.int d, .int a1, .int o]) np)
      refine isi 2 (by decide) rfl y rfl (iteF (isi 3 (by decide) rfl y rfl (iteT ?_)))
      exact told_fin (fs := [.int dr, .str nm, .int n1, .int u]) rfl upd_same (by show 4 ≤ 20; decide) (fun H' Q' e k => ⟨_, rfl, a, _, dx, _, _, rfl, (y.trans e) _ _ ha, c, n _ (by simp [Rc.ix]), rfl, ⟨_, rfl, a, _, dx, _, _, rfl, (y.trans e) _ _ ha, c, n _ (by simp [Rc.ix]), rfl, ⟨_, rfl, a, _, dx, _, _, rfl, (y.trans e) _ _ ha, c, n _ (by simp [Rc.ix]), rfl, ⟨_, rfl, a, _, dx, _, _, rfl, (y.trans e) _ _ ha, c, n _ (by simp [Rc.ix]), rfl, k⟩⟩⟩⟩) fun l H' e h => q l H' (y.trans e) ⟨t, h, trivial⟩
    | chunk d a1 o n1 ix os u =>
      refine isi 0 (by decide) rfl rf rfl (iteF (isi 1 (by decide) rfl rf rfl (iteF (four rfl fun H1 e1 => iteF ?_))))
      refine ⟨_, rfl, a, _, dx, _, _, rfl, (e1) _ _ ha, c, n _ (by simp [Rc.ix]), rfl, ⟨_, rfl, a, _, dx, _, _, rfl, (e1) _ _ ha, c, n _ (by simp [Rc.ix]), rfl, ⟨_, rfl, a, _, dx, _, _, rfl, (e1) _ _ ha, c, n _ (by simp [Rc.ix]), rfl, ⟨by show 3 ≤ sizeLine; decide, fun p np => ?_⟩⟩⟩⟩
      have y := e1.trans (Evl.Ex.new (o := .lst [V.int d, .int a1, .int o]) np)
      refine isi 2 (by decide) rfl y rfl (iteF (isi 3 (by decide) rfl y rfl (iteF (isi 4 (by decide) rfl y rfl (iteT ?_)))))
      exact told_fin (fs := [.int n1, .int ix, t, .int u]) rfl upd_same (by show 4 ≤ 20; decide) (fun H' Q' e k => ⟨_, rfl, a, _, dx, _, _, rfl, (y.trans e) _ _ ha, c, n _ (by simp [Rc.ix]), rfl, ⟨_, rfl, a, _, dx, _, _, rfl, (y.trans e) _ _ ha, c, n _ (by simp [Rc.ix]), rfl, ⟨_, rfl, a, _, dx, _, _, rfl, (y.trans e) _ _ ha, c, n _ (by simp [Rc.ix]), rfl, ⟨_, rfl, a, _, dx, _, _, rfl, (y.trans e) _ _ ha, c, n _ (by simp [Rc.ix]), rfl, k⟩⟩⟩⟩) fun l H' e h => q l H' (y.trans e) ⟨t, h, ho.ex (y.trans e)⟩
    | keep d a1 o nm b u =>
      refine isi 0 (by decide) rfl rf rfl (iteF (isi 1 (by decide) rfl rf rfl (iteF (four rfl fun H1 e1 => iteF ?_))))
      refine ⟨_, rfl, a, _, dx, _, _, rfl, (e1) _ _ ha, c, n _ (by simp [Rc.ix]), rfl, ⟨_, rfl, a, _, dx, _, _, rfl, (e1) _ _ ha, c, n _ (by simp [Rc.ix]), rfl, ⟨_, rfl, a, _, dx, _, _, rfl, (e1) _ _ ha, c, n _ (by simp [Rc.ix]), rfl, ⟨by show 3 ≤ sizeLine; decide, fun p np => ?_⟩⟩⟩⟩
      have y := e1.trans (Evl.Ex.new (o := .lst [V.int d, .int a1, .int o]) np)
      refine isi 2 (by decide) rfl y rfl (iteF (isi 3 (by decide) rfl y rfl (iteF (isi 4 (by decide) rfl y rfl (iteF ?_)))))
      exact told_fin (fs := [.str nm, .bl b, .int u]) rfl upd_same (by show 3 ≤ 20; decide) (fun H' Q' e k => ⟨_, rfl, a, _, dx, _, _, rfl, (y.trans e) _ _ ha, c, n _ (by simp [Rc.ix]), rfl, ⟨_, rfl, a, _, dx, _, _, rfl, (y.trans e) _ _ ha, c, n _ (by simp [Rc.ix]), rfl, ⟨_, rfl, a, _, dx, _, _, rfl, (y.trans e) _ _ ha, c, n _ (by simp [Rc.ix]), rfl, k⟩⟩⟩) fun l H' e h => q l H' (y.trans e) ⟨t, h, trivial⟩
end
end K12
/-! the octets of a row -/
namespace K12
open PySem PySem.Spec PyProof.Rows L2 VB BM
section
variable {P : Program} {w : World} {K : PySem.W.Frag} {mg : Str → Option Value} {base : Heap} {f : Addr} {fd : FuncData}
theorem rep_l {z : Addr} {k : Int} {H : Hp} {Q : VK} (h : H z = some (.lst [V.int 0])) (k0 : 0 ≤ k) (k1 : k ≤ 1000) (q : RL (IV (List.replicate k.toNat 0)) H Q) : rMulU K (.ref z) (.int k) H Q := by
  refine .inr (.inl ⟨z, k, _, rfl, rfl, h, by omega, by omega, ?_, fun p np => ?_⟩)
  · show 1 * k.toNat ≤ sizeLine
    exact Nat.le_trans (show 1 * k.toNat ≤ 1000 by omega) (by decide)
  · have er : (List.replicate k.toNat [V.int 0]).flatten = IV (List.replicate k.toNat 0) := by
      rw [List.flatten_replicate_singleton, iv_rep]
    rw [er]
    exact q p _ np (Evl.Ex.new np) upd_same
theorem cat_i {a b : Addr} {xs ys : List Int} {H : Hp} {Q : VK} (h1 : H a = some (.lst (IV xs))) (h2 : H b = some (.lst (IV ys))) (z : xs.length + ys.length ≤ 1000) (q : RL (IV (xs ++ ys)) H Q) : rAddU K (.ref a) (.ref b) H Q :=
  cat_l h1 h2 (by rw [iv_len, iv_len]; exact z) (by rw [← iv_app]; exact q)
theorem dig {σ : List (Option V)} {l : Addr} {xs : List V} {i n : Int} {c : Nat} {H : Hp} {Q : VK} (hs : σ[0]? = some (some (.ref l))) (hl : H l = some (.lst xs)) (e : atI xs i = some (.int n)) (n0 : 0 ≤ n) (hc : c ≤ 8) (q : RL (IV (be n c)) H Q) :
    tCall spDig [] E0 (tCons (tOp (rIx K) (tVar 0) (tC (.int i))) (tCons (tC (.int (c : Int))) tNil)) σ H Q := r_ix hs hl e ⟨n, c, rfl, n0, hc, q⟩
abbrev loEnd (K : PySem.W.Frag) : TS := (tRet (tCB (rTupU K) (tCons (tOp (rAddU K) (tOp (rAddU K) (tVar 1) (tOp (rMulU K) (tLst (tCons (tC (V.int 0)) tNil)) (tOp (rI0 fun i j => V.int (i - j)) (tC (V.int 26)) (tCB (rLenU K) (tCons (tVar 1) tNil))))) (tCall spDig [] E0 (tCons (tOp (rIx K) (tVar 0) (tUn (rU fun i => V.int (-i)) (tC (V.int 1)))) (tCons (tC (V.int 4)) tNil)))) tNil)))
theorem lo_end {D : Ends} {Q : VK} {σ : List (Option V)} {l g : Addr} {xs : List Int} {ys : List V} {u : Int} {H : Hp} (eD : D.rt = Q) (h0 : σ[0]? = some (some (.ref l))) (h1 : σ[1]? = some (some (.ref g))) (hl : H l = some (.lst ys)) (eu : atI ys (-1) = some (.int u)) (hg : H g = some (.lst (IV xs))) (x26 : xs.length ≤ 26) (u0 : 0 ≤ u)
    (q : ∀ (p : Addr) (H' : Hp), Evl.Ex H H' → H' p = some (.tup (IV (pad 26 xs ++ be u 4))) → Q (.ref p) H') : loEnd K D σ H := by
  subst eD
  refine ⟨_, h1, by show 1 ≤ sizeLine; decide, fun z nz => ?_⟩
  have yz := Evl.Ex.new (o := .lst [V.int 0]) nz
  refine ⟨_, h1, _, _, rfl, .inl ⟨_, SqL.of (yz _ _ hg), rfl⟩, _, _, rfl, rfl, ?_⟩
  have ek : (26 : Int) - ((IV xs).length : Int) = ((26 - xs.length : Nat) : Int) := by rw [iv_len]; omega
  show rMulU K (.ref z) (.int ((26 : Int) - ((IV xs).length : Int))) _ _
  rw [ek]
  refine rep_l upd_same (by omega) (by omega) fun z2 H2 n2 e2 h2 => ?_
  rw [Int.toNat_natCast] at h2
  have E2 := yz.trans e2
  refine cat_i (E2 _ _ hg) h2 (by rw [List.length_replicate]; omega) fun z3 H3 n3 e3 h3 => ?_
  have E3 := E2.trans e3
  refine ⟨_, h0, _, rfl, Sv.ix (x := .non) (Sv.lst (E3 _ _ hl)) eu ⟨u, 4, rfl, u0, by decide, fun z4 H4 n4 e4 h4 => ?_⟩⟩
  refine cat_i (e4 _ _ h3) h4 (by rw [List.length_append, List.length_replicate, octO_len]; omega) fun z5 H5 n5 e5 h5 => ?_
  refine ⟨z5, _, rfl, .inl ⟨SqL.of h5, fun p np => q p _ (((E3.trans e4).trans e5).trans (Evl.Ex.new np)) ?_⟩⟩
  rw [upd_same]
  rfl
theorem lo_head {D : Ends} {Q : VK} {σ : List (Option V)} {l : Addr} {ys : List V} {v seq tail : Int} {H : Hp} (eD : D.rt = Q) (h0 : σ[0]? = some (some (.ref l))) (hl : H l = some (.lst ys)) (e1 : atI ys 1 = some (.int seq)) (e2 : atI ys 2 = some (.int tail)) (s0 : 0 ≤ seq) (t0 : 0 ≤ tail)
    (q : ∀ (p : Addr) (H' : Hp), Evl.Ex H H' → H' p = some (.tup (IV (pad 30 ([v] ++ be seq 4 ++ be tail 4)))) → Q (.ref p) H') :
    (tRet (tCB (rTupU K) (tCons (tOp (rAddU K) (tOp (rAddU K) (tOp (rAddU K) (tLst (tCons (tC (V.int v)) tNil)) (tCall spDig [] E0 (tCons (tOp (rIx K) (tVar 0) (tC (V.int 1))) (tCons (tC (V.int 4)) tNil)))) (tCall spDig [] E0 (tCons (tOp (rIx K) (tVar 0) (tC (V.int 2))) (tCons (tC (V.int 4)) tNil)))) (tOp (rMulU K) (tLst (tCons (tC (V.int 0)) tNil)) (tC (V.int 21)))) tNil))) D σ H := by
  subst eD
  refine ⟨by show 1 ≤ sizeLine; decide, fun a na => ?_⟩
  have ya := Evl.Ex.new (o := .lst [V.int v]) na
  have ha := upd_same (H := H) (a := a) (o := .lst (IV [v]))
  refine dig (c := 4) h0 (ya _ _ hl) e1 s0 (by decide) fun b H2 nb y2 hb => ?_
  refine cat_i (y2 _ _ ha) hb (by rw [be_len]; show 1 + 4 ≤ 1000; decide) fun c H3 nc y3 hc => ?_
  have E3 := (ya.trans y2).trans y3
  refine dig (c := 4) h0 (E3 _ _ hl) e2 t0 (by decide) fun d H4 nd y4 hd => ?_
  refine cat_i (y4 _ _ hc) hd (by rw [List.length_append, be_len, be_len]; show 1 + 4 + 4 ≤ 1000; decide) fun e H5 ne y5 he => ?_
  refine ⟨by show 1 ≤ sizeLine; decide, fun z nz => ?_⟩
  have yz := Evl.Ex.new (o := .lst [V.int 0]) nz
  refine rep_l upd_same (by decide) (by decide) fun z2 H6 n2 e6 h6 => ?_
  refine cat_i (e6 _ _ (yz _ _ he)) h6 (by rw [List.length_append, List.length_append, be_len, be_len, List.length_replicate]; show 1 + 4 + 4 + 21 ≤ 1000; decide) fun z3 H7 n7 e7 h7 => ?_
  refine ⟨z3, _, rfl, .inl ⟨SqL.of h7, fun p np => q p _ (((E3.trans (y4.trans y5)).trans (yz.trans (e6.trans e7))).trans (Evl.Ex.new np)) ?_⟩⟩
  rw [upd_same]
  unfold pad
  rw [List.length_append, List.length_append, be_len, be_len]
  rfl
theorem lo_seal {D : Ends} {Q : VK} {σ : List (Option V)} {l : Addr} {ys : List V} {tail count : Int} {H : Hp} (eD : D.rt = Q) (h0 : σ[0]? = some (some (.ref l))) (hl : H l = some (.lst ys)) (e1 : atI ys 1 = some (.int tail)) (e2 : atI ys 2 = some (.int count)) (t0 : 0 ≤ tail)
    (q : ∀ (p : Addr) (H' : Hp), Evl.Ex H H' → H' p = some (.tup (IV (pad 30 ([3] ++ be tail 4 ++ [count])))) → Q (.ref p) H') :
    (tRet (tCB (rTupU K) (tCons (tOp (rAddU K) (tOp (rAddU K) (tOp (rAddU K) (tLst (tCons (tC (V.int 3)) tNil)) (tCall spDig [] E0 (tCons (tOp (rIx K) (tVar 0) (tC (V.int 1))) (tCons (tC (V.int 4)) tNil)))) (tLst (tCons (tOp (rIx K) (tVar 0) (tC (V.int 2))) tNil))) (tOp (rMulU K) (tLst (tCons (tC (V.int 0)) tNil)) (tC (V.int 24)))) tNil))) D σ H := by
  subst eD
  refine ⟨by show 1 ≤ sizeLine; decide, fun a na => ?_⟩
  have ya := Evl.Ex.new (o := .lst [V.int 3]) na
  have ha := upd_same (H := H) (a := a) (o := .lst (IV [3]))
  refine dig (c := 4) h0 (ya _ _ hl) e1 t0 (by decide) fun b H2 nb y2 hb => ?_
  refine cat_i (y2 _ _ ha) hb (by rw [be_len]; show 1 + 4 ≤ 1000; decide) fun c H3 nc y3 hc => ?_
  have E3 := (ya.trans y2).trans y3
  refine r_ix h0 (E3 _ _ hl) e2 ⟨by show 1 ≤ sizeLine; decide, fun d nd => ?_⟩
  have yd := Evl.Ex.new (o := .lst (IV [count])) nd
  refine cat_i (ys := [count]) (yd _ _ hc) upd_same (by rw [List.length_append, be_len]; show 1 + 4 + 1 ≤ 1000; decide) fun e H5 ne y5 he => ?_
  refine ⟨by show 1 ≤ sizeLine; decide, fun z nz => ?_⟩
  have yz := Evl.Ex.new (o := .lst [V.int 0]) nz
  refine rep_l upd_same (by decide) (by decide) fun z2 H6 n2 e6 h6 => ?_
  refine cat_i (e6 _ _ (yz _ _ he)) h6 (by rw [List.length_append, List.length_append, be_len, List.length_replicate]; show 1 + 4 + 1 + 24 ≤ 1000; decide) fun z3 H7 n7 e7 h7 => ?_
  refine ⟨z3, _, rfl, .inl ⟨SqL.of h7, fun p np => q p _ (((E3.trans (yd.trans y5)).trans (yz.trans (e6.trans e7))).trans (Evl.Ex.new np)) ?_⟩⟩
  rw [upd_same]
  unfold pad
  rw [List.length_append, List.length_append, be_len]
  rfl
abbrev loL : List (Key × V) := [(.inr "Node", V.int 4), (.inr "Name", .int 5), (.inr "Chunk", .int 6), (.inr "Keep", .int 7)]
theorem loL_at : ∀ i, i < 6 → 2 ≤ i → valV (mergeK [] loL) (.inr (clE.getD i "") : Key) = some (.int ((i : Int) + 2)) := by decide +kernel
abbrev lo3 (K : PySem.W.Frag) : TS := (tAsg (tOp (rAddU K) (tOp (rAddU K) (tLst (tCons (tDGet (tDisp [(tC (V.str ("Node")), tC (V.int 4)), (tC (V.str ("Name")), tC (V.int 5)), (tC (V.str ("Chunk")), tC (V.int 6)), (tC (V.str ("Keep")), tC (V.int 7))]) (tOp (rIx K) (tVar 0) (tC (V.int 0)))) tNil)) (tCall spDig [] E0 (tCons (tOp (rIx K) (tVar 0) (tC (V.int 1))) (tCons (tC (V.int 4)) tNil)))) (tSl (rSlU K) (tVar 0) (tPart (tC (V.int 2))) (tPart (tC (V.int 4))))) (gName 1))
/-- the start that all four share -/
theorem lo_place {REST : TS} {D : Ends} {l : Addr} {ys : List V} {r : Rc} {H : Hp} {m2 m3 : Option V} (hl : H l = some (.lst ys)) (i2 : 2 ≤ r.ix) (e0 : atI ys 0 = some (.str (clE.getD r.ix ""))) (e1 : atI ys 1 = some (.int r.dd)) (d0 : 0 ≤ r.dd) (ec : cutV ys (some 2) (some 4) = [.int r.aa, .int r.oo])
    (k : ∀ (g : Addr) (H' : Hp), Evl.Ex H H' → H' g = some (.lst (IV ([kdO r] ++ be r.dd 4 ++ [r.aa, r.oo]))) → REST D [some (.ref l), some (.ref g), m2, m3] H') : tSeq (lo3 K) REST D [some (.ref l), none, m2, m3] H := by
  refine fun p np => ⟨upd_same, loL, rfl, by show 4 ≤ 15; decide, ?_⟩
  have yd : Evl.Ex H (upd (upd H p (.dK [])) p (.dK (mergeK [] loL))) := fun a u h => by
    have : a ≠ p := fun z => by rw [z, np] at h; cases h
    rw [upd_ne this, upd_ne this]
    exact h
  have hp := upd_same (H := upd H p (.dK [])) (a := p) (o := .dK (mergeK [] loL))
  generalize upd (upd H p (.dK [])) p (.dK (mergeK [] loL)) = H0 at yd hp ⊢
  refine r_ix rfl (yd _ _ hl) e0 ⟨p, _, rfl, .inl ⟨_, _, .inl hp, rfl, (loL_at r.ix (ix_lt r) i2).symm⟩, by show 1 ≤ sizeLine; decide, fun a na => ?_⟩
  have ya := Evl.Ex.new (o := .lst (IV [kdO r])) na
  have ha := upd_same (H := H0) (a := a) (o := .lst (IV [kdO r]))
  show tCall spDig [] E0 _ _ (upd H0 a (.lst (IV [kdO r]))) _
  generalize upd H0 a (.lst (IV [kdO r])) = H1 at ya ha ⊢
  have E1 := yd.trans ya
  refine dig (c := 4) rfl (E1 _ _ hl) e1 d0 (by decide) fun b H2 nb y2 hb => ?_
  refine cat_i (y2 _ _ ha) hb (by rw [be_len]; show 1 + 4 ≤ 1000; decide) fun c H3 nc y3 hc => ?_
  have E3 := (E1.trans y2).trans y3
  refine ⟨_, rfl, _, rfl, _, rfl, .inl ⟨l, _, rfl, SqL.of (E3 _ _ hl), fun d nd => ?_⟩⟩
  rw [ec]
  have yd' := Evl.Ex.new (o := .lst (IV [r.aa, r.oo])) nd
  refine cat_i (ys := [r.aa, r.oo]) (yd' _ _ hc) upd_same (by rw [List.length_append, be_len]; show 1 + 4 + 2 ≤ 1000; decide) fun e H5 ne y5 he => ?_
  exact k e H5 ((E3.trans yd').trans y5) he
theorem lo_letters {REST : TS} {D₀ : Ends} {l g : Addr} {ys : List V} {i : Int} {nm : Str} {H : Hp} {m2 m3 : Option V} (hl : H l = some (.lst ys)) (e : atI ys i = some (.str nm)) (hn : Nm nm) (q : ∀ (L : Addr) (H' : Hp), H L = none → Evl.Ex H H' → H' L = some (.lst (IV (codes nm))) → REST D₀ [some (.ref l), some (.ref g), some (.ref L), m3] H') :
    tSeq (tAsg (tLc (iStr (tOp (rIx K) (tVar 0) (tC (V.int i)))) (gName 3) tYes (tCB (fun xs H Q => ∃ x : Str, xs = [V.str x] ∧ x.length = 1 ∧ Q (V.int ↑(x.cps.getD 0 0)) H) (tCons (tVar 3) tNil)) (List.map (fun x => x.snd) [(Str.ofString "_law_letter", 3)])) (gName 2)) REST D₀ [some (.ref l), some (.ref g), m2, m3] H := by
  refine r_ix rfl hl e ⟨nm, rfl, fun D hD => ?_⟩
  have h8 := hn.2.1
  refine lc_pureVS (us := IV (codes nm)) walk_chs (fun _ _ => trivial) (by rw [iv_len, codes_len]) (by omega) hD (fun _ => rfl) ?_ ?_
  · intro i y u H' Q' hy hu ex k
    obtain ⟨c, hc', rfl⟩ : ∃ c, nm.cps.toList[i]? = some c ∧ y = V.str ⟨#[c]⟩ := by
      unfold chs at hy
      rw [List.getElem?_map] at hy
      obtain ⟨c, h2, rfl⟩ := Option.map_eq_some_iff.mp hy
      exact ⟨c, h2, rfl⟩
    have hu' : u = V.int (c : Int) := by
      unfold codes at hu
      rw [List.getElem?_map, List.getElem?_map, hc'] at hu
      exact (Option.some.inj hu).symm
    subst hu'
    exact ⟨_, rfl, ⟨#[c]⟩, rfl, rfl, k _ (Evl.Ex.refl _)⟩
  · intro H' ex h3
    exact q D H' hD ex h3
def spLOct : Sp := fun vs H Q _ => ∃ (l : Addr) (r : Rc), vs = [.ref l] ∧ RowAt H l r ∧ Good r ∧ ∀ (p : Addr) (H' : Hp), Evl.Ex H H' → H' p = some (.tup (IV (octs r))) → Q (.ref p) H'
theorem ok_loct (T : Txt K mg) (F : FnP K "_law_octets" s__law_octets f fd) (C__law_digits : Cal P w K mg base CX0 1 "_law_digits" ["_law_number_here", "_law_count"] spDig) : Fg P w K mg base CX0 2 f fd ["_law_row"] spLOct := by
  refine fg_of F sc__law_octets (fun vs H Q E h => ?_) (fun cdv A outer s H vs Q E hr h => ⟨_, (PSs.nox (pss_cons (ps_if (pt_cmpR (u_eq (K := K) hr) (pe_ix (u_ix (K := K)) (pv 0) pe_int (fun _ _ => rfl)) pe_str (nomark _))
  (pss_one (ps_ret (pe_callTy (u_tup (K := K)) (by rfl) T.f_tuple (by decide +kernel) (pa_cons (pe_op (u_add (K := K)) (pe_op (u_add (K := K)) (pe_op (u_add (K := K)) (pe_lst (pa_cons (pe_ifExp (pt_tru (K := K) (pe_ix (u_ix (K := K)) (pv 0) pe_int (fun _ _ => rfl)) (by intro _; rfl)) pe_int pe_int) pa_nil)) (pe_cal C__law_digits hr.le pass0 (pa_cons (pe_ix (u_ix (K := K)) (pv 0) pe_int (fun _ _ => rfl)) (pa_cons pe_int pa_nil)))) (pe_cal C__law_digits hr.le pass0 (pa_cons (pe_ix (u_ix (K := K)) (pv 0) pe_int (fun _ _ => rfl)) (pa_cons pe_int pa_nil)))) (pe_op (u_mul (K := K)) (pe_lst (pa_cons pe_int pa_nil)) pe_int)) pa_nil)))) pss_nil)
  (pss_cons (ps_if (pt_cmpR (u_eq (K := K) hr) (pe_ix (u_ix (K := K)) (pv 0) pe_int (fun _ _ => rfl)) pe_str (nomark _))
  (pss_one (ps_ret (pe_callTy (u_tup (K := K)) (by rfl) T.f_tuple (by decide +kernel) (pa_cons (pe_op (u_add (K := K)) (pe_op (u_add (K := K)) (pe_op (u_add (K := K)) (pe_lst (pa_cons pe_int pa_nil)) (pe_cal C__law_digits hr.le pass0 (pa_cons (pe_ix (u_ix (K := K)) (pv 0) pe_int (fun _ _ => rfl)) (pa_cons pe_int pa_nil)))) (pe_lst (pa_cons (pe_ix (u_ix (K := K)) (pv 0) pe_int (fun _ _ => rfl)) pa_nil))) (pe_op (u_mul (K := K)) (pe_lst (pa_cons pe_int pa_nil)) pe_int)) pa_nil)))) pss_nil)
  (pss_cons (ps_set (i := 1) sc__law_octets.nd rfl (by first | exact Or.inl rfl | exact Or.inr rfl) (pe_op (u_add (K := K)) (pe_op (u_add (K := K)) (pe_lst (pa_cons (pe_dget (Nat.lt_of_le_of_lt (Nat.add_le_add_left (by decide : 1 ≤ 64) _) hr.rm.units) (pe_disp (pps_cons pe_str pe_int (pps_cons pe_str pe_int (pps_cons pe_str pe_int (pps_cons pe_str pe_int pps_nil)))) rfl rfl (fun z => nomatch z) (by decide)) (pe_ix (u_ix (K := K)) (pv 0) pe_int (fun _ _ => rfl)) (fun _ _ => rfl)) pa_nil)) (pe_cal C__law_digits hr.le pass0 (pa_cons (pe_ix (u_ix (K := K)) (pv 0) pe_int (fun _ _ => rfl)) (pa_cons pe_int pa_nil)))) (pe_slice (u_sl (K := K)) (pv 0) (po_some pe_int) (po_some pe_int))))
  (pss_cons (ps_if (pt_cmpR (u_eq (K := K) hr) (pe_ix (u_ix (K := K)) (pv 0) pe_int (fun _ _ => rfl)) pe_str (nomark _))
  (pss_one (ps_set (i := 1) sc__law_octets.nd rfl (by first | exact Or.inl rfl | exact Or.inr rfl) (pe_op (u_add (K := K)) (pe_op (u_add (K := K)) (pv 1) (pe_cal C__law_digits hr.le pass0 (pa_cons (pe_ix (u_ix (K := K)) (pv 0) pe_int (fun _ _ => rfl)) (pa_cons pe_int pa_nil)))) (pe_slice (u_sl (K := K)) (pv 0) (po_some pe_int) (po_some pe_int))))) (pss_one (ps_if (pt_cmpR (u_eq (K := K) hr) (pe_ix (u_ix (K := K)) (pv 0) pe_int (fun _ _ => rfl)) pe_str (nomark _))
  (pss_cons (ps_setLc (i := 2) (own := [("_law_letter", 3)]) rfl sc__law_octets.nd rfl rfl (sw_true rfl rfl rfl (by decide +kernel)) (pi_str (pe_ix (u_ix (K := K)) (pv 0) pe_int (fun _ _ => rfl))) (blkOk_by (own := [("_law_letter", 3)]) (N := ["_law_row", "_law_found", "_law_letters_here", "_law_letter"]) (sc := defScope s__law_octets) (by decide +kernel)) (fun _ _ _ _ _ => (pg_name (i := 3) sc__law_octets.nd rfl (by first | exact Or.inl rfl | exact Or.inr rfl))) (fun _ _ _ _ _ => pts_nil) (fun _ _ _ _ _ => (pe_callB call_ord (by rfl) T.f_ord (by decide +kernel) (pa_cons (pv 3) pa_nil))))
  (pss_one (ps_set (i := 1) sc__law_octets.nd rfl (by first | exact Or.inl rfl | exact Or.inr rfl) (pe_op (u_add (K := K)) (pe_op (u_add (K := K)) (pe_op (u_add (K := K)) (pe_op (u_add (K := K)) (pv 1) (pe_cal C__law_digits hr.le pass0 (pa_cons (pe_ix (u_ix (K := K)) (pv 0) pe_int (fun _ _ => rfl)) (pa_cons pe_int pa_nil)))) (pe_cal C__law_digits hr.le pass0 (pa_cons (pe_ix (u_ix (K := K)) (pv 0) pe_int (fun _ _ => rfl)) (pa_cons pe_int pa_nil)))) (pe_lst (pa_cons (pe_callB (u_len (K := K)) (by rfl) T.f_len (by decide +kernel) (pa_cons (pv 2) pa_nil)) pa_nil))) (pv 2))))) (pss_one (ps_if (pt_cmpR (u_eq (K := K) hr) (pe_ix (u_ix (K := K)) (pv 0) pe_int (fun _ _ => rfl)) pe_str (nomark _))
  (pss_one (ps_set (i := 1) sc__law_octets.nd rfl (by first | exact Or.inl rfl | exact Or.inr rfl) (pe_op (u_add (K := K)) (pe_op (u_add (K := K)) (pe_op (u_add (K := K)) (pv 1) (pe_cal C__law_digits hr.le pass0 (pa_cons (pe_ix (u_ix (K := K)) (pv 0) pe_int (fun _ _ => rfl)) (pa_cons pe_int pa_nil)))) (pe_lst (pa_cons (pe_ix (u_ix (K := K)) (pv 0) pe_int (fun _ _ => rfl)) pa_nil))) (pe_callTy (u_list (K := K)) (by rfl) T.f_list (by decide +kernel) (pa_cons (pe_ix (u_ix (K := K)) (pv 0) pe_int (fun _ _ => rfl)) pa_nil))))) (pss_cons (ps_setLc (i := 2) (own := [("_law_letter", 3)]) rfl sc__law_octets.nd rfl rfl (sw_true rfl rfl rfl (by decide +kernel)) (pi_str (pe_ix (u_ix (K := K)) (pv 0) pe_int (fun _ _ => rfl))) (blkOk_by (own := [("_law_letter", 3)]) (N := ["_law_row", "_law_found", "_law_letters_here", "_law_letter"]) (sc := defScope s__law_octets) (by decide +kernel)) (fun _ _ _ _ _ => (pg_name (i := 3) sc__law_octets.nd rfl (by first | exact Or.inl rfl | exact Or.inr rfl))) (fun _ _ _ _ _ => pts_nil) (fun _ _ _ _ _ => (pe_callB call_ord (by rfl) T.f_ord (by decide +kernel) (pa_cons (pv 3) pa_nil))))
  (pss_one (ps_set (i := 1) sc__law_octets.nd rfl (by first | exact Or.inl rfl | exact Or.inr rfl) (pe_op (u_add (K := K)) (pe_op (u_add (K := K)) (pv 1) (pe_lst (pa_cons (pe_callTy call_int1 (by rfl) T.f_int (by decide +kernel) (pa_cons (pe_ix (u_ix (K := K)) (pv 0) pe_int (fun _ _ => rfl)) pa_nil)) (pa_cons (pe_callB (u_len (K := K)) (by rfl) T.f_len (by decide +kernel) (pa_cons (pv 2) pa_nil)) pa_nil)))) (pv 2))))))))))
  (pss_one (ps_ret (pe_callTy (u_tup (K := K)) (by rfl) T.f_tuple (by decide +kernel) (pa_cons (pe_op (u_add (K := K)) (pe_op (u_add (K := K)) (pv 1) (pe_op (u_mul (K := K)) (pe_lst (pa_cons pe_int pa_nil)) (pe_op op_sub pe_int (pe_callB (u_len (K := K)) (by rfl) T.f_len (by decide +kernel) (pa_cons (pv 1) pa_nil))))) (pe_cal C__law_digits hr.le pass0 (pa_cons (pe_ix (u_ix (K := K)) (pv 0) (pe_un un_neg pe_int) (fun _ _ => rfl)) (pa_cons pe_int pa_nil)))) pa_nil))))))))), ?_⟩)
  · obtain ⟨l, r, rfl, _⟩ := h
    rfl
  · obtain ⟨l, r, rfl, ⟨t, hl, ho⟩, hg, q⟩ := h
    have ds : ∀ x y : Str, decide (V.str x = V.str y) = decide (x = y) := fun x y => by
      by_cases h : x = y
      · rw [h, decide_eq_true rfl, decide_eq_true rfl]
      · rw [decide_eq_false h, decide_eq_false fun z => h (V.str.inj z)]
    have kk : ∀ {σ : List (Option V)} {H' : Hp} {x y : Str} {c : Bool} {xs : List V} {Q' : Bool → Hp → Prop}, σ[0]? = some (some (.ref l)) → H' l = some (.lst xs) → atI xs 0 = some (.str x) → decide (x = y) = c → Q' c H' → tTest (tOp (rEqU K) (tOp (rIx K) (tVar 0) (tC (V.int 0))) (tC (.str y))) σ H' Q' := fun hs h e1 e q => r_eqT hs h e1 rfl (by rw [ds, e]; exact q)
    cases r with
    | head seq tail b =>
      obtain ⟨g1, g2, g3⟩ := hg
      refine kk rfl hl rfl rfl (iteT (r_ix rfl hl rfl ⟨b, rfl, ?_⟩))
      cases b with
      | true => exact iteT (lo_head (v := 2) (D := { nx := fun x H' => Q V.non H', rt := Q }) rfl rfl hl rfl rfl (by omega) (by omega) q)
      | false => exact iteF (lo_head (v := 1) (D := { nx := fun x H' => Q V.non H', rt := Q }) rfl rfl hl rfl rfl (by omega) (by omega) q)
    | sl tail count =>
      obtain ⟨g1, g2, g3, g4⟩ := hg
      exact kk rfl hl rfl rfl (iteF (kk rfl hl rfl rfl (iteT (lo_seal (D := { nx := fun x H' => Q V.non H', rt := Q }) rfl rfl hl rfl rfl (by omega) q))))
    | node d a o n wh s' c u =>
      have ub := hg.2.2.2.2.2.2.2.2.2.bd hg.1.1
      refine kk rfl hl rfl rfl (iteF (kk rfl hl rfl rfl (iteF ?_)))
      refine lo_place (r := .node d a o n wh s' c u) hl (by show 2 ≤ 2; decide) rfl rfl (show 0 ≤ d by have := hg.1.1; omega) rfl fun g H1 e1 h1 => ?_
      have l1 := e1 _ _ hl
      refine kk rfl l1 rfl rfl (iteT ⟨_, rfl, dig (c := 2) rfl l1 rfl (show 0 ≤ n by have := hg.2.1; omega) (by decide) fun b H2 nb y2 hb => ?_⟩)
      refine cat_i (y2 _ _ h1) hb (by rw [List.length_append, List.length_append, be_len, be_len]; show 1 + 4 + 2 + 2 ≤ 1000; decide) fun c2 H3 nc y3 hc => ?_
      have E3 := (y2.trans y3)
      refine ⟨_, rfl, _, rfl, _, rfl, .inl ⟨l, _, rfl, SqL.of (E3 _ _ l1), fun d2 nd => ?_⟩⟩
      show rAddU K (.ref c2) (.ref d2) (upd H3 d2 (.lst (IV [wh, s', c]))) _
      have yd' := Evl.Ex.new (o := .lst (IV [wh, s', c])) nd
      refine cat_i (ys := [wh, s', c]) (yd' _ _ hc) upd_same (by rw [List.length_append, List.length_append, List.length_append, be_len, be_len]; show 1 + 4 + 2 + 2 + 3 ≤ 1000; decide) fun e H5 ne y5 he => ?_
      have E5 := (E3.trans yd').trans y5
      refine lo_end (D := { nx := fun x H' => Q V.non H', rt := Q }) rfl rfl rfl (E5 _ _ l1) rfl he (by rw [List.length_append, List.length_append, List.length_append, List.length_append, be_len, be_len]; show 1 + 4 + 2 + 2 + 3 ≤ 26; decide) ub.1 fun p H' e' h' => q p H' (e1.trans (E5.trans e')) ?_
      rw [octs_tree (by show 2 ≤ 2; decide), h']
      simp [facO, Rc.dd, Rc.aa, Rc.oo, Rc.uu]
    | name d a o dr nm n u =>
      have ub := hg.2.2.2.2.2.2.2.bd hg.1.1
      have n8 := hg.2.2.2.1.2.1
      refine kk rfl hl rfl rfl (iteF (kk rfl hl rfl rfl (iteF ?_)))
      refine lo_place (r := .name d a o dr nm n u) hl (by show 2 ≤ 3; decide) rfl rfl (show 0 ≤ d by have := hg.1.1; omega) rfl fun g H1 e1 h1 => ?_
      have l1 := e1 _ _ hl
      refine kk rfl l1 rfl rfl (iteF (kk rfl l1 rfl rfl (iteT (lo_letters l1 rfl hg.2.2.2.1 fun L HL nL eL hL => ?_))))
      have lL := eL _ _ l1
      refine ⟨_, rfl, dig (c := 2) rfl lL rfl (show 0 ≤ dr by have := hg.2.1; omega) (by decide) fun b H2 nb y2 hb => ?_⟩
      refine cat_i (y2 _ _ (eL _ _ h1)) hb (by rw [List.length_append, List.length_append, be_len, be_len]; show 1 + 4 + 2 + 2 ≤ 1000; decide) fun c2 H3 nc y3 hc => ?_
      have E3 := y2.trans y3
      refine dig (c := 2) rfl (E3 _ _ lL) rfl (show 0 ≤ n from hg.2.2.2.2.2.1) (by decide) fun b2 H4 nb4 y4 hb4 => ?_
      refine cat_i (y4 _ _ hc) hb4 (by rw [List.length_append, List.length_append, List.length_append, be_len, be_len, be_len]; show 1 + 4 + 2 + 2 + 2 ≤ 1000; decide) fun c3 H5 nc5 y5 hc5 => ?_
      have E5 := (E3.trans y4).trans y5
      refine ⟨_, rfl, _, _, rfl, .inl ⟨_, SqL.of (E5 _ _ hL), rfl⟩, by show 1 ≤ sizeLine; decide, fun d2 nd => ?_⟩
      rw [iv_len, codes_len]
      have yd' := Evl.Ex.new (o := .lst (IV [(nm.cps.size : Int)])) nd
      refine cat_i (ys := [(nm.cps.size : Int)]) (yd' _ _ hc5) upd_same (by rw [List.length_append, List.length_append, List.length_append, List.length_append, be_len, be_len, be_len]; show 1 + 4 + 2 + 2 + 2 + 1 ≤ 1000; decide) fun e H6 ne y6 he => ?_
      have E6 := (E5.trans yd').trans y6
      refine ⟨_, rfl, cat_i he (E6 _ _ hL) (by rw [List.length_append, List.length_append, List.length_append, List.length_append, List.length_append, be_len, be_len, be_len, codes_len]; show 1 + 4 + 2 + 2 + 2 + 1 + nm.cps.size ≤ 1000; omega) fun e2 H7 ne2 y7 he2 => ?_⟩
      have E7 := (eL.trans E6).trans y7
      refine lo_end (D := { nx := fun x H' => Q V.non H', rt := Q }) rfl rfl rfl (E7 _ _ l1) rfl he2 (by rw [List.length_append, List.length_append, List.length_append, List.length_append, List.length_append, List.length_append, be_len, be_len, be_len, codes_len]; show 1 + 4 + 2 + 2 + 2 + 1 + nm.cps.size ≤ 26; omega) ub.1 fun p H' e' h' => q p H' (e1.trans (E7.trans e')) ?_
      rw [octs_tree (by show 2 ≤ 3; decide), h']
      simp [facO, Rc.dd, Rc.aa, Rc.oo, Rc.uu]
    | chunk d a o n ix os u =>
      have ub := hg.2.2.2.2.2.2.2.bd hg.1.1
      have ol := hg.2.2.2.2.2.2.1
      obtain ⟨tp, rfl, htp⟩ := ho
      refine kk rfl hl rfl rfl (iteF (kk rfl hl rfl rfl (iteF ?_)))
      refine lo_place (r := .chunk d a o n ix os u) hl (by show 2 ≤ 4; decide) rfl rfl (show 0 ≤ d by have := hg.1.1; omega) rfl fun g H1 e1 h1 => ?_
      have l1 := e1 _ _ hl
      refine kk rfl l1 rfl rfl (iteF (kk rfl l1 rfl rfl (iteF (kk rfl l1 rfl rfl (iteT ⟨_, rfl, dig (c := 2) rfl l1 rfl (show 0 ≤ n by have := hg.2.1; omega) (by decide) fun b H2 nb y2 hb => ?_⟩)))))
      refine cat_i (y2 _ _ h1) hb (by rw [List.length_append, List.length_append, be_len, be_len]; show 1 + 4 + 2 + 2 ≤ 1000; decide) fun c2 H3 nc y3 hc => ?_
      have E3 := y2.trans y3
      refine r_ix rfl (E3 _ _ l1) rfl ⟨by show 1 ≤ sizeLine; decide, fun d2 nd => ?_⟩
      have yd' := Evl.Ex.new (o := .lst (IV [ix])) nd
      refine cat_i (ys := [ix]) (yd' _ _ hc) upd_same (by rw [List.length_append, List.length_append, List.length_append, be_len, be_len]; show 1 + 4 + 2 + 2 + 1 ≤ 1000; decide) fun e H5 ne y5 he => ?_
      have E5 := (E3.trans yd').trans y5
      refine r_ix rfl (E5 _ _ l1) rfl ⟨tp, _, rfl, .inr (SqT.of ((e1.trans E5) _ _ htp)), fun z nz => ?_⟩
      have yz := Evl.Ex.new (o := .lst (IV os)) nz
      refine cat_i (yz _ _ he) upd_same (by rw [List.length_append, List.length_append, List.length_append, List.length_append, be_len, be_len, ol]; show 1 + 4 + 2 + 2 + 1 + 16 ≤ 1000; decide) fun e6 H6 ne6 y6 he6 => ?_
      have E6 := (E5.trans yz).trans y6
      refine lo_end (D := { nx := fun x H' => Q V.non H', rt := Q }) rfl rfl rfl (E6 _ _ l1) rfl he6 (by rw [List.length_append, List.length_append, List.length_append, List.length_append, List.length_append, be_len, be_len, ol]; show 1 + 4 + 2 + 2 + 1 + 16 ≤ 26; decide) ub.1 fun p H' e' h' => q p H' (e1.trans (E6.trans e')) ?_
      rw [octs_tree (by show 2 ≤ 4; decide), h']
      simp [facO, Rc.dd, Rc.aa, Rc.oo, Rc.uu]
    | keep d a o nm b u =>
      have ub := hg.2.2.bd hg.1.1
      have n8 := hg.2.1.2.1
      refine kk rfl hl rfl rfl (iteF (kk rfl hl rfl rfl (iteF ?_)))
      refine lo_place (r := .keep d a o nm b u) hl (by show 2 ≤ 5; decide) rfl rfl (show 0 ≤ d by have := hg.1.1; omega) rfl fun g H1 e1 h1 => ?_
      have l1 := e1 _ _ hl
      refine kk rfl l1 rfl rfl (iteF (kk rfl l1 rfl rfl (iteF (kk rfl l1 rfl rfl (iteF (lo_letters l1 rfl hg.2.1 fun L HL nL eL hL => ?_))))))
      have lL := eL _ _ l1
      refine ⟨_, rfl, r_ix rfl lL rfl (.inr ⟨b, rfl, ⟨_, rfl, _, _, rfl, .inl ⟨_, SqL.of hL, rfl⟩, by show 2 ≤ sizeLine; decide, fun d2 nd => ?_⟩⟩)⟩
      rw [iv_len, codes_len]
      have yd' := Evl.Ex.new (o := .lst (IV [(if b then 1 else 0), (nm.cps.size : Int)])) nd
      refine cat_i (ys := [(if b then 1 else 0), (nm.cps.size : Int)]) (yd' _ _ (eL _ _ h1)) upd_same (by rw [List.length_append, List.length_append, be_len]; show 1 + 4 + 2 + 2 ≤ 1000; decide) fun e H6 ne y6 he => ?_
      have E6 := yd'.trans y6
      refine ⟨_, rfl, cat_i he (E6 _ _ hL) (by rw [List.length_append, List.length_append, List.length_append, be_len, codes_len]; show 1 + 4 + 2 + 2 + nm.cps.size ≤ 1000; omega) fun e2 H7 ne2 y7 he2 => ?_⟩
      have E7 := (eL.trans E6).trans y7
      refine lo_end (D := { nx := fun x H' => Q V.non H', rt := Q }) rfl rfl rfl (E7 _ _ l1) rfl he2 (by rw [List.length_append, List.length_append, List.length_append, List.length_append, be_len, codes_len]; show 1 + 4 + 2 + 2 + nm.cps.size ≤ 26; omega) ub.1 fun p H' e' h' => q p H' (e1.trans (E7.trans e')) ?_
      rw [octs_tree (by show 2 ≤ 5; decide), h']
      simp [facO, Rc.dd, Rc.aa, Rc.oo, Rc.uu]
end
end K12
/-! texts of rows -/
namespace K12
open PySem PySem.Spec PyProof.Rows L2 VB BM
open TL
/-- a flat value's text -/
def txV : V → Str
  | .int i => Str.ofString (toString i)
  | .bl b => if b then "True" else "False"
  | .str x => reprText x
  | _ => "None"
def rowT : Rc → List Str
  | .chunk d a o n ix os u => [reprText "Chunk", txV (.int d), txV (.int a), txV (.int o), txV (.int n), txV (.int ix), tupleText (os.map fun x => txV (.int x)), txV (.int u)]
  | r => (rowV .non r).map txV
theorem tl_list (t : Str) (ts : List Str) : tl (listText (t :: ts)) = 91 :: (joinL [44, 32] ((t :: ts).map tl) ++ [93]) := by
  rw [listText_eq_join, tl_append, tl_append, tl_join]
  rfl
theorem tl_tup (a b : Str) (ts : List Str) : tl (tupleText (a :: b :: ts)) = 40 :: (joinL [44, 32] ((a :: b :: ts).map tl) ++ [41]) := by
  show tl (("(" : Str) ++ Str.join ", " (a :: b :: ts) ++ (if ((a :: b :: ts).length == 1) = true then ",)" else ")" : String)) = _
  have e : ((a :: b :: ts).length == 1) = false := by simp
  rw [e, tl_append, tl_append, tl_join]
  rfl
def numI (i : Int) : List Nat := numL i.toNat
def blL (b : Bool) : List Nat := if b then [84, 114, 117, 101] else [70, 97, 108, 115, 101]
def nmL (x : Str) : List Nat := 39 :: (tl x ++ [39])
theorem tl_int {i : Int} (h : 0 ≤ i) : tl (txV (.int i)) = numI i := by
  obtain ⟨m, rfl⟩ : ∃ m : Nat, i = m := ⟨i.toNat, by omega⟩
  exact tl_num m
theorem tl_bl (b : Bool) : tl (txV (.bl b)) = blL b := by cases b <;> decide +kernel
theorem prn : ∀ c, c < 123 → 97 ≤ c → Builtin.Str.reprChar 39 c = [c] := by decide +kernel
theorem tl_nm {x : Str} (h : Nm x) : tl (txV (.str x)) = nmL x := by
  show tl (reprText x) = _
  have hq : reprQuote x = 39 := by
    unfold reprQuote
    have : x.cps.contains 39 = false := by
      rw [Array.contains_eq_any_beq]
      rw [Array.any_eq_false]
      intro i hi
      have := h.2.2 x.cps[i] (by simp)
      simp
      omega
    rw [this]
    rfl
  unfold reprText
  rw [hq]
  have go : ∀ (l : List Nat) (acc : Array Nat), (∀ c ∈ l, 97 ≤ c ∧ c ≤ 122) → (l.foldl (fun out c => out ++ (Builtin.Str.reprChar 39 c).toArray) acc).toList = acc.toList ++ l := by
    intro l
    induction l with
    | nil => intro acc _; simp
    | cons c l ih =>
      intro acc hc
      have hc0 := hc c (List.mem_cons_self ..)
      rw [List.foldl_cons, ih _ fun z hz => hc z (List.mem_cons_of_mem _ hz), prn c (by omega) hc0.1]
      simp
  show ((Array.push (x.cps.foldl (fun out c => out ++ (Builtin.Str.reprChar 39 c).toArray) #[39]) 39).toList) = _
  rw [Array.toList_push, ← Array.foldl_toList, go _ _ h.2.2]
  simp [nmL]
abbrev S2 : List Nat := [44, 32]
/-- what stands between the commas -/
def pcs : Rc → List (List Nat)
  | .head seq tail b => [nmL "Head", numI seq, numI tail, blL b]
  | .sl tail count => [nmL "Seal", numI tail, numI count]
  | .node d a o n w s c u => [nmL "Node", numI d, numI a, numI o, numI n, numI w, numI s, numI c, numI u]
  | .name d a o dir nm n u => [nmL "Name", numI d, numI a, numI o, numI dir, nmL nm, numI n, numI u]
  | .chunk d a o n ix [x0, x1, x2, x3, x4, x5, x6, x7, x8, x9, xa, xb, xc, xd, xe, xf] u => [nmL "Chunk", numI d, numI a, numI o, numI n, numI ix, 40 :: numI x0, numI x1, numI x2, numI x3, numI x4, numI x5, numI x6, numI x7, numI x8, numI x9, numI xa, numI xb, numI xc, numI xd, numI xe, numI xf ++ [41], numI u]
  | .chunk .. => []
  | .keep d a o nm b u => [nmL "Keep", numI d, numI a, numI o, nmL nm, blL b, numI u]
theorem len16 {os : List Int} (h : os.length = 16) : ∃ x0 x1 x2 x3 x4 x5 x6 x7 x8 x9 xa xb xc xd xe xf, os = [x0, x1, x2, x3, x4, x5, x6, x7, x8, x9, xa, xb, xc, xd, xe, xf] := by
  match os, h with
  | [x0, x1, x2, x3, x4, x5, x6, x7, x8, x9, xa, xb, xc, xd, xe, xf], _ => exact ⟨x0, x1, x2, x3, x4, x5, x6, x7, x8, x9, xa, xb, xc, xd, xe, xf, rfl⟩
theorem cls_tx : tl (reprText "Head") = nmL "Head" ∧ tl (reprText "Seal") = nmL "Seal" ∧ tl (reprText "Node") = nmL "Node" ∧ tl (reprText "Name") = nmL "Name" ∧ tl (reprText "Chunk") = nmL "Chunk" ∧ tl (reprText "Keep") = nmL "Keep" := by decide +kernel
theorem st0 {d a o u : Int} (st : Stamp d a o) (hu : Until d o u) : 0 ≤ d ∧ 0 ≤ a ∧ 0 ≤ o ∧ 0 ≤ u := by
  have := st.bd
  have := hu.bd st.1
  omega
theorem pcs_tx {r : Rc} (g : Good r) : tl (listText (rowT r)) = 91 :: (joinL S2 (pcs r) ++ [93]) ∧ pcs r ≠ [] ∧ ∀ p ∈ pcs r, 44 ∉ p := by
  obtain ⟨ch, cs, cn, cm, cc, ck⟩ := cls_tx
  have nf : ∀ i : Int, 44 ∉ numI i := fun i => numL_free (.inl (by decide))
  have bf : ∀ b : Bool, 44 ∉ blL b := fun b => by cases b <;> decide
  have mf : ∀ x : Str, Nm x → 44 ∉ nmL x := fun x h hm => by
    unfold nmL at hm
    simp at hm
    have := h.2.2 44 (by simpa using hm)
    omega
  have c1 : 44 ∉ nmL "Head" ∧ 44 ∉ nmL "Seal" ∧ 44 ∉ nmL "Node" ∧ 44 ∉ nmL "Name" ∧ 44 ∉ nmL "Chunk" ∧ 44 ∉ nmL "Keep" := by decide +kernel
  obtain ⟨f1, f2, f3, f4, f5, f6⟩ := c1
  cases r with
  | head seq tail b =>
    obtain ⟨g1, g2, g3⟩ := g
    refine ⟨?_, by simp [pcs], fun p hp => ?_⟩
    · show tl (listText (reprText "Head" :: [txV (.int seq), txV (.int tail), txV (.bl b)])) = _
      rw [tl_list]
      simp only [List.map_cons, List.map_nil]
      rw [ch, tl_int (by omega), tl_int (by omega), tl_bl]
      rfl
    · simp only [pcs, List.mem_cons, List.not_mem_nil, or_false] at hp
      rcases hp with rfl | rfl | rfl | rfl
      · exact f1
      · exact nf _
      · exact nf _
      · exact bf _
  | sl tail count =>
    obtain ⟨g1, g2, g3, g4⟩ := g
    refine ⟨?_, by simp [pcs], fun p hp => ?_⟩
    · show tl (listText (reprText "Seal" :: [txV (.int tail), txV (.int count)])) = _
      rw [tl_list]
      simp only [List.map_cons, List.map_nil]
      rw [cs, tl_int (by omega), tl_int (by omega)]
      rfl
    · simp only [pcs, List.mem_cons, List.not_mem_nil, or_false] at hp
      rcases hp with rfl | rfl | rfl
      · exact f2
      · exact nf _
      · exact nf _
  | node d a o n w s c u =>
    obtain ⟨st, g1, g2, g3, g4, g5, g6, g7, g8, hu⟩ := g
    obtain ⟨b1, b2, b3, b4⟩ := st0 st hu
    refine ⟨?_, by simp [pcs], fun p hp => ?_⟩
    · show tl (listText (reprText "Node" :: [txV (.int d), txV (.int a), txV (.int o), txV (.int n), txV (.int w), txV (.int s), txV (.int c), txV (.int u)])) = _
      rw [tl_list]
      simp only [List.map_cons, List.map_nil]
      rw [cn, tl_int b1, tl_int b2, tl_int b3, tl_int (i := n) (by omega), tl_int g3, tl_int g5, tl_int g7, tl_int b4]
      rfl
    · simp only [pcs, List.mem_cons, List.not_mem_nil, or_false] at hp
      rcases hp with rfl | rfl | rfl | rfl | rfl | rfl | rfl | rfl | rfl
      · exact f3
      all_goals exact nf _
  | name d a o dir nm n u =>
    obtain ⟨st, g1, g2, gm, g3, g4, g5, hu⟩ := g
    obtain ⟨b1, b2, b3, b4⟩ := st0 st hu
    refine ⟨?_, by simp [pcs], fun p hp => ?_⟩
    · show tl (listText (reprText "Name" :: [txV (.int d), txV (.int a), txV (.int o), txV (.int dir), txV (.str nm), txV (.int n), txV (.int u)])) = _
      rw [tl_list]
      simp only [List.map_cons, List.map_nil]
      rw [cm, tl_int b1, tl_int b2, tl_int b3, tl_int (i := dir) (by omega), tl_nm gm, tl_int g4, tl_int b4]
      rfl
    · simp only [pcs, List.mem_cons, List.not_mem_nil, or_false] at hp
      rcases hp with rfl | rfl | rfl | rfl | rfl | rfl | rfl | rfl
      · exact f4
      · exact nf _
      · exact nf _
      · exact nf _
      · exact nf _
      · exact mf _ gm
      all_goals exact nf _
  | chunk d a o n ix os u =>
    obtain ⟨st, g1, g2, g3, g4, go, gl, hu⟩ := g
    obtain ⟨b1, b2, b3, b4⟩ := st0 st hu
    obtain ⟨x0, x1, x2, x3, x4, x5, x6, x7, x8, x9, xa, xb, xc, xd, xe, xf, rfl⟩ := len16 gl
    have g0 : ∀ x ∈ [x0, x1, x2, x3, x4, x5, x6, x7, x8, x9, xa, xb, xc, xd, xe, xf], 0 ≤ x := fun x hx => (go x hx).1
    have gj : ([x0, x1, x2, x3, x4, x5, x6, x7, x8, x9, xa, xb, xc, xd, xe, xf].map fun x => txV (.int x)).map tl = [x0, x1, x2, x3, x4, x5, x6, x7, x8, x9, xa, xb, xc, xd, xe, xf].map numI := by
      rw [List.map_map]
      exact List.map_congr_left fun x hx => tl_int (g0 x hx)
    refine ⟨?_, by simp [pcs], fun p hp => ?_⟩
    · show tl (listText (reprText "Chunk" :: [txV (.int d), txV (.int a), txV (.int o), txV (.int n), txV (.int ix), tupleText ([x0, x1, x2, x3, x4, x5, x6, x7, x8, x9, xa, xb, xc, xd, xe, xf].map fun x => txV (.int x)), txV (.int u)])) = _
      have et : tl (tupleText ([x0, x1, x2, x3, x4, x5, x6, x7, x8, x9, xa, xb, xc, xd, xe, xf].map fun x => txV (.int x))) = 40 :: (joinL S2 ([x0, x1, x2, x3, x4, x5, x6, x7, x8, x9, xa, xb, xc, xd, xe, xf].map numI) ++ [41]) := by
        rw [← gj]
        exact tl_tup _ _ _
      rw [tl_list]
      simp only [List.map_cons, List.map_nil] at et ⊢
      rw [cc, tl_int b1, tl_int b2, tl_int b3, tl_int (i := n) (by omega), tl_int g3, tl_int b4, et]
      simp [pcs, joinL]
    · simp only [pcs, List.mem_cons, List.not_mem_nil, or_false] at hp
      rcases hp with rfl | rfl | rfl | rfl | rfl | rfl | rfl | rfl | rfl | rfl | rfl | rfl | rfl | rfl | rfl | rfl | rfl | rfl | rfl | rfl | rfl | rfl | rfl
      · exact f5
      · exact nf _
      · exact nf _
      · exact nf _
      · exact nf _
      · exact nf _
      · intro z
        rcases List.mem_cons.mp z with z | z
        · cases z
        · exact nf _ z
      all_goals first | exact nf _ | (intro z; rcases List.mem_append.mp z with z | z; · exact nf _ z
                                      · simp at z)
  | keep d a o nm b u =>
    obtain ⟨st, gm, hu⟩ := g
    obtain ⟨b1, b2, b3, b4⟩ := st0 st hu
    refine ⟨?_, by simp [pcs], fun p hp => ?_⟩
    · show tl (listText (reprText "Keep" :: [txV (.int d), txV (.int a), txV (.int o), txV (.str nm), txV (.bl b), txV (.int u)])) = _
      rw [tl_list]
      simp only [List.map_cons, List.map_nil]
      rw [ck, tl_int b1, tl_int b2, tl_int b3, tl_nm gm, tl_bl, tl_int b4]
      rfl
    · simp only [pcs, List.mem_cons, List.not_mem_nil, or_false] at hp
      rcases hp with rfl | rfl | rfl | rfl | rfl | rfl | rfl
      · exact f6
      · exact nf _
      · exact nf _
      · exact nf _
      · exact mf _ gm
      · exact bf _
      · exact nf _
theorem num_eq {a b : Int} (h : numI a = numI b) (a0 : 0 ≤ a) (b0 : 0 ≤ b) : a = b := by
  have := numL_inj h
  omega
theorem nm_eq {x y : Str} (h : nmL x = nmL y) : x = y := by
  unfold nmL at h
  injection h with _ h
  exact ext_tl (List.append_cancel_right h)
theorem bl_eq {a b : Bool} (h : blL a = blL b) : a = b := by
  cases a <;> cases b <;> first | rfl | (simp [blL] at h)
theorem pcs_inj {r r' : Rc} (g : Good r) (g' : Good r') (h : pcs r = pcs r') : r = r' := by
  have cd : (nmL "Head" ≠ nmL "Seal" ∧ nmL "Head" ≠ nmL "Node" ∧ nmL "Head" ≠ nmL "Name" ∧ nmL "Head" ≠ nmL "Chunk" ∧ nmL "Head" ≠ nmL "Keep") ∧ (nmL "Seal" ≠ nmL "Node" ∧ nmL "Seal" ≠ nmL "Name" ∧ nmL "Seal" ≠ nmL "Chunk" ∧ nmL "Seal" ≠ nmL "Keep") ∧
    (nmL "Node" ≠ nmL "Name" ∧ nmL "Node" ≠ nmL "Chunk" ∧ nmL "Node" ≠ nmL "Keep") ∧ (nmL "Name" ≠ nmL "Chunk" ∧ nmL "Name" ≠ nmL "Keep") ∧ nmL "Chunk" ≠ nmL "Keep" := by decide +kernel
  obtain ⟨⟨d1, d2, d3, d4, d5⟩, ⟨d6, d7, d8, d9⟩, ⟨da, db, dc⟩, ⟨dd, de⟩, df⟩ := cd
  have c16 : ∀ d a o n ix os u, Good (.chunk d a o n ix os u) → ∃ x0 x1 x2 x3 x4 x5 x6 x7 x8 x9 xa xb xc xd xe xf, os = [x0, x1, x2, x3, x4, x5, x6, x7, x8, x9, xa, xb, xc, xd, xe, xf] := fun d a o n ix os u g => len16 g.2.2.2.2.2.2.1
  have c0 : ∀ r : Rc, Good r → ∃ rest, pcs r = nmL (clE.getD r.ix "") :: rest := by
    intro r g
    cases r with
    | chunk d a o n ix os u =>
      obtain ⟨x0, x1, x2, x3, x4, x5, x6, x7, x8, x9, xa, xb, xc, xd, xe, xf, rfl⟩ := c16 _ _ _ _ _ _ _ g
      exact ⟨_, rfl⟩
    | _ => exact ⟨_, rfl⟩
  obtain ⟨p, ep⟩ := c0 r g
  obtain ⟨p', ep'⟩ := c0 r' g'
  have eh : nmL (clE.getD r.ix "") = nmL (clE.getD r'.ix "") := by
    rw [ep, ep'] at h
    exact (List.cons.inj h).1
  have ei : r.ix = r'.ix := by
    have := nm_eq eh
    have l := ix_lt r
    have l' := ix_lt r'
    have dj : ∀ i, i < 6 → ∀ j, j < 6 → clE.getD i "" = clE.getD j "" → i = j := by decide +kernel
    exact dj _ l _ l' this
  clear ep ep' eh
  cases r with
  | head a1 a2 a3 =>
    cases r' <;> try (simp [Rc.ix] at ei; done)
    obtain ⟨g1, g2, g3⟩ := g
    obtain ⟨k1, k2, k3⟩ := g'
    simp only [pcs, List.cons.injEq, and_true, true_and] at h
    obtain ⟨h1, h2, h3⟩ := h
    rw [num_eq h1 (by omega) (by omega), num_eq h2 (by omega) (by omega), bl_eq h3]
  | sl a1 a2 =>
    cases r' <;> try (simp [Rc.ix] at ei; done)
    obtain ⟨g1, g2, g3, g4⟩ := g
    obtain ⟨k1, k2, k3, k4⟩ := g'
    simp only [pcs, List.cons.injEq, and_true, true_and] at h
    obtain ⟨h1, h2⟩ := h
    rw [num_eq h1 (by omega) (by omega), num_eq h2 (by omega) (by omega)]
  | node a1 a2 a3 a4 a5 a6 a7 a8 =>
    cases r' <;> try (simp [Rc.ix] at ei; done)
    obtain ⟨st, g1, g2, g3, g4, g5, g6, g7, g8, hu⟩ := g
    obtain ⟨st', k1, k2, k3, k4, k5, k6, k7, k8, hu'⟩ := g'
    obtain ⟨b1, b2, b3, b4⟩ := st0 st hu
    obtain ⟨e1, e2, e3, e4⟩ := st0 st' hu'
    simp only [pcs, List.cons.injEq, and_true, true_and] at h
    obtain ⟨h1, h2, h3, h4, h5, h6, h7, h8⟩ := h
    rw [num_eq h1 b1 e1, num_eq h2 b2 e2, num_eq h3 b3 e3, num_eq h4 (by omega) (by omega), num_eq h5 g3 k3, num_eq h6 g5 k5, num_eq h7 g7 k7, num_eq h8 b4 e4]
  | name a1 a2 a3 a4 a5 a6 a7 =>
    cases r' <;> try (simp [Rc.ix] at ei; done)
    obtain ⟨st, g1, g2, gm, g3, g4, g5, hu⟩ := g
    obtain ⟨st', k1, k2, km, k3, k4, k5, hu'⟩ := g'
    obtain ⟨b1, b2, b3, b4⟩ := st0 st hu
    obtain ⟨e1, e2, e3, e4⟩ := st0 st' hu'
    simp only [pcs, List.cons.injEq, and_true, true_and] at h
    obtain ⟨h1, h2, h3, h4, h5, h6, h7⟩ := h
    rw [num_eq h1 b1 e1, num_eq h2 b2 e2, num_eq h3 b3 e3, num_eq h4 (by omega) (by omega), nm_eq h5, num_eq h6 g4 k4, num_eq h7 b4 e4]
  | chunk a1 a2 a3 a4 a5 os a7 =>
    cases r' with
    | chunk c1 c2 c3 c4 c5 os' c7 =>
      obtain ⟨st, g1, g2, g3, g4, go, gl, hu⟩ := g
      obtain ⟨st', k1, k2, k3, k4, ko, kl, hu'⟩ := g'
      obtain ⟨b1, b2, b3, b4⟩ := st0 st hu
      obtain ⟨e1, e2, e3, e4⟩ := st0 st' hu'
      obtain ⟨x0, x1, x2, x3, x4, x5, x6, x7, x8, x9, xa, xb, xc, xd, xe, xf, rfl⟩ := len16 gl
      obtain ⟨y0, y1, y2, y3, y4, y5, y6, y7, y8, y9, ya, yb, yc, yd, ye, yf, rfl⟩ := len16 kl
      simp only [pcs, List.cons.injEq, and_true, true_and, List.append_cancel_right_eq] at h
      obtain ⟨h1, h2, h3, h4, h5, i0, i1, i2, i3, i4, i5, i6, i7, i8, i9, ia, ib, ic, id, ie, jf, h7⟩ := h
      have gx : ∀ x ∈ [x0, x1, x2, x3, x4, x5, x6, x7, x8, x9, xa, xb, xc, xd, xe, xf], 0 ≤ x := fun x hx => (go x hx).1
      have gy : ∀ x ∈ [y0, y1, y2, y3, y4, y5, y6, y7, y8, y9, ya, yb, yc, yd, ye, yf], 0 ≤ x := fun x hx => (ko x hx).1
      rw [num_eq h1 b1 e1, num_eq h2 b2 e2, num_eq h3 b3 e3, num_eq h4 (by omega) (by omega), num_eq h5 g3 k3, num_eq h7 b4 e4,
        num_eq i0 (gx _ (by simp)) (gy _ (by simp)), num_eq i1 (gx _ (by simp)) (gy _ (by simp)), num_eq i2 (gx _ (by simp)) (gy _ (by simp)), num_eq i3 (gx _ (by simp)) (gy _ (by simp)), num_eq i4 (gx _ (by simp)) (gy _ (by simp)), num_eq i5 (gx _ (by simp)) (gy _ (by simp)), num_eq i6 (gx _ (by simp)) (gy _ (by simp)), num_eq i7 (gx _ (by simp)) (gy _ (by simp)),
        num_eq i8 (gx _ (by simp)) (gy _ (by simp)), num_eq i9 (gx _ (by simp)) (gy _ (by simp)), num_eq ia (gx _ (by simp)) (gy _ (by simp)), num_eq ib (gx _ (by simp)) (gy _ (by simp)), num_eq ic (gx _ (by simp)) (gy _ (by simp)), num_eq id (gx _ (by simp)) (gy _ (by simp)), num_eq ie (gx _ (by simp)) (gy _ (by simp)), num_eq jf (gx _ (by simp)) (gy _ (by simp))]
    | _ => exact absurd ei (by simp [Rc.ix])
  | keep a1 a2 a3 a4 a5 a6 =>
    cases r' <;> try (simp [Rc.ix] at ei; done)
    obtain ⟨st, gm, hu⟩ := g
    obtain ⟨st', km, hu'⟩ := g'
    obtain ⟨b1, b2, b3, b4⟩ := st0 st hu
    obtain ⟨e1, e2, e3, e4⟩ := st0 st' hu'
    simp only [pcs, List.cons.injEq, and_true, true_and] at h
    obtain ⟨h1, h2, h3, h4, h5, h6⟩ := h
    rw [num_eq h1 b1 e1, num_eq h2 b2 e2, num_eq h3 b3 e3, nm_eq h4, bl_eq h5, num_eq h6 b4 e4]
/-- equal texts, equal rows -/
theorem row_inj {r r' : Rc} (g : Good r) (g' : Good r') (h : listText (rowT r) = listText (rowT r')) : r = r' := by
  obtain ⟨e, n, f⟩ := pcs_tx g
  obtain ⟨e', n', f'⟩ := pcs_tx g'
  have z : tl (listText (rowT r)) = tl (listText (rowT r')) := by rw [h]
  rw [e, e'] at z
  have z2 := List.append_cancel_right (List.cons.inj z).2
  have s := spl_join (S := [32]) n f
  have s' := spl_join (S := [32]) n' f'
  refine pcs_inj g g' ?_
  rw [← s, ← s', z2]
end K12
/-! a record is right -/
namespace K12
open PySem PySem.Spec PyProof.Rows L2 VB BM
section
variable {P : Program} {w : World} {K : PySem.W.Frag} {mg : Str → Option Value} {base : Heap} {f : Addr} {fd : FuncData}
open TL in
theorem txt_inj {a b : Int} (a0 : 0 ≤ a) (b0 : 0 ≤ b) (h : Str.ofString (toString a) = Str.ofString (toString b)) : a = b := by
  obtain ⟨m, rfl⟩ : ∃ m : Nat, a = m := ⟨a.toNat, by omega⟩
  obtain ⟨n, rfl⟩ : ∃ n : Nat, b = n := ⟨b.toNat, by omega⟩
  have e := congrArg tl h
  rw [tl_num, tl_num] at e
  exact congrArg _ (numL_inj e)
open TL in
theorem txt_len {a : Int} (a0 : 0 ≤ a) (h : a ≤ 4294967295) : (Str.ofString (toString a)).length ≤ 10 := by
  obtain ⟨m, rfl⟩ : ∃ m : Nat, a = m := ⟨a.toNat, by omega⟩
  rw [len_tl, tl_num]
  exact numL_len (by decide) (by omega)
theorem txt_big {a : Int} (a0 : 0 ≤ a) (h : a ≤ 4294967295) : a.natAbs < 10 ^ 4300 :=
  Nat.lt_of_lt_of_le (show a.natAbs < 10 ^ 10 by omega) (Nat.pow_le_pow_right (by decide) (by decide))
theorem tx_of {v : V} (h : Tx v (txV v)) : Tx v (txV v) := h
theorem tx_i {i : Int} (h0 : 0 ≤ i) (h : i ≤ 4294967295) : Tx (.int i) (txV (.int i)) ∧ (txV (.int i)).length ≤ 90 := ⟨.int i (txt_big h0 h), Nat.le_trans (txt_len h0 h) (by decide)⟩
theorem tx_b (b : Bool) : Tx (.bl b) (txV (.bl b)) ∧ (txV (.bl b)).length ≤ 90 := ⟨.bl b, by cases b <;> decide +kernel⟩
theorem tx_nm {x : Str} (h : Nm x) : Tx (.str x) (txV (.str x)) ∧ (txV (.str x)).length ≤ 90 := by
  have e : (txV (.str x)).length ≤ 10 := by
    rw [TL.len_tl, tl_nm h]
    unfold nmL
    rw [List.length_cons, List.length_append, ← TL.len_tl]
    have := h.2.1
    show x.cps.size + 1 + 1 ≤ 10
    omega
  exact ⟨.str x (Nat.le_trans e (by decide)), Nat.le_trans e (by decide)⟩
theorem tx_c {x : Str} (h : (reprText x).length ≤ 90) : Tx (.str x) (txV (.str x)) ∧ (txV (.str x)).length ≤ 90 := ⟨.str x (Nat.le_trans h (by decide)), h⟩
theorem shw_flat {H : Hp} {bs : List Addr} {d : Nat} : ∀ {xs : List V}, (∀ x ∈ xs, Tx x (txV x) ∧ (txV x).length ≤ 90) → ShwAll H xs (xs.map txV) bs d
  | [], _ => .nil
  | x :: xs, h => .cons (.flat (h x (List.mem_cons_self ..)).1) (fun _ z => nomatch z) (Nat.zero_le _) (shw_flat fun y hy => h y (List.mem_cons_of_mem _ hy))
theorem len_flat {xs : List V} (h : ∀ x ∈ xs, Tx x (txV x) ∧ (txV x).length ≤ 90) (l : xs.length ≤ 40) : (listText (xs.map txV)).length ≤ 4000 ∧ (tupleText (xs.map txV)).length ≤ 4000 := by
  have a := listText_le (b := 90) (xs.map txV) (fun t ht => by
    obtain ⟨x, hx, rfl⟩ := List.mem_map.mp ht
    exact (h x hx).2)
  have b := tupleText_le (b := 90) (xs.map txV) (fun t ht => by
    obtain ⟨x, hx, rfl⟩ := List.mem_map.mp ht
    exact (h x hx).2)
  rw [List.length_map] at a b
  omega
abbrev kyE : List Str := ["node", "name", "chunk", "keep"]
theorem c_tx : ∀ x ∈ clE ++ kyE, (reprText x).length ≤ 90 := by decide +kernel
theorem oct_tx {os : List Int} (h : Oct os) : ∀ x ∈ IV os, Tx x (txV x) ∧ (txV x).length ≤ 90 := fun x hx => by
  obtain ⟨i, hi, rfl⟩ := List.mem_map.mp hx
  have := h i hi
  exact tx_i (by omega) (by omega)
theorem row_tx {r : Rc} (g : Good r) (n4 : r.ix ≠ 4) : ∀ x ∈ rowV .non r, Tx x (txV x) ∧ (txV x).length ≤ 90 := by
  have L := g.loose
  have ct : ∀ s : Str, s ∈ clE ++ kyE → Tx (.str s) (txV (.str s)) ∧ (txV (.str s)).length ≤ 90 := fun s hs => tx_c (c_tx s hs)
  cases r with
  | head seq tail b =>
    obtain ⟨h1, h2, h3, h4⟩ := L
    exact List.forall_mem_cons.mpr ⟨ct _ (by decide), List.forall_mem_cons.mpr ⟨tx_i (by omega) (by omega), List.forall_mem_cons.mpr ⟨tx_i (by omega) (by omega), List.forall_mem_cons.mpr ⟨tx_b _, fun _ z => nomatch z⟩⟩⟩⟩
  | sl tail count =>
    obtain ⟨h1, h2, h3, h4⟩ := L
    exact List.forall_mem_cons.mpr ⟨ct _ (by decide), List.forall_mem_cons.mpr ⟨tx_i (by omega) (by omega), List.forall_mem_cons.mpr ⟨tx_i (by omega) (by omega), fun _ z => nomatch z⟩⟩⟩
  | node d a o n wh s c u =>
    obtain ⟨L, h1, h2, h3, h4, h5, h6, h7, h8, h9, ha⟩ := L
    exact List.forall_mem_cons.mpr ⟨ct _ (by decide), List.forall_mem_cons.mpr ⟨tx_i (by omega) (by omega), List.forall_mem_cons.mpr ⟨tx_i (by omega) (by omega), List.forall_mem_cons.mpr ⟨tx_i (by omega) (by omega), List.forall_mem_cons.mpr ⟨tx_i (by omega) (by omega), List.forall_mem_cons.mpr ⟨tx_i (by omega) (by omega), List.forall_mem_cons.mpr ⟨tx_i (by omega) (by omega), List.forall_mem_cons.mpr ⟨tx_i (by omega) (by omega), List.forall_mem_cons.mpr ⟨tx_i (by omega) (by omega), fun _ z => nomatch z⟩⟩⟩⟩⟩⟩⟩⟩⟩
  | name d a o dr nm n u =>
    obtain ⟨L, h1, h2, hn, h4, h5, h6, h7, h8⟩ := L
    exact List.forall_mem_cons.mpr ⟨ct _ (by decide), List.forall_mem_cons.mpr ⟨tx_i (by omega) (by omega), List.forall_mem_cons.mpr ⟨tx_i (by omega) (by omega), List.forall_mem_cons.mpr ⟨tx_i (by omega) (by omega), List.forall_mem_cons.mpr ⟨tx_i (by omega) (by omega), List.forall_mem_cons.mpr ⟨tx_nm hn, List.forall_mem_cons.mpr ⟨tx_i (by omega) (by omega), List.forall_mem_cons.mpr ⟨tx_i (by omega) (by omega), fun _ z => nomatch z⟩⟩⟩⟩⟩⟩⟩⟩
  | chunk => exact absurd rfl n4
  | keep d a o nm b u =>
    obtain ⟨L, hn, h7, h8⟩ := L
    exact List.forall_mem_cons.mpr ⟨ct _ (by decide), List.forall_mem_cons.mpr ⟨tx_i (by omega) (by omega), List.forall_mem_cons.mpr ⟨tx_i (by omega) (by omega), List.forall_mem_cons.mpr ⟨tx_i (by omega) (by omega), List.forall_mem_cons.mpr ⟨tx_nm hn, List.forall_mem_cons.mpr ⟨tx_b _, List.forall_mem_cons.mpr ⟨tx_i (by omega) (by omega), fun _ z => nomatch z⟩⟩⟩⟩⟩⟩⟩
/-- a row's text -/
theorem row_shw {H : Hp} {l : Addr} {r : Rc} (h : RowAt H l r) (g : Good r) : ∃ bs d, Shw H (.ref l) (listText (rowT r)) bs d ∧ d ≤ 60 ∧ (listText (rowT r)).length ≤ sizeLine := by
  obtain ⟨t, hl, ho⟩ := h
  by_cases n4 : r.ix = 4
  · cases r with
    | chunk d a o n ix os u =>
      obtain ⟨p, rfl, hp⟩ := ho
      have L := g.loose
      obtain ⟨L, h1, h2, h3, h4, go, gl, h7, h8⟩ := L
      have c5 := tx_c (c_tx "Chunk" (by decide))
      have i1 := tx_i (i := d) (by omega) (by omega)
      have i2 := tx_i (i := a) (by omega) (by omega)
      have i3 := tx_i (i := o) (by omega) (by omega)
      have i4 := tx_i (i := n) (by omega) (by omega)
      have i5 := tx_i (i := ix) (by omega) (by omega)
      have i6 := tx_i (i := u) (by omega) (by omega)
      have ot := oct_tx go
      have em : os.map (fun x => txV (.int x)) = (IV os).map txV := by
        unfold IV
        rw [List.map_map]
        rfl
      have ln : (tupleText ((IV os).map txV)).length ≤ 4000 := (len_flat ot (by rw [iv_len]; omega)).2
      have ne : p ≠ l := fun z => by rw [z, hl] at hp; cases hp
      refine ⟨_, _, .lst (bs := [p]) (d := 1) hl (fun z => by cases z) (.cons (.flat c5.1) (fun _ z => nomatch z) (Nat.zero_le _) (.cons (.flat i1.1) (fun _ z => nomatch z) (Nat.zero_le _) (.cons (.flat i2.1) (fun _ z => nomatch z) (Nat.zero_le _) (.cons (.flat i3.1) (fun _ z => nomatch z) (Nat.zero_le _) (.cons (.flat i4.1) (fun _ z => nomatch z) (Nat.zero_le _) (.cons (.flat i5.1) (fun _ z => nomatch z) (Nat.zero_le _)
        (.cons (.tup (bs := []) (d := 0) hp (by rw [em]; exact shw_flat ot) (fun z => nomatch z)) (fun b hb => hb) (Nat.le_refl _) (.cons (.flat i6.1) (fun _ z => nomatch z) (Nat.zero_le _) .nil)))))))) (fun z => ne (List.mem_singleton.mp z).symm), by decide, ?_⟩
      have k := listText_le (b := 4000) (rowT (.chunk d a o n ix os u)) (fun x hx => by
        simp only [rowT, List.mem_cons, List.not_mem_nil, or_false] at hx
        rcases hx with rfl | rfl | rfl | rfl | rfl | rfl | rfl | rfl
        · exact Nat.le_trans c5.2 (by decide)
        · exact Nat.le_trans i1.2 (by decide)
        · exact Nat.le_trans i2.2 (by decide)
        · exact Nat.le_trans i3.2 (by decide)
        · exact Nat.le_trans i4.2 (by decide)
        · exact Nat.le_trans i5.2 (by decide)
        · rw [em]
          exact ln
        · exact Nat.le_trans i6.2 (by decide))
      have e8 : (rowT (.chunk d a o n ix os u)).length = 8 := rfl
      rw [e8] at k
      exact Nat.le_trans k (by decide)
    | _ => exact absurd n4 (by simp [Rc.ix])
  · have ft := row_tx g n4
    have er : rowV t r = rowV .non r ∧ rowT r = (rowV .non r).map txV := by
      cases r with
      | chunk => exact absurd rfl n4
      | _ => exact ⟨rfl, rfl⟩
    rw [er.1] at hl
    rw [er.2]
    obtain ⟨n, hn, _, n9⟩ := row_n .non r
    refine ⟨_, _, .lst (bs := []) (d := 0) hl (fun z => by rw [z] at hn; cases hn) (shw_flat ft) (fun z => nomatch z), by decide, ?_⟩
    exact Nat.le_trans (len_flat ft (by omega)).1 (by decide)
/-- a flat tuple's text -/
theorem tup_shw {H : Hp} {l : Addr} {xs : List V} (h : H l = some (.tup xs)) (ft : ∀ x ∈ xs, Tx x (txV x) ∧ (txV x).length ≤ 90) (n : xs.length ≤ 40) : ∃ bs d, Shw H (.ref l) (tupleText (xs.map txV)) bs d ∧ d ≤ 60 ∧ (tupleText (xs.map txV)).length ≤ sizeLine :=
  ⟨_, _, .tup (bs := []) (d := 0) h (shw_flat ft) (fun z => nomatch z), by decide, Nat.le_trans (len_flat ft n).2 (by decide)⟩
abbrev g1 : List Value → List Value → List Value := fun _ us => [us.getD 0 .none]
abbrev g1V : List V → List V → List V := fun _ ws => [ws.getD 0 .non]
theorem be_bd {n : Int} {c : Nat} : ∀ x ∈ be n c, 0 ≤ x ∧ x ≤ 4294967295 := fun x hx => by
  obtain ⟨i, hi, rfl⟩ := List.mem_map.mp hx
  omega
theorem codes_bd {x : Str} (h : Nm x) : ∀ y ∈ ((x.cps.size : Int) :: codes x), 0 ≤ y ∧ y ≤ 4294967295 := fun y hy => by
  rcases List.mem_cons.mp hy with rfl | hy
  · have := h.2.1
    omega
  · obtain ⟨c, hc, rfl⟩ := List.mem_map.mp hy
    have := h.2.2 c hc
    omega
theorem pad_bd {c : Nat} {l : List Int} (h : ∀ x ∈ l, 0 ≤ x ∧ x ≤ 4294967295) : ∀ x ∈ pad c l, 0 ≤ x ∧ x ≤ 4294967295 := fun x hx => by
  rcases List.mem_append.mp hx with hx | hx
  · exact h x hx
  · rw [List.eq_of_mem_replicate hx]
    decide
theorem app_bd {l m : List Int} (h : ∀ x ∈ l, 0 ≤ x ∧ x ≤ 4294967295) (k : ∀ x ∈ m, 0 ≤ x ∧ x ≤ 4294967295) : ∀ x ∈ l ++ m, 0 ≤ x ∧ x ≤ 4294967295 := fun x hx => by
  rcases List.mem_append.mp hx with hx | hx
  · exact h x hx
  · exact k x hx
theorem cons_bd {a : Int} {m : List Int} (h : 0 ≤ a ∧ a ≤ 4294967295) (k : ∀ x ∈ m, 0 ≤ x ∧ x ≤ 4294967295) : ∀ x ∈ a :: m, 0 ≤ x ∧ x ≤ 4294967295 := List.forall_mem_cons.mpr ⟨h, k⟩
theorem nil_bd : ∀ x ∈ ([] : List Int), 0 ≤ x ∧ x ≤ 4294967295 := fun _ z => nomatch z
theorem facO_bd {r : Rc} (g : Good r) : ∀ x ∈ facO r, 0 ≤ x ∧ x ≤ 4294967295 := by
  have L := g.loose
  cases r with
  | head => exact nil_bd
  | sl => exact nil_bd
  | node d a o n wh s c u =>
    obtain ⟨L, h1, h2, h3, h4, h5, h6, h7, h8, h9, ha⟩ := L
    exact app_bd be_bd (cons_bd (by omega) (cons_bd (by omega) (cons_bd (by omega) nil_bd)))
  | name d a o dr nm n u =>
    obtain ⟨L, h1, h2, hn, h4, h5, h6, h7, h8⟩ := L
    exact app_bd (app_bd be_bd be_bd) (codes_bd hn)
  | chunk d a o n ix os u =>
    obtain ⟨L, h1, h2, h3, h4, go, gl, h7, h8⟩ := L
    exact app_bd (app_bd be_bd (cons_bd (by omega) nil_bd)) fun x hx => by have := go x hx; omega
  | keep d a o nm b u =>
    obtain ⟨L, hn, h7, h8⟩ := L
    exact app_bd (cons_bd (by cases b <;> decide) nil_bd) (codes_bd hn)
theorem octs_bd {r : Rc} (g : Good r) : ∀ x ∈ octs r, 0 ≤ x ∧ x ≤ 4294967295 := by
  by_cases h2 : 2 ≤ r.ix
  · rw [octs_tree h2]
    have l := ix_lt r
    have st := (dd_ok h2 g).1.bd
    exact app_bd (pad_bd (app_bd (app_bd (app_bd (cons_bd (by unfold kdO; omega) nil_bd) be_bd) (cons_bd (by omega) (cons_bd (by omega) nil_bd))) (facO_bd g))) be_bd
  · cases r with
    | head seq tail b => exact pad_bd (app_bd (app_bd (cons_bd (by cases b <;> decide) nil_bd) be_bd) be_bd)
    | sl tail count => exact pad_bd (app_bd (app_bd (cons_bd (by decide) nil_bd) be_bd) (cons_bd (by have := g.2.2; omega) nil_bd))
    | _ => exact absurd (show 2 ≤ _ from by simp [Rc.ix]) h2
theorem octs_len {r : Rc} (g : Good r) : (octs r).length ≤ 40 := by
  by_cases h2 : 2 ≤ r.ix
  · have f := facO_len h2 g
    rw [octs_tree h2, List.length_append, be_len]
    unfold pad
    rw [List.length_append, List.length_replicate, List.length_append, List.length_append, List.length_append, be_len]
    show 1 + 4 + 2 + _ + (26 - (1 + 4 + 2 + _)) + 4 ≤ 40
    omega
  · cases r with
    | head seq tail b =>
      show (pad 30 _).length ≤ 40
      unfold pad
      rw [List.length_append, List.length_replicate, List.length_append, List.length_append, be_len, be_len]
      show 1 + 4 + 4 + (30 - (1 + 4 + 4)) ≤ 40
      decide
    | sl tail count =>
      show (pad 30 _).length ≤ 40
      unfold pad
      rw [List.length_append, List.length_replicate, List.length_append, List.length_append, be_len]
      show 1 + 4 + 1 + (30 - (1 + 4 + 1)) ≤ 40
      decide
    | _ => exact absurd (show 2 ≤ _ from by simp [Rc.ix]) h2
theorem octs_shw {H : Hp} {p : Addr} {r : Rc} (h : H p = some (.tup (IV (octs r)))) (g : Good r) : ∃ bs d, Shw H (.ref p) (tupleText ((IV (octs r)).map txV)) bs d ∧ d ≤ 60 ∧ (tupleText ((IV (octs r)).map txV)).length ≤ sizeLine :=
  tup_shw h (fun x hx => by
    obtain ⟨i, hi, rfl⟩ := List.mem_map.mp hx
    have := octs_bd g i hi
    exact tx_i this.1 this.2) (by rw [iv_len]; exact octs_len g)
/-- two texts are the same -/
theorem rp_ne {A B : TE} {T : Str} {σ : List (Option V)} {H : Hp} {Q : Bool → Hp → Prop} (hT : T.length ≤ sizeLine) (hA : ∀ Q' : VK, (∀ (v : V) (H1 : Hp) (bs : List Addr) (d : Nat), Evl.Ex H H1 → Shw H1 v T bs d → d ≤ 60 → Q' v H1) → A σ H Q')
    (hB : ∀ H1, Evl.Ex H H1 → ∀ Q' : VK, (∀ (v : V) (H2 : Hp) (bs : List Addr) (d : Nat), Evl.Ex H1 H2 → Shw H2 v T bs d → d ≤ 60 → Q' v H2) → B σ H1 Q') (q : ∀ H', Evl.Ex H H' → Q false H') :
    tTest (tOp (rNeU K) (tCB rReprS (tCons A tNil)) (tCB rReprS (tCons B tNil))) σ H Q := by
  refine hA _ fun v H1 bs d e1 s1 d1 => ⟨v, T, bs, d, rfl, s1, d1, hT, hB H1 e1 _ fun v2 H2 bs2 d2 e2 s2 dd2 => ⟨v2, T, bs2, d2, rfl, s2, dd2, hT, .inl ⟨rfl, _, rfl, ?_⟩⟩⟩
  rw [decide_eq_true rfl]
  exact q H2 (e1.trans e2)
end
end K12
/-! records of rows -/
namespace K12
open PySem PySem.Spec PyProof.Rows L2 VB BM
section
variable {P : Program} {w : World} {K : PySem.W.Frag} {mg : Str → Option Value} {base : Heap} {f : Addr} {fd : FuncData}
theorem Good.lo {r : Rc} (h : Good r) : Lo r := by
  cases r with
  | head seq tail b =>
    obtain ⟨h1, h2, h3⟩ := h
    exact ⟨⟨by omega, by omega⟩, ⟨by omega, by omega⟩⟩
  | sl tail count =>
    obtain ⟨h1, h2, h3, h4⟩ := h
    exact ⟨⟨by omega, by omega⟩, ⟨by omega, by omega⟩⟩
  | node d a o n w s c u =>
    obtain ⟨L, h1, h2, h3, h4, h5, h6, h7, h8, h9, ha⟩ := h.loose
    exact ⟨⟨by omega, by omega⟩, ⟨by omega, by omega⟩, ⟨by omega, by omega⟩, ⟨by omega, by omega⟩, ⟨by omega, by omega⟩, ⟨by omega, by omega⟩, ⟨by omega, by omega⟩, ⟨by omega, by omega⟩⟩
  | name d a o dir nm n u =>
    obtain ⟨L, h1, h2, hn, h4, h5, h6, h7, h8⟩ := h.loose
    exact ⟨⟨by omega, by omega⟩, ⟨by omega, by omega⟩, ⟨by omega, by omega⟩, ⟨by omega, by omega⟩, by have := hn.2.1; omega, ⟨by omega, by omega⟩, ⟨by omega, by omega⟩⟩
  | chunk d a o n ix os u =>
    obtain ⟨L, h1, h2, h3, h4, go, gl, h7, h8⟩ := h.loose
    exact ⟨⟨by omega, by omega⟩, ⟨by omega, by omega⟩, ⟨by omega, by omega⟩, ⟨by omega, by omega⟩, ⟨by omega, by omega⟩, go, gl, ⟨by omega, by omega⟩⟩
  | keep d a o nm b u =>
    obtain ⟨L, hn, h7, h8⟩ := h.loose
    exact ⟨⟨by omega, by omega⟩, ⟨by omega, by omega⟩, ⟨by omega, by omega⟩, by have := hn.2.1; omega, ⟨by omega, by omega⟩⟩
/-- t holds the chunk's octets, in a list or a tuple -/
def OcL (H : Hp) (t : V) (r : Rc) : Prop := ∀ d a o n ix os u, r = .chunk d a o n ix os u → ∃ p : Addr, t = .ref p ∧ (H p = some (.tup (IV os)) ∨ H p = some (.lst (IV os)))
theorem OcT.l {H : Hp} {t : V} {r : Rc} (h : OcT H t r) : OcL H t r := by
  rintro d a o n ix os u rfl
  obtain ⟨p, h1, h2⟩ := h
  exact ⟨p, h1, .inl h2⟩
theorem mk_any {i : Nat} {t : V} {r : Rc} {H : Hp} {Z : Addr → Hp → Prop} {E : XK} {vs : List V} (ev : vs = (rowV t r).tail) (ei : r.ix = i) (ho : OcL H t r) (lo : Lo r) (q : Good r → ∀ (a : Addr) (H' : Hp), Evl.Ex H H' → RecAt K H' a r → Z a H') (e : ¬ Good r → Rf K H E) :
    ∀ x dx, H x = none → H dx = none → dx ≠ x → spIni K i (.ref x :: vs) (upd (upd H dx (.own x)) x (.ins (Kl K i) dx [])) (fun v H2 => v = .non ∧ Z x H2) E := by
  subst ev ei
  intro x dx nx nd ne
  have y : Evl.Ex H (upd (upd H dx (.own x)) x (.ins (Kl K r.ix) dx [])) := fun a u h => by
    have a1 : a ≠ x := fun z => by rw [z, nx] at h; cases h
    have a2 : a ≠ dx := fun z => by rw [z, nd] at h; cases h
    rw [upd_ne a1, upd_ne a2]
    exact h
  refine ⟨x, dx, t, r, rfl, rfl, lo, upd_same, ?_, fun g H' t' e hx ho' => ⟨rfl, q g x H' (fun a u h => ?_) ⟨dx, t', hx, ho'⟩⟩, fun g => (e g).ex y⟩
  · intro d a o n ix os u er
    obtain ⟨p, h1, h2⟩ := ho d a o n ix os u er
    exact ⟨p, h1, h2.imp (y _ _) (y _ _)⟩
  · exact e _ _ (fun z => by rw [z, nx] at h; cases h) (y _ _ h)
theorem mk_fin {i : Nat} {t : V} {r : Rc} {H : Hp} {Q : VK} {E : XK} {vs : List V} (ev : vs = (rowV t r).tail) (ei : r.ix = i) (ho : OcL H t r) (hg : Good r) (q : ∀ (a : Addr) (H' : Hp), Evl.Ex H H' → RecAt K H' a r → Q (.ref a) H') :
    ∀ x dx, H x = none → H dx = none → dx ≠ x → spIni K i (.ref x :: vs) (upd (upd H dx (.own x)) x (.ins (Kl K i) dx [])) (fun v H2 => v = .non ∧ Q (.ref x) H2) E := mk_any (Z := fun a H => Q (.ref a) H) ev ei ho hg.lo (fun _ => q) fun n => absurd hg n
def spMade (K : PySem.W.Frag) : Sp := fun vs H Q _ => ∃ (l : Addr) (r : Rc), vs = [.ref l] ∧ RowAt H l r ∧ Good r ∧ ∀ (a : Addr) (H' : Hp), Evl.Ex H H' → RecAt K H' a r → Q (.ref a) H'
theorem ok_made (T : Txt K mg) (F : FnP K "_law_made" s__law_made f fd)
    (N_Head : Mak P w K mg base (CX P w) 7 "Head" (Kl K 0) ["self", "seq", "tail", "is_cleaning"] (spIni K 0)) (N_Seal : Mak P w K mg base (CX P w) 7 "Seal" (Kl K 1) ["self", "tail", "count"] (spIni K 1))
    (N_Node : Mak P w K mg base (CX P w) 7 "Node" (Kl K 2) ["self", "deed", "at", "of", "node", "what", "size", "chunks", "until"] (spIni K 2)) (N_Name : Mak P w K mg base (CX P w) 7 "Name" (Kl K 3) ["self", "deed", "at", "of", "directory", "name", "node", "until"] (spIni K 3))
    (N_Chunk : Mak P w K mg base (CX P w) 7 "Chunk" (Kl K 4) ["self", "deed", "at", "of", "node", "index", "octets", "until"] (spIni K 4)) (N_Keep : Mak P w K mg base (CX P w) 7 "Keep" (Kl K 5) ["self", "deed", "at", "of", "name", "is_kept", "until"] (spIni K 5)) :
    Fg P w K mg base CX0 9 f fd ["_law_row"] (spMade K) := by
  refine fg_of F sc__law_made (fun vs H Q E h => ?_) (fun cdv A outer s H vs Q E hr h => ⟨_, (PSs.nox (pss_cons (ps_if (pt_cmpR (u_eq (K := K) hr) (pe_ix (u_ix (K := K)) (pv 0) pe_int (fun _ _ => rfl)) pe_str (nomark _))
  (pss_one (ps_ret (pe_mak N_Head hr.le (passes_call takes_no (fun _ _ _ _ h => h)) (pa_cons (pe_ix (u_ix (K := K)) (pv 0) pe_int (fun _ _ => rfl)) (pa_cons (pe_ix (u_ix (K := K)) (pv 0) pe_int (fun _ _ => rfl)) (pa_cons (pe_ix (u_ix (K := K)) (pv 0) pe_int (fun _ _ => rfl)) pa_nil)))))) pss_nil)
  (pss_cons (ps_if (pt_cmpR (u_eq (K := K) hr) (pe_ix (u_ix (K := K)) (pv 0) pe_int (fun _ _ => rfl)) pe_str (nomark _))
  (pss_one (ps_ret (pe_mak N_Seal hr.le (passes_call takes_no (fun _ _ _ _ h => h)) (pa_cons (pe_ix (u_ix (K := K)) (pv 0) pe_int (fun _ _ => rfl)) (pa_cons (pe_ix (u_ix (K := K)) (pv 0) pe_int (fun _ _ => rfl)) pa_nil))))) pss_nil)
  (pss_cons (ps_if (pt_cmpR (u_eq (K := K) hr) (pe_ix (u_ix (K := K)) (pv 0) pe_int (fun _ _ => rfl)) pe_str (nomark _))
  (pss_one (ps_ret (pe_mak N_Node hr.le (passes_call takes_no (fun _ _ _ _ h => h)) (pa_cons (pe_ix (u_ix (K := K)) (pv 0) pe_int (fun _ _ => rfl)) (pa_cons (pe_ix (u_ix (K := K)) (pv 0) pe_int (fun _ _ => rfl)) (pa_cons (pe_ix (u_ix (K := K)) (pv 0) pe_int (fun _ _ => rfl)) (pa_cons (pe_ix (u_ix (K := K)) (pv 0) pe_int (fun _ _ => rfl)) (pa_cons (pe_ix (u_ix (K := K)) (pv 0) pe_int (fun _ _ => rfl)) (pa_cons (pe_ix (u_ix (K := K)) (pv 0) pe_int (fun _ _ => rfl)) (pa_cons (pe_ix (u_ix (K := K)) (pv 0) pe_int (fun _ _ => rfl)) (pa_cons (pe_ix (u_ix (K := K)) (pv 0) pe_int (fun _ _ => rfl)) pa_nil))))))))))) pss_nil)
  (pss_cons (ps_if (pt_cmpR (u_eq (K := K) hr) (pe_ix (u_ix (K := K)) (pv 0) pe_int (fun _ _ => rfl)) pe_str (nomark _))
  (pss_one (ps_ret (pe_mak N_Name hr.le (passes_call takes_no (fun _ _ _ _ h => h)) (pa_cons (pe_ix (u_ix (K := K)) (pv 0) pe_int (fun _ _ => rfl)) (pa_cons (pe_ix (u_ix (K := K)) (pv 0) pe_int (fun _ _ => rfl)) (pa_cons (pe_ix (u_ix (K := K)) (pv 0) pe_int (fun _ _ => rfl)) (pa_cons (pe_ix (u_ix (K := K)) (pv 0) pe_int (fun _ _ => rfl)) (pa_cons (pe_ix (u_ix (K := K)) (pv 0) pe_int (fun _ _ => rfl)) (pa_cons (pe_ix (u_ix (K := K)) (pv 0) pe_int (fun _ _ => rfl)) (pa_cons (pe_ix (u_ix (K := K)) (pv 0) pe_int (fun _ _ => rfl)) pa_nil)))))))))) pss_nil)
  (pss_cons (ps_if (pt_cmpR (u_eq (K := K) hr) (pe_ix (u_ix (K := K)) (pv 0) pe_int (fun _ _ => rfl)) pe_str (nomark _))
  (pss_one (ps_ret (pe_mak N_Keep hr.le (passes_call takes_no (fun _ _ _ _ h => h)) (pa_cons (pe_ix (u_ix (K := K)) (pv 0) pe_int (fun _ _ => rfl)) (pa_cons (pe_ix (u_ix (K := K)) (pv 0) pe_int (fun _ _ => rfl)) (pa_cons (pe_ix (u_ix (K := K)) (pv 0) pe_int (fun _ _ => rfl)) (pa_cons (pe_ix (u_ix (K := K)) (pv 0) pe_int (fun _ _ => rfl)) (pa_cons (pe_ix (u_ix (K := K)) (pv 0) pe_int (fun _ _ => rfl)) (pa_cons (pe_ix (u_ix (K := K)) (pv 0) pe_int (fun _ _ => rfl)) pa_nil))))))))) pss_nil)
  (pss_one (ps_ret (pe_mak N_Chunk hr.le (passes_call takes_no (fun _ _ _ _ h => h)) (pa_cons (pe_ix (u_ix (K := K)) (pv 0) pe_int (fun _ _ => rfl)) (pa_cons (pe_ix (u_ix (K := K)) (pv 0) pe_int (fun _ _ => rfl)) (pa_cons (pe_ix (u_ix (K := K)) (pv 0) pe_int (fun _ _ => rfl)) (pa_cons (pe_ix (u_ix (K := K)) (pv 0) pe_int (fun _ _ => rfl)) (pa_cons (pe_ix (u_ix (K := K)) (pv 0) pe_int (fun _ _ => rfl)) (pa_cons (pe_ix (u_ix (K := K)) (pv 0) pe_int (fun _ _ => rfl)) (pa_cons (pe_ix (u_ix (K := K)) (pv 0) pe_int (fun _ _ => rfl)) pa_nil)))))))))))))))), ?_⟩)
  · obtain ⟨l, r, rfl, _⟩ := h
    rfl
  · obtain ⟨l, r, rfl, ⟨t, hl, ho⟩, hg, q⟩ := h
    have ds : ∀ x y : Str, decide (V.str x = V.str y) = decide (x = y) := fun x y => by
      by_cases h : x = y
      · rw [h, decide_eq_true rfl, decide_eq_true rfl]
      · rw [decide_eq_false h, decide_eq_false fun z => h (V.str.inj z)]
    have kk : ∀ {x y : Str} {c : Bool} {xs : List V} {Q' : Bool → Hp → Prop}, H l = some (.lst xs) → atI xs 0 = some (.str x) → decide (x = y) = c → Q' c H → tTest (tOp (rEqU K) (tOp (rIx K) (tVar 0) (tC (V.int 0))) (tC (.str y))) [some (.ref l)] H Q' := fun h e1 e q => r_eqT rfl h e1 rfl (by rw [ds, e]; exact q)
    have hx : ∀ {xs : List V} {i : Int} {v : V} {Q' : VK}, H l = some (.lst xs) → atI xs i = some v → Q' v H → tOp (rIx K) (tVar 0) (tC (V.int i)) [some (.ref l)] H Q' := fun h e q => r_ix rfl h e q
    cases r with
    | head seq tail c => exact kk hl rfl rfl (iteT (hx hl rfl (hx hl rfl (hx hl rfl (mk_fin rfl rfl ho.l hg q)))))
    | sl tail count => exact kk hl rfl rfl (iteF (kk hl rfl rfl (iteT (hx hl rfl (hx hl rfl (mk_fin rfl rfl ho.l hg q))))))
    | node d a o n wh s' c u =>
      refine kk hl rfl rfl (iteF (kk hl rfl rfl (iteF (kk hl rfl rfl (iteT ?_)))))
      exact hx hl rfl (hx hl rfl (hx hl rfl (hx hl rfl (hx hl rfl (hx hl rfl (hx hl rfl (hx hl rfl (mk_fin rfl rfl ho.l hg q))))))))
    | name d a o dr nm n u =>
      refine kk hl rfl rfl (iteF (kk hl rfl rfl (iteF (kk hl rfl rfl (iteF (kk hl rfl rfl (iteT ?_)))))))
      exact hx hl rfl (hx hl rfl (hx hl rfl (hx hl rfl (hx hl rfl (hx hl rfl (hx hl rfl (mk_fin rfl rfl ho.l hg q)))))))
    | keep d a o nm c u =>
      refine kk hl rfl rfl (iteF (kk hl rfl rfl (iteF (kk hl rfl rfl (iteF (kk hl rfl rfl (iteF (kk hl rfl rfl (iteT ?_)))))))))
      exact hx hl rfl (hx hl rfl (hx hl rfl (hx hl rfl (hx hl rfl (hx hl rfl (mk_fin rfl rfl ho.l hg q))))))
    | chunk d a o n ix os u =>
      refine kk hl rfl rfl (iteF (kk hl rfl rfl (iteF (kk hl rfl rfl (iteF (kk hl rfl rfl (iteF (kk hl rfl rfl (iteF ?_)))))))))
      exact hx hl rfl (hx hl rfl (hx hl rfl (hx hl rfl (hx hl rfl (hx hl rfl (hx hl rfl (mk_fin rfl rfl ho.l hg q)))))))
/-- record_of: a record of its fact, or refused -/
abbrev FnPD (K : PySem.W.Frag) (x : Str) (st : Stmt) (f : Addr) (fd : FuncData) : Prop := FunD K x x (defArgs st) (defBody st) (defScope st) [.int 0] [] f fd
def spRecOf (K : PySem.W.Frag) : Sp := fun vs H Q E => ∃ (p : Addr) (t : V) (r : Rc), vs = [.ref p, .int r.dd, .int r.aa, .int r.oo, .int r.uu] ∧ 2 ≤ r.ix ∧ H p = some (.tup (facV t r)) ∧ OcL H t r ∧ Lo r ∧ (Good r → ∀ (a : Addr) (H' : Hp), Evl.Ex H H' → RecAt K H' a r → Q (.ref a) H') ∧ (¬ Good r → Rf K H E)
theorem ok_recOf (T : Txt K mg) (F : FnPD K "record_of" s_record_of f fd)
    (N_Node : Mak P w K mg base (CX P w) 7 "Node" (Kl K 2) ["self", "deed", "at", "of", "node", "what", "size", "chunks", "until"] (spIni K 2)) (N_Name : Mak P w K mg base (CX P w) 7 "Name" (Kl K 3) ["self", "deed", "at", "of", "directory", "name", "node", "until"] (spIni K 3))
    (N_Chunk : Mak P w K mg base (CX P w) 7 "Chunk" (Kl K 4) ["self", "deed", "at", "of", "node", "index", "octets", "until"] (spIni K 4)) (N_Keep : Mak P w K mg base (CX P w) 7 "Keep" (Kl K 5) ["self", "deed", "at", "of", "name", "is_kept", "until"] (spIni K 5)) :
    Fg P w K mg base (CX P w) 9 f fd ["fact", "deed", "at", "of", "until"] (spRecOf K) := by
  refine fg_of F sc_record_of (fun vs H Q E h => ?_) (fun cdv A outer s H vs Q E hr h => ⟨_, ((pss_cons (ps_if (pt_cmpR (u_eq (K := K) hr) (pe_ix (u_ix (K := K)) (pv 0) pe_int (fun _ _ => rfl)) pe_str (nomark _))
  (pss_cons (ps_asg (pv 0) (pg_tupU (K := K) (n := 5) rfl (pgs_cons (pg_name (i := 5) sc_record_of.nd rfl (by first | exact Or.inl rfl | exact Or.inr rfl)) (pgs_cons (pg_name (i := 6) sc_record_of.nd rfl (by first | exact Or.inl rfl | exact Or.inr rfl)) (pgs_cons (pg_name (i := 7) sc_record_of.nd rfl (by first | exact Or.inl rfl | exact Or.inr rfl)) (pgs_cons (pg_name (i := 8) sc_record_of.nd rfl (by first | exact Or.inl rfl | exact Or.inr rfl)) (pgs_cons (pg_name (i := 9) sc_record_of.nd rfl (by first | exact Or.inl rfl | exact Or.inr rfl)) pgs_nil)))))))
  (pss_one (ps_ret (pe_mak N_Node hr.le (passes_call (takes_of rfl rfl rfl rfl) (fun _ _ _ _ h => h)) (pa_cons (pv 1) (pa_cons (pv 2) (pa_cons (pv 3) (pa_cons (pv 6) (pa_cons (pv 7) (pa_cons (pv 8) (pa_cons (pv 9) (pa_cons (pv 4) pa_nil)))))))))))) pss_nil)
  (pss_cons (ps_if (pt_cmpR (u_eq (K := K) hr) (pe_ix (u_ix (K := K)) (pv 0) pe_int (fun _ _ => rfl)) pe_str (nomark _))
  (pss_cons (ps_asg (pv 0) (pg_tupU (K := K) (n := 4) rfl (pgs_cons (pg_name (i := 5) sc_record_of.nd rfl (by first | exact Or.inl rfl | exact Or.inr rfl)) (pgs_cons (pg_name (i := 10) sc_record_of.nd rfl (by first | exact Or.inl rfl | exact Or.inr rfl)) (pgs_cons (pg_name (i := 11) sc_record_of.nd rfl (by first | exact Or.inl rfl | exact Or.inr rfl)) (pgs_cons (pg_name (i := 6) sc_record_of.nd rfl (by first | exact Or.inl rfl | exact Or.inr rfl)) pgs_nil))))))
  (pss_one (ps_ret (pe_mak N_Name hr.le (passes_call (takes_of rfl rfl rfl rfl) (fun _ _ _ _ h => h)) (pa_cons (pv 1) (pa_cons (pv 2) (pa_cons (pv 3) (pa_cons (pv 10) (pa_cons (pv 11) (pa_cons (pv 6) (pa_cons (pv 4) pa_nil))))))))))) pss_nil)
  (pss_cons (ps_if (pt_cmpR (u_eq (K := K) hr) (pe_ix (u_ix (K := K)) (pv 0) pe_int (fun _ _ => rfl)) pe_str (nomark _))
  (pss_cons (ps_asg (pv 0) (pg_tupU (K := K) (n := 4) rfl (pgs_cons (pg_name (i := 5) sc_record_of.nd rfl (by first | exact Or.inl rfl | exact Or.inr rfl)) (pgs_cons (pg_name (i := 6) sc_record_of.nd rfl (by first | exact Or.inl rfl | exact Or.inr rfl)) (pgs_cons (pg_name (i := 12) sc_record_of.nd rfl (by first | exact Or.inl rfl | exact Or.inr rfl)) (pgs_cons (pg_name (i := 13) sc_record_of.nd rfl (by first | exact Or.inl rfl | exact Or.inr rfl)) pgs_nil))))))
  (pss_one (ps_ret (pe_mak N_Chunk hr.le (passes_call (takes_of rfl rfl rfl rfl) (fun _ _ _ _ h => h)) (pa_cons (pv 1) (pa_cons (pv 2) (pa_cons (pv 3) (pa_cons (pv 6) (pa_cons (pv 12) (pa_cons (pv 13) (pa_cons (pv 4) pa_nil))))))))))) pss_nil)
  (pss_cons (ps_asg (pv 0) (pg_tupU (K := K) (n := 3) rfl (pgs_cons (pg_name (i := 5) sc_record_of.nd rfl (by first | exact Or.inl rfl | exact Or.inr rfl)) (pgs_cons (pg_name (i := 11) sc_record_of.nd rfl (by first | exact Or.inl rfl | exact Or.inr rfl)) (pgs_cons (pg_name (i := 14) sc_record_of.nd rfl (by first | exact Or.inl rfl | exact Or.inr rfl)) pgs_nil)))))
  (pss_one (ps_ret (pe_mak N_Keep hr.le (passes_call (takes_of rfl rfl rfl rfl) (fun _ _ _ _ h => h)) (pa_cons (pv 1) (pa_cons (pv 2) (pa_cons (pv 3) (pa_cons (pv 11) (pa_cons (pv 14) (pa_cons (pv 4) pa_nil)))))))))))))), ?_⟩)
  · obtain ⟨p, t, r, rfl, _⟩ := h
    rfl
  · obtain ⟨p, t, r, rfl, h2, hp, ho, lo, q, qE⟩ := h
    cases r with
    | head => exact absurd (show 2 ≤ 0 from h2) (by decide)
    | sl => exact absurd (show 2 ≤ 1 from h2) (by decide)
    | node d a o n w' s c u =>
      refine ⟨_, rfl, .inr (.inl ⟨p, _, 0, _, rfl, rfl, SqT.of hp, rfl, .inl ⟨rfl, _, rfl, iteT ?_⟩⟩)⟩
      refine ⟨_, rfl, p, _, rfl, SqT.of hp, rfl, _, _, rfl, _, _, rfl, _, _, rfl, _, _, rfl, _, _, rfl, rfl, ?_⟩
      exact ⟨_, rfl, _, rfl, _, rfl, _, rfl, _, rfl, _, rfl, _, rfl, _, rfl, mk_any (t := t) (Z := fun a H => Q (.ref a) H) rfl rfl ho lo q qE⟩
    | name d a o dir nm n u =>
      refine ⟨_, rfl, .inr (.inl ⟨p, _, 0, _, rfl, rfl, SqT.of hp, rfl, .inl ⟨rfl, _, rfl, iteF ?_⟩⟩)⟩
      refine ⟨_, rfl, .inr (.inl ⟨p, _, 0, _, rfl, rfl, SqT.of hp, rfl, .inl ⟨rfl, _, rfl, iteT ?_⟩⟩)⟩
      refine ⟨_, rfl, p, _, rfl, SqT.of hp, rfl, _, _, rfl, _, _, rfl, _, _, rfl, _, _, rfl, rfl, ?_⟩
      exact ⟨_, rfl, _, rfl, _, rfl, _, rfl, _, rfl, _, rfl, _, rfl, mk_any (t := t) (Z := fun a H => Q (.ref a) H) rfl rfl ho lo q qE⟩
    | chunk d a o n ix os u =>
      refine ⟨_, rfl, .inr (.inl ⟨p, _, 0, _, rfl, rfl, SqT.of hp, rfl, .inl ⟨rfl, _, rfl, iteF ?_⟩⟩)⟩
      refine ⟨_, rfl, .inr (.inl ⟨p, _, 0, _, rfl, rfl, SqT.of hp, rfl, .inl ⟨rfl, _, rfl, iteF ?_⟩⟩)⟩
      refine ⟨_, rfl, .inr (.inl ⟨p, _, 0, _, rfl, rfl, SqT.of hp, rfl, .inl ⟨rfl, _, rfl, iteT ?_⟩⟩)⟩
      refine ⟨_, rfl, p, _, rfl, SqT.of hp, rfl, _, _, rfl, _, _, rfl, _, _, rfl, _, _, rfl, rfl, ?_⟩
      exact ⟨_, rfl, _, rfl, _, rfl, _, rfl, _, rfl, _, rfl, _, rfl, mk_any (t := t) (Z := fun a H => Q (.ref a) H) rfl rfl ho lo q qE⟩
    | keep d a o nm b u =>
      refine ⟨_, rfl, .inr (.inl ⟨p, _, 0, _, rfl, rfl, SqT.of hp, rfl, .inl ⟨rfl, _, rfl, iteF ?_⟩⟩)⟩
      refine ⟨_, rfl, .inr (.inl ⟨p, _, 0, _, rfl, rfl, SqT.of hp, rfl, .inl ⟨rfl, _, rfl, iteF ?_⟩⟩)⟩
      refine ⟨_, rfl, .inr (.inl ⟨p, _, 0, _, rfl, rfl, SqT.of hp, rfl, .inl ⟨rfl, _, rfl, iteF ?_⟩⟩)⟩
      refine ⟨_, rfl, p, _, rfl, SqT.of hp, rfl, _, _, rfl, _, _, rfl, _, _, rfl, rfl, ?_⟩
      exact ⟨_, rfl, _, rfl, _, rfl, _, rfl, _, rfl, _, rfl, mk_any (t := t) (Z := fun a H => Q (.ref a) H) rfl rfl ho lo q qE⟩
end
end K12
/-! numbers and words in octets -/
namespace K12
open PySem PySem.Spec PyProof.Rows L2 VB BM
theorem map_at {α β : Type} {f : α → β} {xs : List α} {i : Nat} {y : β} (h : (xs.map f)[i]? = some y) : ∃ x, xs[i]? = some x ∧ f x = y := by
  rw [List.getElem?_map] at h
  exact Option.map_eq_some_iff.mp h
theorem p256 : ∀ i : Nat, i < 9 → (256 : Int) ^ i ≤ 18446744073709551616 := by decide +kernel
/-- the number that octets tell -/
def numO (os : List Int) : Int := os.foldl (fun n o => n * 256 + o) 0
theorem numO_snoc (os : List Int) (o : Int) : numO (os ++ [o]) = numO os * 256 + o := by
  unfold numO
  rw [List.foldl_append]
  rfl
theorem numO_bound : ∀ (n : Nat) (os : List Int), os.length = n → Oct os → 0 ≤ numO os ∧ numO os < 256 ^ n
  | 0, [], _, _ => by decide
  | 0, _ :: _, h, _ => by cases h
  | n + 1, os, h, oo => by
    obtain ⟨ys, y, rfl⟩ : ∃ ys y, os = ys ++ [y] := by
      have := List.dropLast_concat_getLast (l := os) (by intro z; rw [z] at h; cases h)
      exact ⟨_, _, this.symm⟩
    rw [List.length_append] at h
    have r := numO_bound n ys (by simpa using h) (fun z hz => oo z (List.mem_append_left _ hz))
    have b := oo y (List.mem_append_right _ (by simp))
    rw [numO_snoc, Int.pow_succ]
    omega
section
variable {P : Program} {w : World} {K : PySem.W.Frag} {mg : Str → Option Value} {base : Heap} {f : Addr} {fd : FuncData}
def spNumT (K : PySem.W.Frag) : Sp := fun vs H Q _ => ∃ (a : Addr) (os : List Int) (t : Bool), vs = [.ref a] ∧ Sv t K H a (IV os) ∧ Oct os ∧ os.length ≤ 8 ∧ RV (.int (numO os)) H Q
theorem ok_numT (T : Txt K mg) (F : FnP K "number_told_by" s_number_told_by f fd) : Fg P w K mg base CX0 1 f fd ["octets"] (spNumT K) := by
  refine fg_of F sc_number_told_by (fun vs H Q E h => ?_) (fun cdv A outer s H vs Q E hr h => ⟨_, (PSs.nox (pss_cons (ps_set (i := 1) sc_number_told_by.nd rfl (by first | exact Or.inl rfl | exact Or.inr rfl) pe_int)
  (pss_cons (ps_for PassesOwn.never rfl (pi_seq (K := K) (pv 0)) (pg_name (i := 2) sc_number_told_by.nd rfl (by first | exact Or.inl rfl | exact Or.inr rfl))
  (pss_one (ps_set (i := 1) sc_number_told_by.nd rfl (by first | exact Or.inl rfl | exact Or.inr rfl) (pe_op (u_add (K := K)) (pe_op (u_mul (K := K)) (pv 1) pe_int) (pv 2)))))
  (pss_one (ps_ret (pv 1)))))), ?_⟩)
  · obtain ⟨a, os, t, rfl, _⟩ := h
    rfl
  · obtain ⟨a, os, t, rfl, S, oo, hl, q⟩ := h
    refine seq_var (t := t) rfl S fun J wk => ?_
    rw [iv_len] at wk
    refine for_it wk (fun i σ H' => ∃ v2 : Option V, σ = [some (.ref a), some (.int (numO (os.take i))), v2] ∧ Evl.Ex H H') ⟨_, rfl, Evl.Ex.refl _⟩ (fun i σ H' _ h => S.ex h.choose_spec.2) ?_ ?_
    · rintro i x σ H2 H2' hi ⟨v2, rfl, e2⟩ ⟨rfl, hx⟩
      obtain ⟨o, ho, rfl⟩ := iv_get hx
      have b := numO_bound i (os.take i) (by rw [List.length_take]; omega) (fun z hz => oo z (List.mem_of_mem_take hz))
      have p := p256 i (by omega)
      refine ⟨_, rfl, .inl ⟨_, _, rfl, rfl, mulx_ok (a := 70) (b := 20) (by show _ < 1180591620717411303424; omega) (by decide) (by decide), _, rfl, .inl ⟨_, _, rfl, rfl, some (.int o), ?_, e2⟩⟩⟩
      rw [take_snoc ho, numO_snoc]
      rfl
    · rintro σ H2 ⟨v2, rfl, e2⟩
      rw [List.take_length]
      exact ⟨_, rfl, q _ e2⟩
theorem ok_value (T : Txt K mg) (F : FnP K "_law_value" s__law_value f fd) : Fg P w K mg base CX0 1 f fd ["_law_octets_here"] (spNumT K) := by
  refine fg_of F sc__law_value (fun vs H Q E h => ?_) (fun cdv A outer s H vs Q E hr h => ⟨_, (PSs.nox (pss_cons (ps_set (i := 1) sc__law_value.nd rfl (by first | exact Or.inl rfl | exact Or.inr rfl) pe_int)
  (pss_cons (ps_for PassesOwn.never rfl (pi_seq (K := K) (pv 0)) (pg_name (i := 2) sc__law_value.nd rfl (by first | exact Or.inl rfl | exact Or.inr rfl))
  (pss_one (ps_set (i := 1) sc__law_value.nd rfl (by first | exact Or.inl rfl | exact Or.inr rfl) (pe_op (u_add (K := K)) (pe_op (u_mul (K := K)) (pv 1) pe_int) (pv 2)))))
  (pss_one (ps_ret (pv 1)))))), ?_⟩)
  · obtain ⟨a, os, t, rfl, _⟩ := h
    rfl
  · obtain ⟨a, os, t, rfl, S, oo, hl, q⟩ := h
    refine seq_var (t := t) rfl S fun J wk => ?_
    rw [iv_len] at wk
    refine for_it wk (fun i σ H' => ∃ v2 : Option V, σ = [some (.ref a), some (.int (numO (os.take i))), v2] ∧ Evl.Ex H H') ⟨_, rfl, Evl.Ex.refl _⟩ (fun i σ H' _ h => S.ex h.choose_spec.2) ?_ ?_
    · rintro i x σ H2 H2' hi ⟨v2, rfl, e2⟩ ⟨rfl, hx⟩
      obtain ⟨o, ho, rfl⟩ := iv_get hx
      have b := numO_bound i (os.take i) (by rw [List.length_take]; omega) (fun z hz => oo z (List.mem_of_mem_take hz))
      have p := p256 i (by omega)
      refine ⟨_, rfl, .inl ⟨_, _, rfl, rfl, mulx_ok (a := 70) (b := 20) (by show _ < 1180591620717411303424; omega) (by decide) (by decide), _, rfl, .inl ⟨_, _, rfl, rfl, some (.int o), ?_, e2⟩⟩⟩
      rw [take_snoc ho, numO_snoc]
      rfl
    · rintro σ H2 ⟨v2, rfl, e2⟩
      rw [List.take_length]
      exact ⟨_, rfl, q _ e2⟩
theorem sx_ne {n i : Nat} (h : 0 < i) (hn : 0 < n) : HT.sIx n 0 (some (i : Int)) ≠ 0 := by
  rw [HT.sIx_nat]
  omega
theorem cut_nn {xs : List V} {i j : Nat} (h : i ≤ j) : cutV xs (some (i : Int)) (some (j : Int)) = (xs.drop i).take (j - i) := by
  unfold cutV
  rw [HT.sIx_nat, HT.sIx_nat]
  by_cases hi : i ≤ xs.length
  · rw [Nat.min_eq_left hi]
    by_cases hj : j ≤ xs.length
    · rw [Nat.min_eq_left hj]
    · rw [Nat.min_eq_right (by omega), List.take_of_length_le (by rw [List.length_drop]; exact Nat.le_refl _), List.take_of_length_le (by rw [List.length_drop]; omega)]
  · rw [Nat.min_eq_right (by omega), Nat.min_eq_right (by omega), List.drop_of_length_le (Nat.le_refl _), List.drop_of_length_le (by omega)]
    simp
theorem cut_n {xs : List V} {j : Nat} : cutV xs none (some (j : Int)) = xs.take j := by
  unfold cutV
  have e0 : HT.sIx xs.length 0 none = 0 := rfl
  rw [HT.sIx_nat, e0, List.drop_zero, Nat.sub_zero]
  by_cases hj : j ≤ xs.length
  · rw [Nat.min_eq_left hj]
  · rw [Nat.min_eq_right (by omega), List.take_of_length_le (Nat.le_refl _), List.take_of_length_le (by omega)]
theorem cut_d {xs : List V} {i : Nat} : cutV xs (some (i : Int)) none = xs.drop i := by
  unfold cutV
  have e0 : HT.sIx xs.length xs.length none = xs.length := rfl
  rw [HT.sIx_nat, e0]
  by_cases hi : i ≤ xs.length
  · rw [Nat.min_eq_left hi, List.take_of_length_le (by rw [List.length_drop]; exact Nat.le_refl _)]
  · rw [Nat.min_eq_right (by omega), List.drop_of_length_le (Nat.le_refl _), List.drop_of_length_le (by omega)]
    simp
def lt (c : Nat) : Nat := if isL c then c else 63
def lw (c : Nat) : Nat := if isL c then c else 45
theorem abc_at {c : Nat} (h1 : 97 ≤ c) (h2 : c ≤ 122) : atI ("abcdefghijklmnopqrstuvwxyz" : Str).cps.toList ((c : Int) - 97) = some c := by
  have e : ("abcdefghijklmnopqrstuvwxyz" : Str).cps.toList = (List.range 26).map (97 + ·) := by decide +kernel
  rw [show (c : Int) - 97 = ((c - 97 : Nat) : Int) by omega]
  refine atI_nat ?_
  rw [e, List.getElem?_map, List.getElem?_range (by omega)]
  show some (97 + (c - 97)) = _
  congr 1
  omega
def spLt : Sp := fun vs H Q _ => ∃ c : Nat, vs = [.int (c : Int)] ∧ c ≤ 255 ∧ Q (chV (lt c)) H
theorem ok_lt (T : Txt K mg) (F : FnP K "_seeming_letter" s__seeming_letter f fd) : Fg P w K mg base CX0 1 f fd ["octet"] spLt := by
  refine fg_of F sc__seeming_letter (fun vs H Q E h => ?_) (fun cdv A outer s H vs Q E hr h => ⟨_, (PSs.nox (pss_cons (ps_if (pt_chain op_le op_lt (pe_globI rfl T.g_FIRST_LETTER) (pv 0) (pe_op (u_add (K := K)) (pe_globI rfl T.g_FIRST_LETTER) (pe_callB (u_len (K := K)) (by rfl) T.f_len (by decide +kernel) (pa_cons (pe_globS rfl T.g_LETTERS) pa_nil))))
  (pss_one (ps_ret (pe_ix (u_ix (K := K)) (pe_globS rfl T.g_LETTERS) (pe_op op_sub (pv 0) (pe_globI rfl T.g_FIRST_LETTER)) (fun _ _ => rfl)))) pss_nil)
  (pss_one (ps_ret pe_str)))), ?_⟩)
  · obtain ⟨c, rfl, _⟩ := h
    rfl
  · obtain ⟨c, rfl, hc, q⟩ := h
    refine ⟨_, rfl, _, _, rfl, rfl, _, rfl, ?_⟩
    have no : ¬ isL c = true → lt c = 63 := fun h => if_neg h
    have ltr : ("abcdefghijklmnopqrstuvwxyz" : Str).length = 26 := by decide +kernel
    refine ite2 (fun h1 => ⟨.str "abcdefghijklmnopqrstuvwxyz", 26, rfl, ⟨by decide, by rw [ltr]⟩, .inl ⟨_, _, rfl, rfl, _, _, rfl, rfl, _, rfl, ?_⟩⟩) (fun h1 => ⟨_, rfl, iteF ?_⟩)
    · have h1 : (97 : Int) ≤ (c : Int) := of_decide_eq_true h1
      refine ite2 (fun h2 => ?_) (fun h2 => ?_)
      · have h2 : (c : Int) < 97 + ((26 : Nat) : Int) := of_decide_eq_true h2
        have e : lt c = c := if_pos (isL_iff.mpr ⟨by omega, by omega⟩)
        rw [e] at q
        exact ⟨_, rfl, _, _, rfl, rfl, .inr (.inr ⟨_, _, c, rfl, rfl, by show 26 ≤ sizeLine; decide, abc_at (by omega) (by omega), q⟩)⟩
      · have h2 : ¬ (c : Int) < 97 + ((26 : Nat) : Int) := fun z => h2 (decide_eq_true z)
        rw [no (fun z => by have := isL_iff.mp z; omega)] at q
        exact q
    · have h1 : ¬ (97 : Int) ≤ (c : Int) := fun z => h1 (decide_eq_true z)
      rw [no (fun z => by have := isL_iff.mp z; omega)] at q
      exact q
def spSN : Sp := fun vs H Q _ => ∃ (p : Addr) (c : Nat) (cs : List Nat), vs = [.ref p] ∧ H p = some (.tup (IV ((c : Int) :: cs.map Int.ofNat))) ∧ (∀ x ∈ cs, x ≤ 255) ∧ c ≤ 255 ∧ cs.length ≤ 100 ∧ RV (.str ⟨((cs.take c).map lt).toArray⟩) H Q
theorem ok_sn (T : Txt K mg) (F : FnP K "_seeming_name" s__seeming_name f fd) (C__seeming_letter : Cal P w K mg base CX0 1 "_seeming_letter" ["octet"] spLt) : Fg P w K mg base CX0 2 f fd ["octets"] spSN := by
  refine fg_of F sc__seeming_name (fun vs H Q E h => ?_) (fun cdv A outer s H vs Q E hr h => ⟨_, (PSs.nox (pss_one (ps_ret (pe_bm PySem.F.plainAttrs_str PySem.F.slot_str_join PySem.F.type_str_join mt_join1 pe_str (pa_cons (pe_lc (own := [("octet", 1)]) rfl sc__seeming_name.nd (pi_seq (K := K) (pe_slice (u_sl (K := K)) (pv 0) (po_some pe_int) (po_some (pe_op (u_add (K := K)) pe_int (pe_ix (u_ix (K := K)) (pv 0) pe_int (fun _ _ => rfl)))))) (blkOk_by (own := [("octet", 1)]) (N := ["octets", "octet"]) (sc := defScope s__seeming_name) (by decide +kernel)) (fun _ _ _ _ _ => (pg_name (i := 1) sc__seeming_name.nd rfl (by first | exact Or.inl rfl | exact Or.inr rfl))) (fun _ _ _ _ _ => pts_nil) (fun _ _ _ _ _ => (pe_cal C__seeming_letter hr.le pass0 (pa_cons (pv 1) pa_nil)))) pa_nil))))), ?_⟩)
  · obtain ⟨p, c, cs, rfl, _⟩ := h
    rfl
  · obtain ⟨p, c, cs, rfl, hp, ho, hc, hl, q⟩ := h
    have h0 : atI (IV ((c : Int) :: cs.map Int.ofNat)) 0 = some (.int (c : Int)) := atI_nat (j := 0) rfl
    refine ⟨rfl, .inr ⟨_, rfl, _, rfl, _, rfl, Sv.ix (x := .non) (Sv.tup hp) h0 (.inl ⟨_, _, rfl, rfl, _, rfl, .inr (.inl ⟨p, _, rfl, SqT.of hp, fun z => sx_ne (i := 1) (by decide) (by simp [IV]) z.1, fun l nl => ?_⟩)⟩)⟩⟩
    have ec : cutV (IV ((c : Int) :: cs.map Int.ofNat)) (some 1) (some (1 + (c : Int))) = IV ((cs.take c).map Int.ofNat) := by
      have := cut_nn (xs := IV ((c : Int) :: cs.map Int.ofNat)) (i := 1) (j := 1 + c) (by omega)
      rw [show ((1 + c : Nat) : Int) = 1 + (c : Int) by omega] at this
      rw [show ((1 : Nat) : Int) = 1 from rfl] at this
      rw [this, Nat.add_sub_cancel_left]
      show (IV (cs.map Int.ofNat)).take c = _
      unfold IV
      rw [List.map_take, List.map_take]
    have y := Evl.Ex.new (o := .tup (cutV (IV ((c : Int) :: cs.map Int.ofNat)) (some 1) (some (1 + (c : Int))))) nl
    have hl' : upd H l (.tup (cutV (IV ((c : Int) :: cs.map Int.ofNat)) (some 1) (some (1 + (c : Int))))) l = some (.tup (IV ((cs.take c).map Int.ofNat))) := by rw [upd_same, ec]
    generalize upd H l (.tup (cutV (IV ((c : Int) :: cs.map Int.ofNat)) (some 1) (some (1 + (c : Int))))) = H1 at y hl' ⊢
    refine ⟨l, rfl, ⟨_, SqT.of hl'⟩, fun D hD => ?_⟩
    refine lc_pureVS (us := ((cs.take c).map lt).map chV) walk_tup (fun H' ex => SqT.of (ex _ _ hl')) (by rw [iv_len, List.length_map, List.length_map, List.length_map]) (by rw [iv_len, List.length_map, List.length_take]; omega) hD (fun _ => rfl) ?_ ?_
    · intro i x u H' Q' hx hu ex k
      obtain ⟨o, ho', rfl⟩ := iv_get hx
      obtain ⟨z, hz, rfl⟩ := map_at ho'
      rw [List.getElem?_map, List.getElem?_map, hz] at hu
      cases hu
      exact ⟨_, rfl, z, rfl, ho z (List.mem_of_mem_take (List.mem_of_getElem? hz)), k _ (Evl.Ex.refl _)⟩
    · intro H' ex h3
      exact ⟨D, (cs.take c).map lt, rfl, rfl, h3, by rw [List.length_map, List.length_take]; omega, q H' (y.trans ex)⟩
def spWord : Sp := fun vs H Q _ => ∃ (p : Addr) (c : Nat) (cs : List Nat), vs = [.ref p, .int (c : Int)] ∧ H p = some (.lst (IV (cs.map Int.ofNat))) ∧ (∀ x ∈ cs, x ≤ 255) ∧ c ≤ 255 ∧ cs.length ≤ 100 ∧ RV (.str ⟨((cs.take (min c 9)).map lw).toArray⟩) H Q
theorem ok_word (T : Txt K mg) (F : FnP K "_law_word" s__law_word f fd) : Fg P w K mg base CX0 1 f fd ["_law_octets_here", "_law_count"] spWord := by
  refine fg_of F sc__law_word (fun vs H Q E h => ?_) (fun cdv A outer s H vs Q E hr h => ⟨_, (PSs.nox (pss_cons (ps_set (i := 2) sc__law_word.nd rfl (by first | exact Or.inl rfl | exact Or.inr rfl) (pe_slice (u_sl (K := K)) (pv 0) po_none (po_some (pe_callB (call_min2 rfl) (by rfl) T.f_min (by decide +kernel) (pa_cons (pv 1) (pa_cons pe_int pa_nil))))))
  (pss_one (ps_ret (pe_bm PySem.F.plainAttrs_str PySem.F.slot_str_join PySem.F.type_str_join mt_join1 pe_str (pa_cons (pe_lc (own := [("_law_octet_here", 3)]) rfl sc__law_word.nd (pi_seq (K := K) (pv 2)) (blkOk_by (own := [("_law_octet_here", 3)]) (N := ["_law_octets_here", "_law_count", "_law_signs", "_law_octet_here"]) (sc := defScope s__law_word) (by decide +kernel)) (fun _ _ _ _ _ => (pg_name (i := 3) sc__law_word.nd rfl (by first | exact Or.inl rfl | exact Or.inr rfl))) (fun _ _ _ _ _ => pts_nil) (fun _ _ _ _ _ => (pe_ifExp (pt_chain op_le op_le pe_int (pv 3) pe_int) (pe_ix (u_ix (K := K)) pe_str (pe_op op_sub (pv 3) pe_int) (fun _ _ => rfl)) pe_str))) pa_nil)))))), ?_⟩)
  · obtain ⟨p, c, cs, rfl, _⟩ := h
    rfl
  · obtain ⟨p, c, cs, rfl, hp, ho, hc, hl, q⟩ := h
    refine ⟨_, rfl, _, rfl, _, _, rfl, _, rfl, .inl ⟨p, _, rfl, SqL.of hp, fun l nl => ?_⟩⟩
    have em : (if (9 : Int) < (c : Int) then (9 : Int) else (c : Int)) = ((min c 9 : Nat) : Int) := by
      split <;> omega
    rw [em]
    have ec : cutV (IV (cs.map Int.ofNat)) none (some ((min c 9 : Nat) : Int)) = IV ((cs.take (min c 9)).map Int.ofNat) := by
      rw [cut_n]
      unfold IV
      rw [List.map_take, List.map_take]
    have y := Evl.Ex.new (o := .lst (cutV (IV (cs.map Int.ofNat)) none (some ((min c 9 : Nat) : Int)))) nl
    have hl' : upd H l (.lst (cutV (IV (cs.map Int.ofNat)) none (some ((min c 9 : Nat) : Int)))) l = some (.lst (IV ((cs.take (min c 9)).map Int.ofNat))) := by rw [upd_same, ec]
    generalize upd H l (.lst (cutV (IV (cs.map Int.ofNat)) none (some ((min c 9 : Nat) : Int)))) = H1 at y hl' ⊢
    refine ⟨rfl, seq_var (t := false) rfl (Sv.lst hl') fun J wk D hD => ?_⟩
    refine lc_pureVS (us := ((cs.take (min c 9)).map lw).map chV) wk (fun H' ex => Sv.lst (ex _ _ hl')) (by rw [iv_len, List.length_map, List.length_map, List.length_map]) (by rw [iv_len, List.length_map, List.length_take]; omega) hD (fun _ => rfl) ?_ ?_
    · intro i x u H' Q' hx hu ex k
      obtain ⟨o, ho', rfl⟩ := iv_get hx
      obtain ⟨z, hz, rfl⟩ := map_at ho'
      rw [List.getElem?_map, List.getElem?_map, hz] at hu
      cases hu
      have k' := k H' (Evl.Ex.refl _)
      have no : ¬ isL z = true → lw z = 45 := fun h => if_neg h
      refine ⟨_, rfl, _, _, rfl, rfl, _, rfl, ?_⟩
      refine ite2 (fun h1 => ⟨_, _, rfl, rfl, _, rfl, ?_⟩) (fun h1 => ⟨_, rfl, iteF ?_⟩)
      · have h1 : (97 : Int) ≤ Int.ofNat z := of_decide_eq_true h1
        refine ite2 (fun h2 => ?_) (fun h2 => ?_)
        · have h2 : Int.ofNat z ≤ 122 := of_decide_eq_true h2
          have h1' : 97 ≤ z := by have : (97 : Int) ≤ (z : Int) := h1; omega
          have h2' : z ≤ 122 := by have : (z : Int) ≤ 122 := h2; omega
          have e : lw z = z := if_pos (isL_iff.mpr ⟨h1', h2'⟩)
          rw [e] at k'
          exact ⟨_, rfl, _, _, rfl, rfl, .inr (.inr ⟨_, _, z, rfl, rfl, by show 26 ≤ sizeLine; decide, abc_at h1' h2', k'⟩)⟩
        · have h2 : ¬ (z : Int) ≤ 122 := fun y => h2 (decide_eq_true y)
          rw [no (fun y => by have := isL_iff.mp y; omega)] at k'
          exact k'
      · have h1 : ¬ (97 : Int) ≤ (z : Int) := fun y => h1 (decide_eq_true y)
        rw [no (fun y => by have := isL_iff.mp y; omega)] at k'
        exact k'
    · intro H' ex h3
      exact ⟨D, (cs.take (min c 9)).map lw, rfl, rfl, h3, by rw [List.length_map, List.length_take]; omega, q H' (y.trans ex)⟩
end
end K12
/-! what octets seem to tell -/
namespace K12
open PySem PySem.Spec PyProof.Rows L2 VB BM
abbrev IN (cs : List Nat) : List V := IV (cs.map Int.ofNat)
/-- n octets from i on -/
abbrev sl (cs : List Nat) (i n : Nat) : List Int := ((cs.drop i).take n).map Int.ofNat
def num (cs : List Nat) (i n : Nat) : Int := numO (sl cs i n)
abbrev oc (cs : List Nat) (i : Nat) : Int := ((cs.getD i 0 : Nat) : Int)
def wrd (cs : List Nat) (i : Nat) : Str := ⟨(((cs.drop (i + 1)).take (cs.getD i 0)).map lt).toArray⟩
/-- the record that thirty octets seem to tell -/
def rawR (cs : List Nat) : Option Rc := match cs.getD 0 0 with
  | 1 => some (.head (num cs 1 4) (num cs 5 4) false)
  | 2 => some (.head (num cs 1 4) (num cs 5 4) true)
  | 3 => some (.sl (num cs 1 4) (oc cs 5))
  | 4 => some (.node (num cs 1 4) (oc cs 5) (oc cs 6) (num cs 7 2) (oc cs 9) (oc cs 10) (oc cs 11) (num cs 26 4))
  | 5 => some (.name (num cs 1 4) (oc cs 5) (oc cs 6) (num cs 7 2) (wrd (cs.take 26) 11) (num cs 9 2) (num cs 26 4))
  | 6 => some (.chunk (num cs 1 4) (oc cs 5) (oc cs 6) (num cs 7 2) (oc cs 9) (sl cs 10 16) (num cs 26 4))
  | 7 => some (.keep (num cs 1 4) (oc cs 5) (oc cs 6) (wrd (cs.take 26) 8) (cs.getD 7 0 == 1) (num cs 26 4))
  | _ => none
/-- thirty octets -/
def O30 (cs : List Nat) : Prop := cs.length = 30 ∧ ∀ x ∈ cs, x ≤ 255
theorem sl_oct {cs : List Nat} (h : ∀ x ∈ cs, x ≤ 255) (i n : Nat) : Oct (sl cs i n) := fun z hz => by
  obtain ⟨x, hx, rfl⟩ := List.mem_map.mp hz
  have := h x (List.mem_of_mem_drop (List.mem_of_mem_take hx))
  show 0 ≤ (x : Int) ∧ (x : Int) ≤ 255
  omega
theorem num_bd {cs : List Nat} (h : O30 cs) {i n : Nat} (hn : n ≤ 4) : M32 (num cs i n) := by
  have b := numO_bound _ (sl cs i n) rfl (sl_oct h.2 i n)
  have l : (sl cs i n).length ≤ 4 := by
    rw [List.length_map, List.length_take]
    omega
  refine ⟨b.1, ?_⟩
  have p : (256 : Int) ^ (sl cs i n).length ≤ 256 ^ 4 := by
    have := Nat.pow_le_pow_right (show 0 < 256 by decide) l
    exact_mod_cast this
  have b2 : num cs i n < 256 ^ (sl cs i n).length := b.2
  have e4 : (256 : Int) ^ 4 = 4294967296 := by decide
  omega
theorem oc_bd {cs : List Nat} (h : O30 cs) (i : Nat) : 0 ≤ oc cs i ∧ oc cs i ≤ 255 := by
  have : cs.getD i 0 ≤ 255 := by
    rw [List.getD_eq_getElem?_getD]
    cases e : cs[i]? with
    | none => exact Nat.zero_le _
    | some x => exact h.2 x (List.mem_of_getElem? e)
  show 0 ≤ ((cs.getD i 0 : Nat) : Int) ∧ ((cs.getD i 0 : Nat) : Int) ≤ 255
  omega
theorem raw_lo {cs : List Nat} (h : O30 cs) {r : Rc} (e : rawR cs = some r) : Lo r := by
  have n4 : ∀ i, M32 (num cs i 4) := fun i => num_bd h (by decide)
  have n2 : ∀ i, M32 (num cs i 2) := fun i => num_bd h (by decide)
  have o1 : ∀ i, M32 (oc cs i) := fun i => by have := oc_bd h i; exact ⟨by omega, by omega⟩
  have w1 : ∀ i, (wrd (cs.take 26) i).cps.size ≤ 1000 := fun i => by
    unfold wrd
    rw [List.size_toArray, List.length_map, List.length_take, List.length_drop, List.length_take, h.1]
    omega
  unfold rawR at e
  split at e
  · cases e; exact ⟨n4 _, n4 _⟩
  · cases e; exact ⟨n4 _, n4 _⟩
  · cases e; exact ⟨n4 _, o1 _⟩
  · cases e; exact ⟨n4 _, o1 _, o1 _, n2 _, o1 _, o1 _, o1 _, n4 _⟩
  · cases e; exact ⟨n4 _, o1 _, o1 _, n2 _, w1 _, n2 _, n4 _⟩
  · cases e
    exact ⟨n4 _, o1 _, o1 _, n2 _, o1 _, sl_oct h.2 _ _, by rw [List.length_map, List.length_take, List.length_drop, h.1]; rfl, n4 _⟩
  · cases e; exact ⟨n4 _, o1 _, o1 _, w1 _, n4 _⟩
  · cases e
section
variable {P : Program} {w : World} {K : PySem.W.Frag} {mg : Str → Option Value} {base : Heap} {f : Addr} {fd : FuncData}
theorem in_at {cs : List Nat} {i : Nat} (h : i < cs.length) : atI (IN cs) (i : Int) = some (.int (oc cs i)) := by
  refine atI_nat ?_
  rw [List.getElem?_map, List.getElem?_map, List.getElem?_eq_getElem h]
  show some (V.int (cs[i] : Int)) = some (V.int ((cs.getD i 0 : Nat) : Int))
  rw [List.getD_eq_getElem?_getD, List.getElem?_eq_getElem h]
  rfl
theorem in_cut {cs : List Nat} {i j : Nat} (h : i ≤ j) : cutV (IN cs) (some (i : Int)) (some (j : Int)) = IV (sl cs i (j - i)) := by
  rw [cut_nn h]
  unfold IV sl
  rw [← List.map_drop, ← List.map_drop, ← List.map_take, ← List.map_take]
def spSeemF : Sp := fun vs H Q _ => ∃ (p : Addr) (k : Nat) (cs : List Nat), vs = [.int (k : Int), .ref p] ∧ H p = some (.tup (IV (sl cs 7 19))) ∧ O30 cs ∧ cs.getD 0 0 = k ∧ (k ≠ 1 ∧ k ≠ 2 ∧ k ≠ 3) ∧
  (rawR cs = none → RV .non H Q) ∧ (∀ r, rawR cs = some r → ∀ (q : Addr) (t : V) (H' : Hp), Evl.Ex H H' → H' q = some (.tup (facV t r)) → OcT H' t r → Q (.ref q) H')
theorem ok_seemF (T : Txt K mg) (FD : FkD K w) (F : FnP K "_seeming_fact" s__seeming_fact f fd) (C_number_told_by : Cal P w K mg base CX0 1 "number_told_by" ["octets"] (spNumT K)) (C__seeming_name : Cal P w K mg base CX0 2 "_seeming_name" ["octets"] spSN) : Fg P w K mg base CX0 3 f fd ["kind", "octets"] spSeemF := by
  refine fg_of F sc__seeming_fact (fun vs H Q E h => ?_) (fun cdv A outer s H vs Q E hr h => ⟨_, (PSs.nox (pss_cons (ps_set (i := 2) sc__seeming_fact.nd rfl (by first | exact Or.inl rfl | exact Or.inr rfl) (pe_cal C_number_told_by hr.le pass0 (pa_cons (pe_slice (u_sl (K := K)) (pv 1) po_none (po_some pe_int)) pa_nil)))
  (pss_cons (ps_if (pt_cmpR (u_eq (K := K) hr) (pv 0) (pe_ix ix_kdict (pe_glob (v := .ref (He.ga K "FACT_KINDS")) rfl T.g_FACT_KINDS rfl) pe_str (fun _ _ => rfl)) (nomark _))
  (pss_one (ps_ret (pe_tup (pa_cons pe_str (pa_cons (pv 2) (pa_cons (pe_ix (u_ix (K := K)) (pv 1) pe_int (fun _ _ => rfl)) (pa_cons (pe_ix (u_ix (K := K)) (pv 1) pe_int (fun _ _ => rfl)) (pa_cons (pe_ix (u_ix (K := K)) (pv 1) pe_int (fun _ _ => rfl)) pa_nil)))))))) pss_nil)
  (pss_cons (ps_if (pt_cmpR (u_eq (K := K) hr) (pv 0) (pe_ix ix_kdict (pe_glob (v := .ref (He.ga K "FACT_KINDS")) rfl T.g_FACT_KINDS rfl) pe_str (fun _ _ => rfl)) (nomark _))
  (pss_one (ps_ret (pe_tup (pa_cons pe_str (pa_cons (pv 2) (pa_cons (pe_cal C__seeming_name hr.le pass0 (pa_cons (pe_slice (u_sl (K := K)) (pv 1) (po_some pe_int) po_none) pa_nil)) (pa_cons (pe_cal C_number_told_by hr.le pass0 (pa_cons (pe_slice (u_sl (K := K)) (pv 1) (po_some pe_int) (po_some pe_int)) pa_nil)) pa_nil))))))) pss_nil)
  (pss_cons (ps_if (pt_cmpR (u_eq (K := K) hr) (pv 0) (pe_ix ix_kdict (pe_glob (v := .ref (He.ga K "FACT_KINDS")) rfl T.g_FACT_KINDS rfl) pe_str (fun _ _ => rfl)) (nomark _))
  (pss_one (ps_ret (pe_tup (pa_cons pe_str (pa_cons (pv 2) (pa_cons (pe_ix (u_ix (K := K)) (pv 1) pe_int (fun _ _ => rfl)) (pa_cons (pe_slice (u_sl (K := K)) (pv 1) (po_some pe_int) po_none) pa_nil))))))) pss_nil)
  (pss_cons (ps_if (pt_cmpR (u_eq (K := K) hr) (pv 0) (pe_ix ix_kdict (pe_glob (v := .ref (He.ga K "FACT_KINDS")) rfl T.g_FACT_KINDS rfl) pe_str (fun _ _ => rfl)) (nomark _))
  (pss_one (ps_ret (pe_tup (pa_cons pe_str (pa_cons (pe_cal C__seeming_name hr.le pass0 (pa_cons (pe_slice (u_sl (K := K)) (pv 1) (po_some pe_int) po_none) pa_nil)) (pa_cons (pe_cmpR (u_eq (K := K) hr) (pe_ix (u_ix (K := K)) (pv 1) pe_int (fun _ _ => rfl)) pe_int (nomark _)) pa_nil)))))) pss_nil)
  (pss_one (ps_ret pe_non)))))))), ?_⟩)
  · obtain ⟨p, k, cs, rfl, _⟩ := h
    rfl
  · obtain ⟨p, k, cs, rfl, hp, h30, hk, kn, q0, q⟩ := h
    have len : cs.length = 30 := h30.1
    obtain ⟨ds, hds⟩ : ∃ ds, ds = (cs.drop 7).take 19 := ⟨_, rfl⟩
    have hp : H p = some (.tup (IN ds)) := by rw [hds]; exact hp
    have ld : ds.length = 19 := by rw [hds, List.length_take, List.length_drop, len]; rfl
    have lI : (IN ds).length = 19 := by rw [iv_len, List.length_map, ld]
    have gd : ∀ i, i < 19 → ds.getD i 0 = cs.getD (7 + i) 0 := fun i hi => by
      rw [hds, List.getD_eq_getElem?_getD, List.getD_eq_getElem?_getD, List.getElem?_take, if_pos hi, List.getElem?_drop]
    have ati : ∀ i : Nat, i < 19 → atI (IN ds) (i : Int) = some (.int (oc cs (7 + i))) := fun i hi => by
      rw [in_at (by omega)]
      show some (V.int ((ds.getD i 0 : Nat) : Int)) = _
      rw [gd i hi]
    have sld : ∀ i n, i + n ≤ 19 → sl ds i n = sl cs (7 + i) n := fun i n h => by
      unfold sl
      rw [hds, List.drop_take, List.take_take, List.drop_drop, Nat.min_eq_left (by omega)]
    have cut : ∀ i j : Nat, i ≤ j → j ≤ 19 → cutV (IN ds) (some (i : Int)) (some (j : Int)) = IV (sl cs (7 + i) (j - i)) := fun i j h1 h2 => by
      rw [in_cut h1, sld i (j - i) (by omega)]
    have cut0 : cutV (IN ds) none (some 2) = IV (sl cs 7 2) := by
      have := cut_n (xs := IN ds) (j := 2)
      rw [show ((2 : Nat) : Int) = 2 from rfl] at this
      rw [this, ← sld 0 2 (by decide)]
      unfold IV sl
      rw [List.drop_zero, ← List.map_take, ← List.map_take]
    have dropw : ∀ i, ds.drop i = (cs.take 26).drop (7 + i) := fun i => by
      rw [hds, List.drop_take, List.drop_take, List.drop_drop]
      congr 1
      omega
    have dropc : ∀ i : Nat, i < 19 → cutV (IN ds) (some (i : Int)) none = IV (((ds.getD i 0 : Nat) : Int) :: ((cs.take 26).drop (7 + i + 1)).map Int.ofNat) := fun i hi => by
      rw [cut_d]
      unfold IV
      rw [← List.map_drop, ← List.map_drop, List.drop_eq_getElem_cons (by omega), dropw (i + 1), List.getD_eq_getElem?_getD, List.getElem?_eq_getElem (by omega)]
      rfl
    have oc255 : ∀ x ∈ cs, x ≤ 255 := h30.2
    have sn : ∀ (i : Nat) (l : Addr) (H' : Hp) (Q' : VK), i < 19 → H' l = some (.tup (cutV (IN ds) (some (i : Int)) none)) → RV (.str (wrd (cs.take 26) (7 + i))) H' Q' → spSN [.ref l] H' Q' E0 := fun i l H' Q' hi hl k => by
      rw [dropc i hi] at hl
      refine ⟨l, _, _, rfl, hl, fun x hx => oc255 x (List.mem_of_mem_take (List.mem_of_mem_drop hx)), ?_, by rw [List.length_drop, List.length_take, len]; omega, ?_⟩
      · rw [gd i hi]
        have := oc_bd h30 (7 + i)
        have h2 : ((cs.getD (7 + i) 0 : Nat) : Int) ≤ 255 := this.2
        omega
      · have e : (cs.take 26).getD (7 + i) 0 = ds.getD i 0 := by
          rw [gd i hi, List.getD_eq_getElem?_getD, List.getD_eq_getElem?_getD, List.getElem?_take, if_pos (by omega)]
        rw [← e]
        exact k
    refine ⟨_, rfl, _, rfl, .inr (.inl ⟨p, _, rfl, SqT.of hp, fun z => ?_, fun l nl => ?_⟩)⟩
    · have z2 := z.2
      rw [lI] at z2
      exact absurd z2 (by decide)
    have y0 := Evl.Ex.new (o := .tup (cutV (IN ds) none (some 2))) nl
    refine ⟨l, sl cs 7 2, true, rfl, Sv.tup (by rw [upd_same, cut0]), sl_oct oc255 _ _, by rw [List.length_map, List.length_take]; omega, fun H1 e1 => ?_⟩
    have E1 := y0.trans e1
    have hp1 := E1 _ _ hp
    have kd : ∀ n : Nat, k ≠ n → decide (V.int (k : Int) = V.int (n : Int)) = false := fun n h => decide_eq_false fun z => h (by have := V.int.inj z; omega)
    have ix1 : ∀ {i : Nat} {σ : List (Option V)} {H' : Hp} {Q' : VK}, i < 19 → σ[1]? = some (some (.ref p)) → Evl.Ex H1 H' → Q' (.int (oc cs (7 + i))) H' → tOp (rIx K) (tVar 1) (tC (V.int (i : Int))) σ H' Q' := fun hi hs e q' => ⟨_, hs, Sv.ix (x := .non) (Sv.tup (e _ _ hp1)) (ati _ hi) q'⟩
    have rf := Evl.Ex.refl H1
    refine ⟨_, rfl, _, "node", _, rfl, rfl, FD 0 (by decide), .inl ⟨rfl, _, rfl, ?_⟩⟩
    by_cases k4 : k = 4
    · subst k4
      have er : rawR cs = some (.node (num cs 1 4) (oc cs 5) (oc cs 6) (num cs 7 2) (oc cs 9) (oc cs 10) (oc cs 11) (num cs 26 4)) := by unfold rawR; rw [hk]; rfl
      refine iteT ⟨_, rfl, ix1 (i := 2) (by decide) rfl rf (ix1 (i := 3) (by decide) rfl rf (ix1 (i := 4) (by decide) rfl rf ⟨by show 5 ≤ sizeLine; decide, fun t nt => ?_⟩))⟩
      exact q _ er t .non _ (E1.trans (Evl.Ex.new nt)) upd_same trivial
    show if decide (V.int (k : Int) = V.int ((4 : Nat) : Int)) = true then _ else _
    rw [kd 4 k4]
    refine iteF ⟨_, rfl, _, "name", _, rfl, rfl, FD 1 (by decide), .inl ⟨rfl, _, rfl, ?_⟩⟩
    by_cases k5 : k = 5
    · subst k5
      have er : rawR cs = some (.name (num cs 1 4) (oc cs 5) (oc cs 6) (num cs 7 2) (wrd (cs.take 26) 11) (num cs 9 2) (num cs 26 4)) := by unfold rawR; rw [hk]; rfl
      refine iteT ⟨_, rfl, _, rfl, _, rfl, .inr (.inl ⟨p, _, rfl, SqT.of hp1, fun z => sx_ne (i := 4) (by decide) (by rw [lI]; decide) z.1, fun l2 nl2 => ?_⟩)⟩
      have y2 := Evl.Ex.new (o := .tup (cutV (IN ds) (some 4) none)) nl2
      refine sn 4 l2 _ _ (by decide) upd_same fun H2 e2 => ?_
      have hp2 := (y2.trans e2) _ _ hp1
      refine ⟨_, rfl, _, rfl, _, rfl, .inr (.inl ⟨p, _, rfl, SqT.of hp2, fun z => sx_ne (i := 2) (by decide) (by rw [lI]; decide) z.1, fun l3 nl3 => ?_⟩)⟩
      have y3 := Evl.Ex.new (o := .tup (cutV (IN ds) (some 2) (some 4))) nl3
      have c24 : cutV (IN ds) (some 2) (some 4) = IV (sl cs 9 2) := cut 2 4 (by decide) (by decide)
      refine ⟨l3, sl cs 9 2, true, rfl, Sv.tup (by rw [upd_same, c24]), sl_oct oc255 _ _, by rw [List.length_map, List.length_take]; omega, fun H3 e3 => ⟨by show 4 ≤ sizeLine; decide, fun t nt => ?_⟩⟩
      exact q _ er t .non _ ((E1.trans (y2.trans e2)).trans ((y3.trans e3).trans (Evl.Ex.new nt))) upd_same trivial
    show if decide (V.int (k : Int) = V.int ((5 : Nat) : Int)) = true then _ else _
    rw [kd 5 k5]
    refine iteF ⟨_, rfl, _, "chunk", _, rfl, rfl, FD 2 (by decide), .inl ⟨rfl, _, rfl, ?_⟩⟩
    by_cases k6 : k = 6
    · subst k6
      have er : rawR cs = some (.chunk (num cs 1 4) (oc cs 5) (oc cs 6) (num cs 7 2) (oc cs 9) (sl cs 10 16) (num cs 26 4)) := by unfold rawR; rw [hk]; rfl
      refine iteT ⟨_, rfl, ix1 (i := 2) (by decide) rfl rf ⟨_, rfl, _, rfl, .inr (.inl ⟨p, _, rfl, SqT.of hp1, fun z => sx_ne (i := 3) (by decide) (by rw [lI]; decide) z.1, fun l2 nl2 => ⟨by show 4 ≤ sizeLine; decide, fun t nt => ?_⟩⟩)⟩⟩
      have y2 := Evl.Ex.new (o := .tup (cutV (IN ds) (some 3) none)) nl2
      have c3 : cutV (IN ds) (some 3) none = IV (sl cs 10 16) := by
        rw [show (3 : Int) = ((3 : Nat) : Int) from rfl, cut_d]
        unfold IV sl
        rw [← List.map_drop, ← List.map_drop, hds, List.drop_take, List.drop_drop]
      have h2 := upd_same (H := H1) (a := l2) (o := .tup (cutV (IN ds) (some 3) none))
      have y3 := Evl.Ex.new (o := .tup [V.str "chunk", .int (num cs 7 2), .int (oc cs 9), .ref l2]) nt
      exact q _ er t (.ref l2) _ (E1.trans (y2.trans y3)) upd_same ⟨l2, rfl, y3 _ _ (by rw [h2, c3])⟩
    show if decide (V.int (k : Int) = V.int ((6 : Nat) : Int)) = true then _ else _
    rw [kd 6 k6]
    refine iteF ⟨_, rfl, _, "keep", _, rfl, rfl, FD 3 (by decide), .inl ⟨rfl, _, rfl, ?_⟩⟩
    by_cases k7 : k = 7
    · subst k7
      have er : rawR cs = some (.keep (num cs 1 4) (oc cs 5) (oc cs 6) (wrd (cs.take 26) 8) (cs.getD 7 0 == 1) (num cs 26 4)) := by unfold rawR; rw [hk]; rfl
      refine iteT ⟨_, rfl, _, rfl, .inr (.inl ⟨p, _, rfl, SqT.of hp1, fun z => sx_ne (i := 1) (by decide) (by rw [lI]; decide) z.1, fun l2 nl2 => ?_⟩)⟩
      have y2 := Evl.Ex.new (o := .tup (cutV (IN ds) (some 1) none)) nl2
      refine sn 1 l2 _ _ (by decide) upd_same fun H2 e2 => ?_
      refine ix1 (i := 0) (by decide) rfl (y2.trans e2) (.inl ⟨rfl, by show 3 ≤ sizeLine; decide, fun t nt => ?_⟩)
      have eb : decide (V.int (oc cs (7 + 0)) = V.int 1) = (cs.getD 7 0 == 1) := by
        rw [dki, Bool.eq_iff_iff, decide_eq_true_eq, beq_iff_eq]
        show ((cs.getD 7 0 : Nat) : Int) = 1 ↔ _
        omega
      refine q _ er t .non _ (E1.trans ((y2.trans e2).trans (Evl.Ex.new nt))) ?_ trivial
      rw [upd_same, eb]
      rfl
    show if decide (V.int (k : Int) = V.int ((7 : Nat) : Int)) = true then _ else _
    rw [kd 7 k7]
    have er : rawR cs = none := by
      unfold rawR
      rw [hk]
      split <;> first | rfl | (exfalso; omega)
    exact iteF (q0 er H1 E1)
end
end K12
/-! defs called within an except suite, which know the handled error p -/
namespace VB
open PySem PySem.Spec PyProof.Rows L2
abbrev PO := Addr × Obj
structure RmH (k : Nat) (A : Around) (p : PO) : Prop where
  rm : L2H.RoomH k A
  gd : A.guards = some []
  ht : L2H.Hot1 A p
theorem RmH.le {j k : Nat} {A : Around} {p : PO} (r : RmH k A p) (h : j ≤ k := by omega) : RmH j A p := ⟨r.rm.mono h, r.gd, r.ht⟩
theorem RmH.down {k : Nat} {A : Around} {p : PO} (r : RmH (k + 1) A p) (e : Env) : RmH k (A.deeper e) p := ⟨r.rm.deeper e, r.gd, r.ht⟩
theorem Rm.hot {k : Nat} {A : Around} {a : Addr} {oe : Obj} {vs : Array Value} (r : Rm k A) (hd : oe.data = .fields vs) (h2 : vs[2]? = some .none) : RmH k (A.mark (some (.ref a))) (a, oe) := ⟨⟨r.rm.dp, r.rm.un⟩, r.gd, rfl, vs, hd, h2⟩
section
variable {P : Program} {w : World} {K : PySem.W.Frag} {mg : Str → Option Value} {base : Heap} {CX : CXT} {k : Nat}
structure Fh (P : Program) (w : World) (K : PySem.W.Frag) (mg : Str → Option Value) (base : Heap) (CX : CXT) (p : PO) (k : Nat) (f : Addr) (fd : FuncData) (ps : List Str) (sp : Sp) : Prop where
  cnt : ∀ vs H Q E, sp vs H Q E → vs.length = ps.length
  go : ∀ (A : Around) (outer : List Env) (s : Shared) (H : Hp) (args : Args) (us : List Value) (vs : List V) (Q : VK) (E : XK), RmH k A p → L2H.PinOk outer H s p → Env0 P w K mg base A outer s H →
    BindsTo s fd args (ps.zip us) → Vals vs us → sp vs H Q E → codeAny (model P w) A (.call (.ref f) args) (CR CX outer P w H s Q E) s
/-- a def by its body -/
theorem fh_of {p : PO} {x qual : Str} {params : Arguments} {body : List Stmt} {scope : Scope} {dvs : List V} {kws : List (Str × V)} {f : Addr} {fd : FuncData} {N ps : List Str} {sp : Sp} (F : FunD K x qual params body scope dvs kws f fd) (S : FnScope N ps scope)
    (cnt : ∀ vs H Q E, sp vs H Q E → vs.length = ps.length)
    (hb : ∀ (cdv : Value) (A : Around) (outer : List Env) (s : Shared) (H : Hp) (vs : List V) (Q : VK) (E : XK), RmH k (A.deeper (envOfC qual scope s.heap.objs.size f cdv)) p → sp vs H Q E →
      ∃ t, PSs (L2H.cxH CX P w K mg base N qual scope f cdv A outer s H E p) body t ∧ t { nx := fun _ H' => Q .non H', rt := Q } (start N vs) H) : Fh P w K mg base CX p (k + 1) f fd ps sp := by
  obtain ⟨oc, od, dV, kV, doc, pm, an, cdv, ct, osl, rfl, lk, hcd, _, _⟩ := F.ex
  refine ⟨cnt, ?_⟩
  intro A outer s H args us vs Q E hr pk e0 hbind hv hsp
  have kin : K.In s.heap := e0.mod.kin.keeps (fun b o e => (e0.bs b o e).1)
  have nol : s.heap.NoLimit := e0.mod.nolimit.keeps (fun b o e => (e0.bs b o e).1)
  have hk : ∀ y ∈ ps.zip us, scope.names.lookup y.1 = some .local ∨ (scope.names.lookup y.1 = some .cell ∧ ((cellsFrom (s.heap.objs.size + 1) scope.names []).lookup y.1).isSome = true) := by
    rintro ⟨n, v⟩ hy
    cases S.par n (List.of_mem_zip hy).1 with
    | inl q => exact .inl q
    | inr q => exact .inr ⟨q, PySem.W.cellsFrom_some _ _ _ (.inl q)⟩
  refine codeAny_call_function hr.rm.depth (kin _ _ lk) rfl S.co S.gen rfl (PySem.W.codeRec_of kin hcd) (hbind _ _ _ _ (wpAny_newFunctionEnv_cells S.kind hk ?_))
  intro env he s1 x
  subst he
  refine ⟨nol.keeps x.toInCall.keep, codeAny_func ?_⟩
  obtain ⟨t, ht, hq⟩ := hb cdv A outer s H vs Q E (hr.down _) hsp
  have I := L2H.inv_startH (CX := CX) (E := E) S pk e0 (cnt _ _ _ _ hsp) hv x
  refine wpAny_mono (ht.run [] s1 (start N vs) H _ I hq) ?_ (fun e s' hs => hs)
  intro fl s' hs
  cases fl with
  | ret u =>
    obtain ⟨v, σ', H', J, rv, q⟩ := hs
    exact ⟨v, H', J.os, J.bare, J.base, J.hok, rv, q⟩
  | next =>
    obtain ⟨σ', H', J, q⟩ := hs
    exact ⟨.non, H', J.os, J.bare, J.base, J.hok, rfl, q⟩
  | brk => exact (hs.choose_spec.choose_spec.2 : False).elim
  | cont => exact (hs.choose_spec.choose_spec.2 : False).elim
/-- a def of the module, told by its name; sp by the pins -/
structure CalH (P : Program) (w : World) (K : PySem.W.Frag) (mg : Str → Option Value) (base : Heap) (CX : CXT) (k : Nat) (x : Str) (ps : List Str) (sp : List PO → Sp) : Prop where
  ex : ∃ (f : Addr) (fd : FuncData), (∀ p, Fh P w K mg base CX p k f fd ps (sp [p])) ∧ mg x = some (.ref f) ∧ PySem.W.keepIn K (.ref f) = true ∧ Binds K fd ps []
end
section
variable {X : Cx} {CX : CXT} {k : Nat} {ps : List Str} {sp : List PO → Sp} {E : XK} {x : Str} {p : PO} {np pos : Pos} {e : Expr} {es : List Expr} {t : TA}
theorem pe_calH (C : CalH X.prog X.w X.K X.mg X.base CX k x ps sp) (hr : RmH k X.A p) (hx : Passes CX X E) (ha : PA X (e :: es) t) (hp : p ∈ X.pn := by exact List.mem_cons_self) (hg : Gl X x := by rfl) (hdb : (x == ("__debug__" : Str)) = false := by decide)
    (he : starEach (e :: es) X.env = (false, eval e X.env) :: starEach es X.env := by rfl) (hpl : (backTo pos (starEach es X.env)).any (·.1) = false := by rfl) :
    PE X (.Call (.Name x np) (e :: es) [] pos) (tCall (sp [p]) [] E t) := by
  obtain ⟨f, fd, F, hm, hk, hb⟩ := C.ex
  constructor
  intro pins s σ H Q I h
  refine wpAny_Call_Name_kw (ld_glob I hg hm ?_ hdb)
  refine PySem.W.callWith_K (h₀ := X.base) I.ok.mod.kin hk (thn (ha.run pos pins s σ H _ I h) ?_) he hpl
  rintro us s1 ⟨vs, H1, I1, r, q⟩
  have q : sp [p] (vs ++ []) H1 Q E := q
  rw [List.append_nil] at q
  have l : (us ++ []).length = ps.length := by
    rw [List.append_nil, ← r.length]
    exact (F p).cnt _ _ _ _ q
  have b := hb s1 us I1.kIn l
  rw [List.append_nil] at b
  obtain ⟨g1, g2, g3, g4, g5⟩ := I1.pin p (List.mem_append_left _ hp)
  have pk : L2H.PinOk X.stack H1 s1 p := ⟨g1, g2, fun hm => (List.mem_cons.mp (I1.stkSub p.1 hm)).elim g3 g4, g5⟩
  refine ⟨I1.kIn, wpAny_call (codeAny_mono ((F p).go X.A X.stack s1 H1 ⟨us, []⟩ us vs Q E hr pk I1.env0 b r q) fun r s' hq => ?_)⟩
  have z := back hx I1 hq
  cases r with
  | error e => exact z
  | ok fl => cases fl <;> exact z
end
/-! ### == and repr there -/
section
variable {X : Cx} {K : PySem.W.Frag} {p : PO} {k : Nat}
theorem u_eqH (hr : RmH k X.A p) (hK : X.K = K := by rfl) : OpR X (compareOp .Eq) (rEqU K) := by
  subst hK
  have := hr.rm.un
  exact op_eq.or (op_eqD (by omega))
end
section
variable {X : Cx} {p : PO} {k : Nat}
theorem call_reprDg (hu : X.A.units + 200 < cLine) (gd : X.A.guards = some []) (hd : X.base.NoDigits) : CallR X (.builtin "repr") rReprD := by
  intro pins s σ H xs us Q I r h
  obtain ⟨a, kvs, ps, rfl, ha, pt, hz, q⟩ := h
  obtain ⟨u, rfl, ru⟩ := vals1 r
  cases (show u = Value.ref a from ru)
  have hx : ObjOk X.prog X.w H s.heap a (.dK kvs) := I.hok a _ ha
  obtain ⟨_, hsys, vs, hkv, o, es, ep, ho, hex, hda, _, hp, _⟩ := hx
  have hD : s.heap.NoDigits := hd.keeps I.bk
  have hc : o.cls = .type "dict" := hex.1
  refine call_repr_slot (T := "dict") (by omega) ⟨o, ho, hc⟩ F.slot_dict_repr ?_
  refine call_dict_reprK (as := []) (d := 0) ho hc hda hsys (fun z => nomatch z) (entriesK hD hkv hp pt) (A := X.A.in1) (g := []) gd (fun b _ => Clear.nil b) (by show X.A.units + 1 + (0 + 1) < cLine; omega) (fun _ _ z => z) (fun h' u' tk kp => ⟨_, _, rfl, ?_⟩) hz
  exact ⟨.str (dictText ps), H, I.un (Un.kept kp) (I.hok.kept kp), ⟨u', rfl⟩, q⟩
theorem call_reprSg (hu : X.A.units + 200 < cLine) (gd : X.A.guards = some []) (hd : X.base.NoDigits) : CallR X (.builtin "repr") rReprS := by
  intro pins s σ H xs us Q I r h
  obtain ⟨y, t, bs, d, rfl, hs, h60, hz, q⟩ := h
  have hD : s.heap.NoDigits := hd.keeps I.bk
  have fin : ∀ (h' : Heap) (u' tk : Tok), (∀ b o, s.heap.get? b = some o → h'.get? b = some o) → EP X pins σ Q (.str t u') { s with heap := h', toks := tk } := fun h' u' tk kp => ⟨.str t, H, I.un (Un.kept kp) (I.hok.kept kp), ⟨u', rfl⟩, q⟩
  cases hs with
  | flat tx =>
    cases tx with
    | non => exact call_repr_non pins s σ H _ us Q I r ⟨rfl, q⟩
    | bl b => exact call_repr_bl pins s σ H _ us Q I r ⟨b, rfl, q⟩
    | int i hi => exact call_repr_big hd pins s σ H _ us Q I r ⟨i, rfl, hi, q⟩
    | str x hx => exact call_repr_str pins s σ H _ us Q I r ⟨x, rfl, hx, q⟩
  | dct ha pt => exact call_reprDg hu gd hd pins s σ H _ us Q I r ⟨_, _, _, rfl, ha, pt, hz, q⟩
  | @lst0 a ha =>
    obtain ⟨u, rfl, ru⟩ := vals1 r
    cases (show u = Value.ref a from ru)
    have hx : ObjOk X.prog X.w H s.heap a (.lst _) := I.hok a _ ha
    obtain ⟨_, its, n, rv, ho⟩ := hx
    cases rv
    exact call_repr_slot (T := "list") (by omega) ⟨_, ho, rfl⟩ F.slot_list_repr.toG (call_list_repr_empty ⟨_, ho, rfl⟩ ho rfl ⟨_, _, rfl, fin s.heap _ _ fun _ _ z => z⟩)
  | @lst a ys ts bs d ha ne hs na =>
    obtain ⟨u, rfl, ru⟩ := vals1 r
    cases (show u = Value.ref a from ru)
    have hx : ObjOk X.prog X.w H s.heap a (.lst _) := I.hok a _ ha
    obtain ⟨_, its, n, rv, ho⟩ := hx
    have kk := shw_all (P := X.prog) (w := X.w) I.hok hD hs rv
    cases its with
    | nil => cases rv; exact absurd rfl ne
    | cons x l =>
      refine call_repr_slot (T := "list") (by omega) ⟨_, ho, rfl⟩ F.slot_list_repr.toG ?_
      exact call_list_reprK ho rfl rfl na (by simpa using kk.length_eq) (fun i y hy => all_at kk (by simpa using hy)) (A := X.A.in1) (g := []) gd (fun b _ => Clear.nil b) (by show X.A.units + 1 + (d + 1) < cLine; omega) (fun _ _ z => z) (fun h' u' tk kp => ⟨_, _, rfl, fin h' u' tk kp⟩) hz
  | @tup a ys ts bs d ha hs na =>
    obtain ⟨u, rfl, ru⟩ := vals1 r
    cases (show u = Value.ref a from ru)
    have hx : ObjOk X.prog X.w H s.heap a (.tup _) := I.hok a _ ha
    obtain ⟨_, its, rv, o, e2, hc, n2, hdt⟩ := hx
    have kk := shw_all (P := X.prog) (w := X.w) I.hok hD hs rv
    refine call_repr_slot (T := "tuple") (by omega) ⟨o, e2, hc⟩ F.slot_tuple_repr ?_
    exact call_tuple_reprK e2 hc hdt na (by simpa using kk) (A := X.A.in1) (g := []) gd (fun b _ => Clear.nil b) (by show X.A.units + 1 + (d + 1) < cLine; omega) (fun _ _ z => z) (fun h' u' tk kp => ⟨_, _, rfl, fin h' u' tk kp⟩) hz
theorem call_reprNg (hu : X.A.units + 200 < cLine) (gd : X.A.guards = some []) (hd : X.base.NoDigits) : CallR X (.builtin "repr") rReprN := by
  intro pins s σ H xs us Q I r h
  obtain ⟨a, kvs, ps, as, d, rfl, ha, pt, na, h50, hz, q⟩ := h
  obtain ⟨u, rfl, ru⟩ := vals1 r
  cases (show u = Value.ref a from ru)
  have hx : ObjOk X.prog X.w H s.heap a (.dK kvs) := I.hok a _ ha
  obtain ⟨_, hsys, vs, hkv, o, es, ep, ho, hex, hda, _, hp, _⟩ := hx
  have hD : s.heap.NoDigits := hd.keeps I.bk
  have hc : o.cls = .type "dict" := hex.1
  refine call_repr_slot (T := "dict") (by omega) ⟨o, ho, hc⟩ F.slot_dict_repr ?_
  refine call_dict_reprK ho hc hda hsys na (entriesN I.hok hD hkv hp pt) (A := X.A.in1) (g := []) gd (fun b _ => Clear.nil b) (by show X.A.units + 1 + (d + 1) < cLine; omega) (fun _ _ z => z) (fun h' u' tk kp => ⟨_, _, rfl, ?_⟩) hz
  exact ⟨.str (dictText ps), H, I.un (Un.kept kp) (I.hok.kept kp), ⟨u', rfl⟩, q⟩
theorem call_reprPg (hu : X.A.units + 200 < cLine) (gd : X.A.guards = some []) (hd : X.base.NoDigits) : CallR X (.builtin "repr") rReprP := by
  intro pins s σ H xs us Q I r h
  obtain ⟨v, t, rfl, ⟨l, h⟩, q⟩ := h
  have sz : (10000 : Nat) ≤ sizeLine := by decide
  rcases h with ⟨bs, d, s1, d1⟩ | ⟨a, kvs, ps, as, d, rfl, ha, pt, na, h50, rfl⟩
  · exact call_reprSg hu gd hd pins s σ H _ us Q I r ⟨v, t, bs, d, rfl, s1, by omega, by omega, q⟩
  · exact call_reprNg hu gd hd pins s σ H _ us Q I r ⟨a, kvs, ps, as, d, rfl, ha, pt, na, h50, by omega, q⟩
theorem call_reprPH (hr : RmH k X.A p) (hd : X.base.NoDigits) : CallR X (.builtin "repr") rReprP := call_reprPg (by have := hr.rm.un; omega) hr.gd hd
end
/-! ### a comprehension there -/
/-- the block's context -/
abbrev blkH (X : Cx) (p : PO) (s : Shared) (H : Hp) (scope : Scope) (cenv : Env) (fp : List Addr) : Cx := { X.blk s H scope cenv fp with pn := [p] }
section
variable {X : Cx} {p : PO} {k : Nat}
theorem blk_hot {s3 s : Shared} {H3 H : Hp} {scope : Scope} {cenv : Env} {fp : List Addr} {σ : L2.St} (I : Inv (X.blk s3 H3 scope cenv fp) [] σ H s) (h : s.heap.get? p.1 = some p.2 ∧ H p.1 = none ∧ p.1 ≠ cenv.locals ∧ p.1 ∉ frs X.stack ∧ ∀ v, p.2.data ≠ .cell v) : Inv (blkH X p s3 H3 scope cenv fp) [] σ H s :=
  (I.pins_of (pins' := [p]) fun q hq => by
    obtain rfl : q = p := by simpa using hq
    exact h).toTry _
theorem pe_lcH {elt tg iter : Expr} {ifs : List Expr} {scope : Scope} {own : List (Str × Nat)} {pos : Pos} {wi : TI} {g : TG} {tt : TT} {te : TE} (hr : RmH k X.A p) (hN : X.N.Nodup) (hi : L2H.PIH X tg iter wi) (ok : BlkOk X.N X.env.scope scope own)
    (hg : ∀ (s : Shared) (H : Hp) (C : Addr) (cl : List (Str × Addr)) (fp : List Addr), PG (blkH X p s H scope (compEnvC scope cl C X.env) fp) tg g)
    (ht : ∀ (s : Shared) (H : Hp) (C : Addr) (cl : List (Str × Addr)) (fp : List Addr), PTs (blkH X p s H scope (compEnvC scope cl C X.env) fp) ifs tt)
    (he : ∀ (s : Shared) (H : Hp) (C : Addr) (cl : List (Str × Addr)) (fp : List Addr), PE (blkH X p s H scope (compEnvC scope cl C X.env) fp) elt te)
    (hp : p ∈ X.pn := by exact List.mem_cons_self) (hs : ∀ x, foldedSetIterable iter X.env x = pure x := by intro _; rfl) :
    PE X (.ListComp elt [⟨tg, iter, ifs, 0⟩] scope pos) (tLc wi g tt te (own.map (·.2))) := by
  refine ⟨fun pins s σ H Q I h => ?_⟩
  rw [eval_ListComp]
  have cap : ∀ y ∈ scope.names, y.2 = .free → ∃ c, X.env.cells.lookup y.1 = some c := fun y hy e => I.ok.has _ (ok.free y hy e)
  refine wpAny_comprehension_free (use := none) rfl hs (closure_ok cap) ok.kind (fun y hy e => by rw [ok.uniq y hy, e]) (thn (hi.run pins s σ H _ I h) fun v1 s1 h1 => thn h1 fun v2 s2 h2 => ?_)
  obtain ⟨it, fp, tn, J, G, rfl, I2, T, t2, f2, q⟩ := h2
  refine wpAny_newObj_type (newEnv_comp ?_) (Nat.zero_le _)
  -- the list that grows
  obtain ⟨h2, g2, d2, k2, o2⟩ := s2
  have nD : G h2.objs.size = none := I2.hok.fresh (Nat.le_refl _)
  obtain ⟨W, ⟨m0, w0⟩, turn⟩ := q _ nD
  have up : ∀ b o, h2.get? b = some o → (h2.push { cls := .type "list", data := .seq ([] : List Value).toArray }).get? b = some o := fun b o e => Heap.get?_push_of_some _ e
  have I3 : Inv X pins σ (upd G h2.objs.size (.lst [])) ⟨h2.push { cls := .type "list", data := .seq ([] : List Value).toArray }, g2, d2, k2, o2⟩ :=
    I2.laid (t' := k2) up (Nat.le_refl _) ⟨Nat.zero_le _, [], 0, .nil, Heap.get?_push_size _ rfl⟩
  have lt : ∀ b ∈ fp, b < h2.objs.size := fun b hb => Heap.lt_size (T.obj _ _ t2 b hb).choose_spec.1
  have f3 : ∀ b ∈ fp, FpOk X pins (upd G h2.objs.size (.lst [])) b ∧ b < (h2.push { cls := .type "list", data := .seq ([] : List Value).toArray }).objs.size := fun b hb =>
    ⟨⟨by rw [upd_ne (Nat.ne_of_lt (lt b hb))]; exact (f2 b hb).1, (f2 b hb).2⟩, by rw [Heap.size_push]; exact Nat.lt_succ_of_lt (lt b hb)⟩
  have t3 := T.keep _ _ _ t2 fun b _ o e => up b o e
  generalize h2.objs.size = D at nD w0 turn I3 f3 ⊢
  generalize upd G D (.lst []) = G3 at w0 I3 f3
  generalize h2.push { cls := .type "list", data := .seq ([] : List Value).toArray } = h3 at up I3 f3 t3 ⊢
  -- the block
  have I4 := block_start I3 ok hN f3
  have P3 := I3.pin p (List.mem_append_left _ hp)
  have I4 := blk_hot (p := p) I4 ⟨pushCells_keeps _ _ _ _ (Heap.get?_push_of_some _ P3.1), P3.2.1, Nat.ne_of_lt (Heap.lt_size P3.1), fun hm => (List.mem_cons.mp (I3.stkSub p.1 hm)).elim P3.2.2.1 P3.2.2.2.1, P3.2.2.2.2⟩
  have t4 := T.keep _ _ _ t3 fun b _ o e => pushCells_keeps scope.names _ _ _ (Heap.get?_push_of_some { cls := .type "dict", data := .dict #[] } e)
  have pg := hg ⟨h3, g2, d2, k2, o2⟩ G3 h3.objs.size (cellsFrom (h3.objs.size + 1) scope.names (cloFrom X.env.cells scope.names [])) fp
  have pt := ht ⟨h3, g2, d2, k2, o2⟩ G3 h3.objs.size (cellsFrom (h3.objs.size + 1) scope.names (cloFrom X.env.cells scope.names [])) fp
  have pe := he ⟨h3, g2, d2, k2, o2⟩ G3 h3.objs.size (cellsFrom (h3.objs.size + 1) scope.names (cloFrom X.env.cells scope.names [])) fp
  show codeAny _ _ (.compStart (.ListComp elt [⟨tg, iter, ifs, 0⟩] scope pos) 0 (.ref it) (.ref D) (compEnvC scope (cellsFrom (h3.objs.size + 1) scope.names (cloFrom X.env.cells scope.names [])) h3.objs.size X.env)) (compPost (model X.prog X.w) X.A X.xe none _ (.ref D) h3.objs.size) _
  generalize hce : compEnvC scope (cellsFrom (h3.objs.size + 1) scope.names (cloFrom X.env.cells scope.names [])) h3.objs.size X.env = ce at I4 pg pt pe ⊢
  have cl : ce.locals = h3.objs.size := by rw [← hce]; rfl
  have hot : L2H.HotC (blkH X p ⟨h3, g2, d2, k2, o2⟩ G3 scope ce fp) := ⟨p, hr.ht, List.mem_cons_self⟩
  have own_ : ∀ {σ' : L2.St} {H' : Hp} {s' : Shared}, Inv (blkH X p ⟨h3, g2, d2, k2, o2⟩ G3 scope ce fp) [] σ' H' s' → (∀ b ∈ fp, H' b = none) → ∀ b ∈ fp, FpOk (blkH X p ⟨h3, g2, d2, k2, o2⟩ G3 scope ce fp) [] H' b := fun {σ' H' s'} J hn b hb =>
    ⟨hn b hb, (J.ok.exf b hb).1, J.ok.exfs b hb, .inl hb, (J.ok.exf b hb).2, fun q hq => by
      obtain rfl : q = p := by simpa using hq
      exact (f3 b hb).1.2.2.2.2.2 q (List.mem_append_left _ hp)⟩
  suffices L : codeAny (model X.prog X.w) X.A (.compLoop (.ListComp elt [⟨tg, iter, ifs, 0⟩] scope pos) 0 (.ref it) (.ref D) ce) (compPost (model X.prog X.w) X.A X.xe none (EP X pins σ Q) (.ref D) h3.objs.size) ⟨pushCells (h3.push { cls := .type "dict", data := .dict #[] }) scope.names, g2, d2, k2, o2⟩ from codeAny_compStart_list L (T.self X.A 0 _ _ _ t4 L)
  refine compLoop_any (fun n s' => ∃ i H', Inv (blkH X p ⟨h3, g2, d2, k2, o2⟩ G3 scope ce fp) [] (wipe σ (own.map (·.2))) H' s' ∧ tn i s'.heap ∧ (∀ b ∈ fp, H' b = none) ∧ W i n H') ?_ m0 ⟨0, G3, I4, t4, fun b hb => (f3 b hb).1.1, w0⟩
  rintro n s5 ⟨i, H5, I5, t5, n5, w5⟩
  rcases turn i n H5 w5 with ⟨stop, qe⟩ | ⟨go, Nx, hN', step⟩
  · refine thnF (T.done (blkH X p ⟨h3, g2, d2, k2, o2⟩ G3 scope ce fp) rfl rfl rfl hot i [] s5 _ H5 _ I5 (own_ I5 n5) t5 stop) fun r s6 ⟨er, I6⟩ => ?_
    subst er
    have back : Inv X pins σ H5 s6 := I3.call' (ch := fp) I6.os I6.base I6.hok I6.bare fun b hb => ⟨(f3 b hb).1.2.2.2.1, (f3 b hb).1.2.1, (f3 b hb).1.2.2.2.2.1, (f3 b hb).1.2.2.2.2.2⟩
    have fr : H5 ce.locals = none := I6.free
    obtain ⟨m, hm, _⟩ := I6.loc
    have hm : s6.heap.Ns ce.locals m := hm
    rw [cl] at fr hm
    obtain ⟨e0, e1, e2, e3, e4, e5⟩ := I3.fpOk (Nat.le_refl _) fr
    exact ⟨m, hm, fun h7 sb => ⟨.ref D, H5, back.turned (t' := s6.toks) (fun b o hb e => (sb.2 b hb).trans e) e0 e1 e3 e4 e5, rfl, qe⟩⟩
  · refine thnF (T.item (blkH X p ⟨h3, g2, d2, k2, o2⟩ G3 scope ce fp) rfl rfl rfl hot i [] s5 _ H5 _ I5 (own_ I5 n5) t5 go) fun r s6 ⟨u, er, h6⟩ => ?_
    subst er
    refine thnF h6 fun _ s7 ⟨x, H7, I7, r7, y7, t7, n7⟩ => ?_
    have I7 := I7.pinned (own_ I7 n7) (T.obj _ _ t7)
    refine thnF (pg.run _ s7 _ H7 x u _ I7 r7 (step x H7 y7)) fun _ s8 ⟨σ8, H8, I8, ew, q8⟩ => ?_
    have again : ∀ {s' : Shared} {H' : Hp}, Inv (blkH X p ⟨h3, g2, d2, k2, o2⟩ G3 scope ce fp) ([] ++ pinsAt fp s7.heap) σ8 H' s' → Nx H' →
        ∃ m, m < n ∧ ∃ i H', Inv (blkH X p ⟨h3, g2, d2, k2, o2⟩ G3 scope ce fp) [] (wipe σ (own.map (·.2))) H' s' ∧ tn i s'.heap ∧ (∀ b ∈ fp, H' b = none) ∧ W i m H' := fun {s' H'} J nx => by
      obtain ⟨m, lm, wm⟩ := hN' H' nx
      have kp : ∀ b ∈ fp, ∀ o, s7.heap.get? b = some o → s'.heap.get? b = some o ∧ H' b = none := fun b hb o e => by
        have z := J.pin (b, o) (List.mem_append_right _ (List.mem_append_right _ (mem_pinsAt hb e)))
        exact ⟨z.1, z.2.1⟩
      refine ⟨m, lm, i + 1, H', (J.unpinned (pins := [])).weak (by rw [← ew, wipe_length]) (fun j v e => ?_), T.keep _ _ _ t7 fun b hb o e => (kp b hb o e).1, fun b hb => ?_, wm⟩
      · rw [← ew] at e
        exact (wipe_some e).1
      · obtain ⟨o, e, _⟩ := T.obj _ _ t7 b hb
        exact (kp b hb o e).2
    refine thnF (pt.run _ s8 σ8 H8 _ I8 q8) fun b s9 ⟨H9, I9, q9⟩ => ?_
    cases b with
    | false =>
      rw [if_neg Bool.false_ne_true] at q9 ⊢
      exact again I9 q9
    | true =>
      rw [if_pos rfl] at q9 ⊢
      refine thnF (pe.run _ s9 σ8 H9 _ I9 q9) fun z s10 ⟨y, H10, I10, r10, acc, hD, hz, nx⟩ => ?_
      exact app_ok (X := blkH X p ⟨h3, g2, d2, k2, o2⟩ G3 scope ce fp) I10 hD hz r10 fun s11 I11 => again I11 nx
end
end VB
/-! except (A, B, ..): tuples of any length -/
namespace PySem.W
open PySem PySem.Spec PySem.Calls PyProof.Rows
section
variable {M : Model} {K : Frag} {h : Heap}
/-- a loop that reads only, and stops at the first c with g c -/
theorem looks_forIn {α β : Type} {f : α → β → Sem (ForInStep β)} {g : α → Bool} {b0 r1 : β} : ∀ {l : List α}, (∀ c ∈ l, Looks M h (f c b0) (if g c = true then .done r1 else .yield b0)) → Looks M h (forIn l b0 f) (if l.any g = true then r1 else b0)
  | [], _ => fun A Q E s k q => by
    rw [List.forIn_nil]
    exact wpAny_pure q
  | c :: l, hf => fun A Q E s k q => by
    rw [List.forIn_cons]
    refine wpAny_bind (hf c List.mem_cons_self A _ E s k ?_)
    rw [List.any_cons] at q
    cases hg : g c with
    | true =>
      rw [hg, Bool.true_or, if_pos rfl] at q
      rw [if_pos rfl]
      exact wpAny_pure q
    | false =>
      rw [hg, Bool.false_or] at q
      rw [if_neg Bool.false_ne_true]
      exact looks_forIn (fun c' hc => hf c' (List.mem_cons_of_mem _ hc)) A Q E s k q
theorem exmAny_any {cls : Value} : ∀ {cs : List Value} {b : Bool}, exmAny K cls cs = some b → (∀ c ∈ cs, ∃ v, exmOne K cls c = some v) ∧ cs.any (fun c => exmOne K cls c == some true) = b
  | [], b, e => ⟨fun c hc => (by cases hc), (by cases e; rfl)⟩
  | c :: cs, b, e => by
    obtain ⟨b1, d1, x1, x2, rfl⟩ := exmAny_cons e
    obtain ⟨h1, h2⟩ := exmAny_any x2
    refine ⟨fun c' hc => ?_, ?_⟩
    · rcases List.mem_cons.mp hc with rfl | hc
      · exact ⟨b1, x1⟩
      · exact h1 c' hc
    · rw [List.any_cons, h2, x1]
      cases b1 <;> rfl
theorem exm_tupN {cs : List Value} {cls : Value} {tp e : Addr} {b : Bool} (X : K.In h) (LT : Looks M h (typeOf (.ref e)) cls) (hp : h.get? tp = some { cls := .type "tuple", data := .seq cs.toArray }) (hx : exmAny K cls cs = some b) : Looks M h (excMatches (.ref e) (.ref tp)) b := by
  intro A Q E s k₀ q
  obtain ⟨hh, g, d, tk, os⟩ := s
  have k : ∀ b o, h.get? b = some o → hh.get? b = some o := k₀
  obtain ⟨hall, hany⟩ := exmAny_any hx
  have LT0 : Looks M h (isInstance (.ref tp) (.type "tuple")) true := ((Looks.ld hp).andThen .now).andThen (Looks.of_pure isSubtype_tuple_tuple)
  unfold excMatches
  refine wpAny_bind ((LT0.keeps k).at ?_)
  dsimp only
  rw [if_pos rfl]
  first
    | refine wpAny_bind (wpAny_seqItems (k _ _ hp) rfl ?_)
    | refine wpAny_bind (wpAny_bind (wpAny_seqItems (k _ _ hp) rfl (wpAny_pure ?_)))
  dsimp only [Option.getD_some, Option.getD]
  refine wpAny_bind (wpAny_pure ?_)
  refine wpAny_bind (((looks_forIn (M := M) (h := h) (g := fun _ => false) (r1 := PUnit.unit) fun c hc => ?_).keeps k).at ?_)
  · intro A Q E s k q
    obtain ⟨v, hv⟩ := hall c hc
    obtain ⟨e1, S1⟩ := exm_cls (M := M) X hv
    refine wpAny_bind ((e1.keeps k).here ?_)
    exact wpAny_pure q
  · refine wpAny_bind ((LT.keeps k).at ?_)
    refine wpAny_bind (((looks_forIn (M := M) (h := h) (g := fun c => exmOne K cls c == some true) (r1 := (some true, ())) fun c hc => ?_).keeps k).at ?_)
    · intro A Q E s k q
      obtain ⟨v, hv⟩ := hall c hc
      obtain ⟨e1, S1⟩ := exm_cls (M := M) X hv
      refine wpAny_bind ((S1.keeps k).here ?_)
      rw [hv] at q
      cases v <;> exact wpAny_pure q
    · rw [hany]
      cases b <;> exact wpAny_pure q
end
end PySem.W
namespace VB
open PySem PySem.Spec PyProof.Rows L2
abbrev TSu := Addr → Value → Option Addr → TS
/-- what clauses with tuples of classes wish of an exception of the body; none flies on -/
def wTup (K : PySem.W.Frag) (D : Ends) : List (List Addr × TSu) → WX
  | [] => fun _ _ _ _ => False
  | (as, ts) :: r => fun cls d σ H => ∃ b, PySem.W.exmAny K cls (as.map .ref) = some b ∧ (b = true → ∀ a, H a = none → ts a cls d D σ H) ∧ (b = false → wTup K D r cls d σ H)
/-- written names of the classes at as -/
inductive NmsT (X : Cx) : List Expr → List Addr → Prop
  | nil : NmsT X [] []
  | cons {x : Str} {C : Addr} {p : Pos} {es : List Expr} {as : List Addr} (hg : Gl X x) (hm : X.mg x = some (.ref C)) (hd : (x == ("__debug__" : Str)) = false) (hst : starEach (.Name x p :: es) X.env = (false, eval (.Name x p) X.env) :: starEach es X.env) (r : NmsT X es as) :
      NmsT X (.Name x p :: es) (C :: as)
theorem nms_run {X : Cx} {pos : Pos} {a : Addr} {pn pins : List PO} {σ : L2.St} {H : Hp} {s : Shared} {E : Value → Shared → Prop} (S : Inv (X.suite a pn) pins σ H s) {es : List Expr} {as : List Addr} (N : NmsT X es as) : ∀ {Q : List Value → Shared → Prop}, Q (as.map .ref) s →
    wpAny (model X.prog X.w) (X.A.mark (some (.ref a))) (spliced (backTo pos (starEach es X.env))) Q E s := by
  induction N with
  | nil => exact fun q => Calls.spliced_nil q
  | @cons x C p es as hg hm hd hst r ih =>
    intro Q q
    rw [hst]
    show wpAny _ _ (spliced ((false, eval (.Name x p) X.env) :: backTo pos (starEach es X.env))) _ _ s
    refine Calls.spliced_cons (ld_glob (X := X.suite a pn) S hg hm ?_ hd)
    exact ih q
inductive HdsT (X : Cx) : List ExceptHandler → List (List Addr × TSu) → Prop
  | nil : HdsT X [] []
  | cons {es : List Expr} {as : List Addr} {ts : TSu} {b₀ : Stmt} {suite : List Stmt} {x1} {np pos' : Pos} {hds : List ExceptHandler} {l : List (List Addr × TSu)} (hl : as.length ≤ sizeLine) (ht : NmsT X es as)
      (hsu : ∀ (a : Addr) (oe : Obj) (cls : Value) (d : Option Addr) (pn : List PO), L2N.Zn cls d oe → (∃ vs, oe.data = .fields vs) → PSs (X.suite a ((a, oe) :: pn)) (b₀ :: suite) (ts a cls d)) (r : HdsT X hds l) :
      HdsT X (.ExceptHandler (some (.Tuple es x1 np)) none (b₀ :: suite) pos' :: hds) ((as, ts) :: l)
section
variable {X : Cx} {body : List Stmt} {h₀ : ExceptHandler} {hds : List ExceptHandler} {l : List (List Addr × TSu)} {pos : Pos} {tb : WX → TS}
/-- the clauses, one after the other, for the landed error a -/
theorem tup_clauses {pins : List PO} {σ : L2.St} {H : Hp} {sI s : Shared} {D : Ends} {a : Addr} {B : Heap} {cls : Value} {d : Option Addr} (ok : X.Ok) (J : Inv X pins σ H sI) (nb : ∀ b o, sI.heap.get? b = some o → b ∉ frs X.stack → B.get? b = some o) (hs : X.stack = X.env :: X.outer)
    (na : H a = none) (os : s.os = sI.os) (ag : AllBare s.gens) (nL : a ≠ X.env.locals) (nF : a ∉ X.fs) :
    ∀ {hds : List ExceptHandler} {l : List (List Addr × TSu)}, HdsT X hds l → ∀ (h3 : Heap) (tk : Nat), HandSPX.FlyingZ B (X.env :: X.outer) a (L2N.Zn cls d) h3 → sI.heap.UpToSlots h3 → wTup X.K D l cls d σ H →
      wpAny (model X.prog X.w) X.A (handleBy (.ref a) X.env hds) (SP X pins D) X.xe { s with heap := h3, toks := tk } := by
  intro hds l hk
  induction hk with
  | nil => exact fun _ _ _ _ w => w.elim
  | @cons es as ts b₀ suite x1 np pos' hds2 l2 hl ht hsu r ih =>
    intro h3 tk fl up w
    obtain ⟨b, hb, hyes, hno⟩ := w
    have J3 : Inv X pins σ H { s with heap := h3 } := J.landed nb fl.1 up os ag
    obtain ⟨oe, vs, he, hz, hd⟩ := fl.there
    have S3 : Inv (X.suite a ((a, oe) :: (X.pn ++ pins))) [] σ H { s with heap := h3, toks := tk } := (J3.suite he hd na nL nF).tok _
    refine wpAny_handleBy_cons (codeAny_handlers_test ?_) (by intro q; cases q)
    refine wpAny_Tuple_spliced (nms_run S3 ht ⟨by rw [List.length_map]; exact hl, ?_⟩)
    show wpAny _ _ (excMatches (.ref a) (.ref h3.objs.size)) _ _ { s with heap := h3.push { cls := .type "tuple", data := .seq (as.map Value.ref).toArray }, toks := tk }
    have kp : ∀ b o, h3.get? b = some o → (h3.push { cls := .type "tuple", data := .seq (as.map Value.ref).toArray }).get? b = some o := fun b o e => Heap.get?_push_of_some _ e
    have tp : (h3.push { cls := .type "tuple", data := .seq (as.map Value.ref).toArray }).get? h3.objs.size = some { cls := .type "tuple", data := .seq (as.map Value.ref).toArray } := Heap.get?_push_size _ rfl
    have fl4 : HandSPX.FlyingZ B (X.env :: X.outer) a (L2N.Zn cls d) (h3.push { cls := .type "tuple", data := .seq (as.map Value.ref).toArray }) := by
      obtain ⟨k1, k2, k3, oe', vs', T, oT, ts', he', hz', hd', h1', hb', hne, hT, hdT, h3'⟩ := fl
      exact ⟨fun b o e => kp _ _ (k1 b o e), k2, k3.of_keeps (fun b o e _ => ⟨o, kp b o e, rfl⟩), oe', vs', T, oT, ts', kp _ _ he', hz', hd', h1', hb', hne, kp _ _ hT, hdT, h3'⟩
    have up4 := up.trans (Heap.UpToSlots.of_keeps kp)
    have he4 := kp _ _ he
    generalize h3.push { cls := .type "tuple", data := .seq (as.map Value.ref).toArray } = h4 at kp tp fl4 up4 he4 ⊢
    have LT : PySem.W.Looks (model X.prog X.w) h4 (typeOf (.ref a)) cls := fun A Q E s k q => wpAny_typeOf_ref (k _ _ he4) (by rw [hz.1]; exact q)
    have LM := PySem.W.exm_tupN (M := model X.prog X.w) (J3.kIn.keeps kp) LT tp hb
    refine LM.here ?_
    cases b with
    | false => exact ih h4 tk fl4 up4 (hno rfl)
    | true =>
      refine codeAny_handlers_suite (HandSPX.lands_againZ fl4 fun h5 fl5 up5 => ?_)
      have J5 : Inv X pins σ H { s with heap := h5 } := J.landed nb fl5.1 (up4.trans up5) os ag
      obtain ⟨oe5, vs5, he5, hz5, hd5⟩ := fl5.there
      have S5 : Inv (X.suite a ((a, oe5) :: (X.pn ++ pins))) [] σ H { s with heap := h5, toks := tk } := (J5.suite he5 hd5 na nL nF).tok _
      refine wpAny_mono ((hsu a oe5 cls d (X.pn ++ pins) hz5 ⟨_, hd5⟩).run [] _ _ H _ S5 (hyes rfl a na)) (fun f s6 z => ?_) fun _ _ z => False.elim z
      cases f with
      | ret u =>
        obtain ⟨v, σ6, H6, S6, r6, q6⟩ := z
        exact ⟨v, σ6, H6, S6.unsuite ok, r6, q6⟩
      | next =>
        obtain ⟨σ6, H6, S6, q6⟩ := z
        exact ⟨σ6, H6, S6.unsuite ok, q6⟩
      | brk =>
        obtain ⟨σ6, H6, S6, q6⟩ := z
        exact ⟨σ6, H6, S6.unsuite ok, q6⟩
      | cont =>
        obtain ⟨σ6, H6, S6, q6⟩ := z
        exact ⟨σ6, H6, S6.unsuite ok, q6⟩
theorem ps_try_tup (hs : X.stack = X.env :: X.outer) (hf : X.env.frame = some X.env.locals) (hb : ∀ (W : WX) (pn : List PO) (xe : Value → Shared → Prop), L2N.Takes (X.tr pn xe) W → PassesOwn (model X.prog X.w) X.A X.env xe → PSs (X.tr pn xe) body (tb W)) (hh : HdsT X (h₀ :: hds) l) :
    PS X (.Try body (h₀ :: hds) [] [] pos) (fun D σ H => tb (wTup X.K D l) D σ H) := by
  refine ⟨fun pins s σ H D I h => ?_⟩
  have ok := I.ok
  have hfr : X.A.frames = some (X.env :: X.outer) := by rw [ok.frames, hs]
  refine wpAny_Try_except (wpAny_mono ((hb (wTup X.K D l) (X.pn ++ pins) (fun e s₁ => wpAny (model X.prog X.w) X.A (noteFrame e X.env) (fun _ s₂ => wpAny (model X.prog X.w) X.A (setFlight e none) (fun _ s₃ => wpAny (model X.prog X.w) X.A (handleBy e X.env (h₀ :: hds)) (SP X pins D) X.xe s₃) X.xe s₂) X.xe s₁)
    (fun u s' xx => ?_) PassesOwn.looking).run [] s σ H D (I.toTry _) h) (fun f s1 z => ?_) fun _ _ z => z)
  · obtain ⟨a, B, sI, pn', σ', H', cls, d, rfl, J', nb, up, sky, na, os, ag, w⟩ := xx
    have J : Inv X pins σ' H' sI := J'.ofTry ok
    have sky' : Sky B (X.env :: X.outer) a (L2N.Zn cls d) X.env.locals s'.heap := by rw [← hs]; exact sky
    refine L2N.Sky.land L2N.Zn.steady hfr hf sky' fun h3 fl3 up3 => ?_
    obtain ⟨oe, vs, he, _, hd⟩ := fl3.there
    have out : a ∉ frs (X.env :: X.outer) := fun hm => by
      obtain ⟨_, o', e', nf⟩ := fl3.2.2.1.mem hm
      rw [he] at e'
      cases e'
      exact nf _ hd
    obtain ⟨g3, gg, gd, gt, go⟩ := s'
    exact tup_clauses ok J nb hs na os ag (fun z => out (List.mem_filterMap.mpr ⟨X.env, List.mem_cons_self, by rw [hf, z]⟩)) (fun hm => by
      obtain ⟨e, he, q⟩ := List.mem_filterMap.mp hm
      exact out (List.mem_filterMap.mpr ⟨e, List.mem_cons_of_mem _ he, q⟩)) hh h3 gt fl3 (up.trans up3) w
  · cases f with
    | ret u =>
      obtain ⟨v, σ', H', J', r, q⟩ := z
      exact ⟨v, σ', H', J'.ofTry ok, r, q⟩
    | next =>
      obtain ⟨σ', H', J', q⟩ := z
      exact wpAny_execs_nil ⟨σ', H', J'.ofTry ok, q⟩
    | brk =>
      obtain ⟨σ', H', J', q⟩ := z
      exact ⟨σ', H', J'.ofTry ok, q⟩
    | cont =>
      obtain ⟨σ', H', J', q⟩ := z
      exact ⟨σ', H', J'.ofTry ok, q⟩
end
end VB
/-! except (A, B, ..) for errors with a field (L2's own) -/
namespace VB
open PySem PySem.Spec PyProof.Rows L2
inductive HdsT2 (X : Cx) : List ExceptHandler → List (List Addr × TSu) → Prop
  | nil : HdsT2 X [] []
  | cons {es : List Expr} {as : List Addr} {ts : TSu} {b₀ : Stmt} {suite : List Stmt} {x1} {np pos' : Pos} {hds : List ExceptHandler} {l : List (List Addr × TSu)} (hl : as.length ≤ sizeLine) (ht : NmsT X es as)
      (hsu : ∀ (a : Addr) (oe : Obj) (cls : Value) (d : Option Addr) (pn : List PO), Zc cls d oe → (∃ vs, oe.data = .fields vs) → PSs (X.suite a ((a, oe) :: pn)) (b₀ :: suite) (ts a cls d)) (r : HdsT2 X hds l) :
      HdsT2 X (.ExceptHandler (some (.Tuple es x1 np)) none (b₀ :: suite) pos' :: hds) ((as, ts) :: l)
section
variable {X : Cx} {body : List Stmt} {h₀ : ExceptHandler} {hds : List ExceptHandler} {l : List (List Addr × TSu)} {pos : Pos} {tb : WX → TS}
/-- the clauses, one after the other, for the landed error a -/
theorem tup_clauses2 {pins : List PO} {σ : L2.St} {H : Hp} {sI s : Shared} {D : Ends} {a : Addr} {B : Heap} {cls : Value} {d : Option Addr} (ok : X.Ok) (J : Inv X pins σ H sI) (nb : ∀ b o, sI.heap.get? b = some o → b ∉ frs X.stack → B.get? b = some o) (hs : X.stack = X.env :: X.outer)
    (na : H a = none) (os : s.os = sI.os) (ag : AllBare s.gens) (nL : a ≠ X.env.locals) (nF : a ∉ X.fs) :
    ∀ {hds : List ExceptHandler} {l : List (List Addr × TSu)}, HdsT2 X hds l → ∀ (h3 : Heap) (tk : Nat), HandSPX.FlyingZ B (X.env :: X.outer) a (Zc cls d) h3 → sI.heap.UpToSlots h3 → wTup X.K D l cls d σ H →
      wpAny (model X.prog X.w) X.A (handleBy (.ref a) X.env hds) (SP X pins D) X.xe { s with heap := h3, toks := tk } := by
  intro hds l hk
  induction hk with
  | nil => exact fun _ _ _ _ w => w.elim
  | @cons es as ts b₀ suite x1 np pos' hds2 l2 hl ht hsu r ih =>
    intro h3 tk fl up w
    obtain ⟨b, hb, hyes, hno⟩ := w
    have J3 : Inv X pins σ H { s with heap := h3 } := J.landed nb fl.1 up os ag
    obtain ⟨oe, vs, he, hz, hd⟩ := fl.there
    have S3 : Inv (X.suite a ((a, oe) :: (X.pn ++ pins))) [] σ H { s with heap := h3, toks := tk } := (J3.suite he hd na nL nF).tok _
    refine wpAny_handleBy_cons (codeAny_handlers_test ?_) (by intro q; cases q)
    refine wpAny_Tuple_spliced (nms_run S3 ht ⟨by rw [List.length_map]; exact hl, ?_⟩)
    show wpAny _ _ (excMatches (.ref a) (.ref h3.objs.size)) _ _ { s with heap := h3.push { cls := .type "tuple", data := .seq (as.map Value.ref).toArray }, toks := tk }
    have kp : ∀ b o, h3.get? b = some o → (h3.push { cls := .type "tuple", data := .seq (as.map Value.ref).toArray }).get? b = some o := fun b o e => Heap.get?_push_of_some _ e
    have tp : (h3.push { cls := .type "tuple", data := .seq (as.map Value.ref).toArray }).get? h3.objs.size = some { cls := .type "tuple", data := .seq (as.map Value.ref).toArray } := Heap.get?_push_size _ rfl
    have fl4 : HandSPX.FlyingZ B (X.env :: X.outer) a (Zc cls d) (h3.push { cls := .type "tuple", data := .seq (as.map Value.ref).toArray }) := by
      obtain ⟨k1, k2, k3, oe', vs', T, oT, ts', he', hz', hd', h1', hb', hne, hT, hdT, h3'⟩ := fl
      exact ⟨fun b o e => kp _ _ (k1 b o e), k2, k3.of_keeps (fun b o e _ => ⟨o, kp b o e, rfl⟩), oe', vs', T, oT, ts', kp _ _ he', hz', hd', h1', hb', hne, kp _ _ hT, hdT, h3'⟩
    have up4 := up.trans (Heap.UpToSlots.of_keeps kp)
    have he4 := kp _ _ he
    generalize h3.push { cls := .type "tuple", data := .seq (as.map Value.ref).toArray } = h4 at kp tp fl4 up4 he4 ⊢
    have LT : PySem.W.Looks (model X.prog X.w) h4 (typeOf (.ref a)) cls := fun A Q E s k q => wpAny_typeOf_ref (k _ _ he4) (by rw [hz.1]; exact q)
    have LM := PySem.W.exm_tupN (M := model X.prog X.w) (J3.kIn.keeps kp) LT tp hb
    refine LM.here ?_
    cases b with
    | false => exact ih h4 tk fl4 up4 (hno rfl)
    | true =>
      refine codeAny_handlers_suite (HandSPX.lands_againZ fl4 fun h5 fl5 up5 => ?_)
      have J5 : Inv X pins σ H { s with heap := h5 } := J.landed nb fl5.1 (up4.trans up5) os ag
      obtain ⟨oe5, vs5, he5, hz5, hd5⟩ := fl5.there
      have S5 : Inv (X.suite a ((a, oe5) :: (X.pn ++ pins))) [] σ H { s with heap := h5, toks := tk } := (J5.suite he5 hd5 na nL nF).tok _
      refine wpAny_mono ((hsu a oe5 cls d (X.pn ++ pins) hz5 ⟨_, hd5⟩).run [] _ _ H _ S5 (hyes rfl a na)) (fun f s6 z => ?_) fun _ _ z => False.elim z
      cases f with
      | ret u =>
        obtain ⟨v, σ6, H6, S6, r6, q6⟩ := z
        exact ⟨v, σ6, H6, S6.unsuite ok, r6, q6⟩
      | next =>
        obtain ⟨σ6, H6, S6, q6⟩ := z
        exact ⟨σ6, H6, S6.unsuite ok, q6⟩
      | brk =>
        obtain ⟨σ6, H6, S6, q6⟩ := z
        exact ⟨σ6, H6, S6.unsuite ok, q6⟩
      | cont =>
        obtain ⟨σ6, H6, S6, q6⟩ := z
        exact ⟨σ6, H6, S6.unsuite ok, q6⟩
theorem ps_try_tup2 (hs : X.stack = X.env :: X.outer) (hf : X.env.frame = some X.env.locals) (hb : ∀ (W : WX) (pn : List PO) (xe : Value → Shared → Prop), Takes (X.tr pn xe) W → PassesOwn (model X.prog X.w) X.A X.env xe → PSs (X.tr pn xe) body (tb W)) (hh : HdsT2 X (h₀ :: hds) l) :
    PS X (.Try body (h₀ :: hds) [] [] pos) (fun D σ H => tb (wTup X.K D l) D σ H) := by
  refine ⟨fun pins s σ H D I h => ?_⟩
  have ok := I.ok
  have hfr : X.A.frames = some (X.env :: X.outer) := by rw [ok.frames, hs]
  refine wpAny_Try_except (wpAny_mono ((hb (wTup X.K D l) (X.pn ++ pins) (fun e s₁ => wpAny (model X.prog X.w) X.A (noteFrame e X.env) (fun _ s₂ => wpAny (model X.prog X.w) X.A (setFlight e none) (fun _ s₃ => wpAny (model X.prog X.w) X.A (handleBy e X.env (h₀ :: hds)) (SP X pins D) X.xe s₃) X.xe s₂) X.xe s₁)
    (fun u s' xx => ?_) PassesOwn.looking).run [] s σ H D (I.toTry _) h) (fun f s1 z => ?_) fun _ _ z => z)
  · obtain ⟨a, B, sI, pn', σ', H', cls, d, rfl, J', nb, up, sky, na, os, ag, w⟩ := xx
    have J : Inv X pins σ' H' sI := J'.ofTry ok
    have sky' : Sky B (X.env :: X.outer) a (Zc cls d) X.env.locals s'.heap := by rw [← hs]; exact sky
    refine Sky.land Zc.steady hfr hf sky' fun h3 fl3 up3 => ?_
    obtain ⟨oe, vs, he, _, hd⟩ := fl3.there
    have out : a ∉ frs (X.env :: X.outer) := fun hm => by
      obtain ⟨_, o', e', nf⟩ := fl3.2.2.1.mem hm
      rw [he] at e'
      cases e'
      exact nf _ hd
    obtain ⟨g3, gg, gd, gt, go⟩ := s'
    exact tup_clauses2 ok J nb hs na os ag (fun z => out (List.mem_filterMap.mpr ⟨X.env, List.mem_cons_self, by rw [hf, z]⟩)) (fun hm => by
      obtain ⟨e, he, q⟩ := List.mem_filterMap.mp hm
      exact out (List.mem_filterMap.mpr ⟨e, List.mem_cons_of_mem _ he, q⟩)) hh h3 gt fl3 (up.trans up3) w
  · cases f with
    | ret u =>
      obtain ⟨v, σ', H', J', r, q⟩ := z
      exact ⟨v, σ', H', J'.ofTry ok, r, q⟩
    | next =>
      obtain ⟨σ', H', J', q⟩ := z
      exact wpAny_execs_nil ⟨σ', H', J'.ofTry ok, q⟩
    | brk =>
      obtain ⟨σ', H', J', q⟩ := z
      exact ⟨σ', H', J'.ofTry ok, q⟩
    | cont =>
      obtain ⟨σ', H', J', q⟩ := z
      exact ⟨σ', H', J'.ofTry ok, q⟩
end
end VB
/-! records of octets -/
namespace K12
open PySem PySem.Spec PyProof.Rows L2 VB BM
/-- a record moved, with another until -/
def mvd (r : Rc) (u : Int) : Rc := match r with
  | .node d _ _ n w s c _ => .node d 0 0 n w s c u
  | .name d _ _ dir nm n _ => .name d 0 0 dir nm n u
  | .chunk d _ _ n ix os _ => .chunk d 0 0 n ix os u
  | .keep d _ _ nm b _ => .keep d 0 0 nm b u
  | r => r
theorem in12 (k : Nat) : inV (V.int (k : Int)) [V.int 1, .int 2] = (decide (k = 1) || decide (k = 2)) := by
  rw [Bool.eq_iff_iff]
  simp [inV, eqV]
  omega
theorem tup_shaped (xs : List Int) : SeqAt.shaped (.tuple (xs.map .int)) = true := by
  unfold SeqAt.shaped
  rw [Bool.and_eq_true]
  exact ⟨by simp [PyData.canLay0, lay_ints], by simp [PyData.depth, dep_ints]⟩
theorem tup_eqv (xs ys : List Int) : PyData.eqv (.tuple (xs.map .int)) (.tuple (ys.map .int)) = decide (xs = ys) := by
  rw [PyData.eqv, ev_ints]
theorem mvd_f {r : Rc} {u : Int} (h2 : 2 ≤ r.ix) (g : Good r) (hu : Until r.dd 0 u) : (mvd r u).ix = r.ix ∧ (mvd r u).dd = r.dd ∧ (mvd r u).aa = 0 ∧ (mvd r u).oo = 0 ∧ (mvd r u).uu = u ∧ (∀ t, facV t (mvd r u) = facV t r) ∧ (∀ (H : Hp) (t : V), OcT H t r → OcT H t (mvd r u)) ∧ Good (mvd r u) := by
  have st := (dd_ok h2 g).1
  have s0 : ∀ d : Int, d = r.dd → Stamp d 0 0 := fun d e => ⟨by rw [e]; exact st.1, by rw [e]; exact st.2.1, by decide, by decide, by decide, by decide⟩
  cases r with
  | head => exact absurd (show 2 ≤ 0 from h2) (by decide)
  | sl => exact absurd (show 2 ≤ 1 from h2) (by decide)
  | node d a o n w s c u' => exact ⟨rfl, rfl, rfl, rfl, rfl, fun _ => rfl, fun _ _ h => h, s0 _ rfl, g.2.1, g.2.2.1, g.2.2.2.1, g.2.2.2.2.1, g.2.2.2.2.2.1, g.2.2.2.2.2.2.1, g.2.2.2.2.2.2.2.1, g.2.2.2.2.2.2.2.2.1, hu⟩
  | name d a o dir nm n u' => exact ⟨rfl, rfl, rfl, rfl, rfl, fun _ => rfl, fun _ _ h => h, s0 _ rfl, g.2.1, g.2.2.1, g.2.2.2.1, g.2.2.2.2.1, g.2.2.2.2.2.1, g.2.2.2.2.2.2.1, hu⟩
  | chunk d a o n ix os u' => exact ⟨rfl, rfl, rfl, rfl, rfl, fun _ => rfl, fun _ _ h => h, s0 _ rfl, g.2.1, g.2.2.1, g.2.2.2.1, g.2.2.2.2.1, g.2.2.2.2.2.1, g.2.2.2.2.2.2.1, hu⟩
  | keep d a o nm b u' => exact ⟨rfl, rfl, rfl, rfl, rfl, fun _ => rfl, fun _ _ h => h, s0 _ rfl, g.2.1, hu⟩
section
variable {P : Program} {w : World} {K : PySem.W.Frag} {mg : Str → Option Value} {base : Heap} {f : Addr} {fd : FuncData} {fN fM : Addr}
theorem num_te {σ : List (Option V)} {p : Addr} {cs : List Nat} {H : Hp} {Q : VK} (i j : Nat) (hs : σ[0]? = some (some (.ref p))) (hp : H p = some (.tup (IN cs))) (h30 : O30 cs) (hi : 0 < i) (hij : i ≤ j) (h4 : j - i ≤ 4) (q : ∀ H', Evl.Ex H H' → Q (.int (num cs i (j - i))) H') :
    tCall (spNumT K) [] E0 (tCons (tSl (rSlU K) (tVar 0) (tPart (tC (V.int (i : Int)))) (tPart (tC (V.int (j : Int))))) tNil) σ H Q := by
  refine ⟨_, hs, _, rfl, _, rfl, .inr (.inl ⟨p, _, rfl, SqT.of hp, fun z => sx_ne hi (by rw [iv_len, List.length_map, h30.1]; decide) z.1, fun l nl => ?_⟩)⟩
  exact ⟨l, sl cs i (j - i), true, rfl, Sv.tup (by rw [upd_same, in_cut hij]), sl_oct h30.2 _ _, by rw [List.length_map, List.length_take]; omega, fun H' e => q H' ((Evl.Ex.new nl).trans e)⟩
def spSeemR (K : PySem.W.Frag) : Sp := fun vs H Q E => ∃ (p : Addr) (cs : List Nat), vs = [.ref p] ∧ H p = some (.tup (IN cs)) ∧ O30 cs ∧ (rawR cs = none → RV .non H Q) ∧
  (∀ r, rawR cs = some r → (Good r → ∀ (a : Addr) (H' : Hp), Evl.Ex H H' → RecAt K H' a r → Q (.ref a) H') ∧ (¬ Good r → Rf K H E))
theorem ok_seemR (T : Txt K mg) (F : FnP K "_seeming_record" s__seeming_record f fd) (C_number_told_by : Cal P w K mg base CX0 1 "number_told_by" ["octets"] (spNumT K)) (C__seeming_fact : Cal P w K mg base CX0 3 "_seeming_fact" ["kind", "octets"] spSeemF)
    (N_Head : Mak P w K mg base (CX P w) 7 "Head" (Kl K 0) ["self", "seq", "tail", "is_cleaning"] (spIni K 0)) (N_Seal : Mak P w K mg base (CX P w) 7 "Seal" (Kl K 1) ["self", "tail", "count"] (spIni K 1)) (C_record_of : Cal P w K mg base (CX P w) 9 "record_of" ["fact", "deed", "at", "of", "until"] (spRecOf K)) :
    Fg P w K mg base (CX P w) 10 f fd ["octets"] (spSeemR K) := by
  refine fg_of F sc__seeming_record (fun vs H Q E h => ?_) (fun cdv A outer s H vs Q E hr h => ⟨_, ((pss_cons (ps_set (i := 1) sc__seeming_record.nd rfl (by first | exact Or.inl rfl | exact Or.inr rfl) (pe_ix (u_ix (K := K)) (pv 0) pe_int (fun _ _ => rfl)))
  (pss_cons (ps_if (pt_cmpR (u_in (K := K)) (pv 1) (pe_tup (pa_cons (pe_globI rfl T.g_HEAD_KIND) (pa_cons (pe_globI rfl T.g_CLEANING_KIND) pa_nil))) (by rfl))
  (pss_one (ps_ret (pe_mak N_Head hr.le (passes_call (takes_of rfl rfl rfl rfl) (fun _ _ _ _ h => h)) (pa_cons (pe_cal C_number_told_by hr.le pass0 (pa_cons (pe_slice (u_sl (K := K)) (pv 0) (po_some pe_int) (po_some pe_int)) pa_nil)) (pa_cons (pe_cal C_number_told_by hr.le pass0 (pa_cons (pe_slice (u_sl (K := K)) (pv 0) (po_some pe_int) (po_some pe_int)) pa_nil)) (pa_cons (pe_cmpR (u_eq (K := K) hr) (pv 1) (pe_globI rfl T.g_CLEANING_KIND) (nomark _)) pa_nil)))))) pss_nil)
  (pss_cons (ps_if (pt_cmpR (u_eq (K := K) hr) (pv 1) (pe_globI rfl T.g_SEAL_KIND) (nomark _))
  (pss_one (ps_ret (pe_mak N_Seal hr.le (passes_call (takes_of rfl rfl rfl rfl) (fun _ _ _ _ h => h)) (pa_cons (pe_cal C_number_told_by hr.le pass0 (pa_cons (pe_slice (u_sl (K := K)) (pv 0) (po_some pe_int) (po_some pe_int)) pa_nil)) (pa_cons (pe_ix (u_ix (K := K)) (pv 0) pe_int (fun _ _ => rfl)) pa_nil))))) pss_nil)
  (pss_cons (ps_set (i := 2) sc__seeming_record.nd rfl (by first | exact Or.inl rfl | exact Or.inr rfl) (pe_cal C__seeming_fact hr.le pass0 (pa_cons (pv 1) (pa_cons (pe_slice (u_sl (K := K)) (pv 0) (po_some (pe_globI rfl T.g_FACT_PLACE)) (po_some (pe_globI rfl T.g_UNTIL_PLACE))) pa_nil))))
  (pss_cons (ps_if (pt_cmpR op_isN (pv 2) pe_non (nomark _))
  (pss_one (ps_ret pe_non)) pss_nil)
  (pss_one (ps_ret (pe_cal C_record_of hr.le (passes_call (takes_of rfl rfl rfl rfl) (fun _ _ _ _ h => h)) (pa_cons (pv 2) (pa_cons (pe_cal C_number_told_by hr.le pass0 (pa_cons (pe_slice (u_sl (K := K)) (pv 0) (po_some pe_int) (po_some pe_int)) pa_nil)) (pa_cons (pe_ix (u_ix (K := K)) (pv 0) pe_int (fun _ _ => rfl)) (pa_cons (pe_ix (u_ix (K := K)) (pv 0) pe_int (fun _ _ => rfl)) (pa_cons (pe_cal C_number_told_by hr.le pass0 (pa_cons (pe_slice (u_sl (K := K)) (pv 0) (po_some (pe_globI rfl T.g_UNTIL_PLACE)) po_none) pa_nil)) pa_nil)))))))))))))), ?_⟩)
  · obtain ⟨p, cs, rfl, _⟩ := h
    rfl
  · obtain ⟨p, cs, rfl, hp, h30, q0, q⟩ := h
    have hk0 : atI (IN cs) 0 = some (.int (oc cs 0)) := in_at (i := 0) (by rw [h30.1]; decide)
    have rf := Evl.Ex.refl H
    refine ⟨_, rfl, Sv.ix (x := .non) (Sv.tup hp) hk0 ?_⟩
    refine ⟨_, rfl, by show 2 ≤ sizeLine; decide, fun tp ntp => ⟨tp, _, rfl, .inr (SqT.of upd_same), rfl, rfl, _, rfl, ?_⟩⟩
    have y := Evl.Ex.new (o := .tup [V.int 1, .int 2]) ntp
    generalize upd H tp (.tup [V.int 1, .int 2]) = H1 at y ⊢
    obtain ⟨k, hk⟩ : ∃ k, cs.getD 0 0 = k := ⟨_, rfl⟩
    have ek : oc cs 0 = (k : Int) := congrArg Nat.cast hk
    show if inV (V.int (oc cs 0)) [V.int 1, .int 2] = true then _ else _
    rw [ek, in12]
    have kd : ∀ n : Nat, decide (V.int (k : Int) = V.int (n : Int)) = decide (k = n) := fun n => decide_eq_decide.mpr ⟨fun h => by have := V.int.inj h; omega, fun h => by rw [h]⟩
    have fin : ∀ (r : Rc) (H2 : Hp), rawR cs = some r → Evl.Ex H H2 → (Good r → ∀ (a : Addr) (H' : Hp), Evl.Ex H2 H' → RecAt K H' a r → Q (.ref a) H') ∧ (¬ Good r → Rf K H2 E) := fun r H2 er e => ⟨fun g a H' e' ra => (q r er).1 g a H' (e.trans e') ra, fun n => ((q r er).2 n).ex e⟩
    have noc : ∀ (r : Rc) (H' : Hp), r.ix ≠ 4 → OcL H' .non r := fun r H' h d a o n ix os u e => absurd (show r.ix = 4 by rw [e]; rfl) h
    by_cases k12 : k = 1 ∨ k = 2
    · rw [show (decide (k = 1) || decide (k = 2)) = true by rcases k12 with h | h <;> subst h <;> rfl]
      have er : rawR cs = some (.head (num cs 1 4) (num cs 5 4) (decide (k = 2))) := by
        rcases k12 with h | h <;> subst h <;> (unfold rawR; rw [hk]; rfl)
      refine iteT (num_te 1 5 rfl (y _ _ hp) h30 (by decide) (by decide) (by decide) fun H2 e2 => num_te 5 9 rfl ((y.trans e2) _ _ hp) h30 (by decide) (by decide) (by decide) fun H3 e3 => ⟨_, rfl, .inl ⟨rfl, ?_⟩⟩)
      show tNil _ _ _
      have f := fin _ H3 er (y.trans (e2.trans e3))
      refine mk_any (i := 0) (t := .non) (r := .head (num cs 1 4) (num cs 5 4) (decide (k = 2))) (Z := fun a H => Q (.ref a) H) ?_ rfl (noc _ _ (by show (0 : Nat) ≠ 4; decide)) (raw_lo h30 er) f.1 f.2
      show [V.int (num cs 1 4), .int (num cs 5 4), .bl (decide (V.int (k : Int) = V.int ((2 : Nat) : Int)))] = _
      rw [kd 2]
      rfl
    · rw [show (decide (k = 1) || decide (k = 2)) = false by rw [decide_eq_false (fun h => k12 (.inl h)), decide_eq_false (fun h => k12 (.inr h))]; rfl]
      refine iteF ⟨_, rfl, .inl ⟨rfl, _, rfl, ?_⟩⟩
      show if decide (V.int (k : Int) = V.int ((3 : Nat) : Int)) = true then _ else _
      rw [kd 3]
      by_cases k3 : k = 3
      · rw [decide_eq_true k3]
        subst k3
        have er : rawR cs = some (.sl (num cs 1 4) (oc cs 5)) := by unfold rawR; rw [hk]; rfl
        refine iteT (num_te 1 5 rfl (y _ _ hp) h30 (by decide) (by decide) (by decide) fun H2 e2 => ⟨_, rfl, Sv.ix (x := .non) (Sv.tup ((y.trans e2) _ _ hp)) (in_at (i := 5) (by rw [h30.1]; decide)) ?_⟩)
        have f := fin _ H2 er (y.trans e2)
        exact mk_any (i := 1) (t := .non) (r := .sl (num cs 1 4) (oc cs 5)) (Z := fun a H => Q (.ref a) H) rfl rfl (noc _ _ (by show (1 : Nat) ≠ 4; decide)) (raw_lo h30 er) f.1 f.2
      · rw [decide_eq_false k3]
        refine iteF ⟨_, rfl, _, rfl, _, rfl, _, rfl, .inr (.inl ⟨p, _, rfl, SqT.of (y _ _ hp), fun z => sx_ne (i := 7) (by decide) (by rw [iv_len, List.length_map, h30.1]; decide) z.1, fun l nl => ?_⟩)⟩
        have yl := Evl.Ex.new (o := .tup (cutV (IN cs) (some 7) (some 26))) nl
        have c7 : cutV (IN cs) (some 7) (some 26) = IV (sl cs 7 19) := in_cut (i := 7) (j := 26) (by decide)
        refine ⟨l, k, cs, rfl, by rw [upd_same, c7], h30, hk, ⟨fun h => k12 (.inl h), fun h => k12 (.inr h), k3⟩, fun en H2 e2 => ?_, fun r er q1 t H2 e2 hq1 hot => ?_⟩
        · exact ⟨_, rfl, rfl, _, rfl, iteT (q0 en H2 ((y.trans yl).trans e2))⟩
        · have E2 := (y.trans yl).trans e2
          have r2 : 2 ≤ r.ix := by
            unfold rawR at er
            rw [hk] at er
            split at er <;> first | (exfalso; omega) | (cases er; simp [Rc.ix]; done) | (cases er)
          have rw_ : r.dd = num cs 1 4 ∧ r.aa = oc cs 5 ∧ r.oo = oc cs 6 ∧ r.uu = num cs 26 4 := by
            have er := er
            unfold rawR at er
            rw [hk] at er
            split at er <;> first | (exfalso; omega) | (cases er; exact ⟨rfl, rfl, rfl, rfl⟩) | (cases er)
          obtain ⟨w1, w2, w3, w4⟩ := rw_
          refine ⟨_, rfl, rfl, _, rfl, iteF ⟨_, rfl, num_te 1 5 rfl (E2 _ _ hp) h30 (by decide) (by decide) (by decide) fun H3 e3 => ⟨_, rfl, Sv.ix (x := .non) (Sv.tup ((E2.trans e3) _ _ hp)) (in_at (i := 5) (by rw [h30.1]; decide)) ⟨_, rfl, Sv.ix (x := .non) (Sv.tup ((E2.trans e3) _ _ hp)) (in_at (i := 6) (by rw [h30.1]; decide)) ⟨_, rfl, _, rfl, .inr (.inl ⟨p, _, rfl, SqT.of ((E2.trans e3) _ _ hp), fun z => sx_ne (i := 26) (by decide) (by rw [iv_len, List.length_map, h30.1]; decide) z.1, fun l2 nl2 => ?_⟩)⟩⟩⟩⟩⟩
          have y2 := Evl.Ex.new (o := .tup (cutV (IN cs) (some 26) none)) nl2
          have c26 : cutV (IN cs) (some 26) none = IV (sl cs 26 4) := by
            rw [show (26 : Int) = ((26 : Nat) : Int) from rfl, cut_d]
            unfold IV sl
            rw [← List.map_drop, ← List.map_drop, List.take_of_length_le (by rw [List.length_drop, h30.1]; decide)]
          refine ⟨l2, sl cs 26 4, true, rfl, Sv.tup (by rw [upd_same, c26]), sl_oct h30.2 _ _, by rw [List.length_map, List.length_take]; omega, fun H4 e4 => ?_⟩
          have E4 := (E2.trans e3).trans (y2.trans e4)
          have f := fin r H4 er E4
          have e24 := e3.trans (y2.trans e4)
          refine ⟨q1, t, r, ?_, r2, e24 _ _ hq1, (hot.ex e24).l, raw_lo h30 er, f.1, f.2⟩
          rw [w1, w2, w3, w4]
          rfl
def Due (cs : List Nat) (r : Rc) : Prop := rawR cs = some r ∧ Good r ∧ octs r = cs.map Int.ofNat
def spRecT (K : PySem.W.Frag) : Sp := fun vs H Q _ => ∃ (p : Addr) (cs : List Nat), vs = [.ref p] ∧ H p = some (.tup (IN cs)) ∧ O30 cs ∧ ((¬ ∃ r, Due cs r) → RV .non H Q) ∧
  (∀ r, Due cs r → ∀ (a : Addr) (H' : Hp), Evl.Ex H H' → RecAt K H' a r → Q (.ref a) H')
theorem ok_recT (T : Txt K mg) (E_InvalidNumber : MkE P w K mg base "InvalidNumber" "given" (Er K "InvalidNumber") fN) (E_InvalidName : MkE P w K mg base "InvalidName" "given" (Er K "InvalidName") fM)
    (xN : PySem.W.exmAny K (.ref (Er K "InvalidNumber")) [.ref (Er K "InvalidNumber"), .ref (Er K "InvalidName")] = some true) (xM : PySem.W.exmAny K (.ref (Er K "InvalidName")) [.ref (Er K "InvalidNumber"), .ref (Er K "InvalidName")] = some true)
    (F : FnP K "record_told_by" s_record_told_by f fd) (C__seeming_record : Cal P w K mg base (CX P w) 10 "_seeming_record" ["octets"] (spSeemR K)) (C_written : Cal P w K mg base CX0 3 "written" ["record"] (spWr K)) :
    Fg P w K mg base CX0 11 f fd ["octets"] (spRecT K) := by
  refine fg_of F sc_record_told_by (fun vs H Q E h => ?_) (fun cdv A outer s H vs Q E hr h => ⟨_, (PSs.nox (pss_cons (ps_try_tup2 rfl rfl (fun W pn xe tk pa => pss_one (ps_set (i := 1) sc_record_told_by.nd rfl (by first | exact Or.inl rfl | exact Or.inr rfl) (pe_calS C__seeming_record hr.le (passAt tk) (pa_cons (pv 0) pa_nil))))
      (.cons (ts := fun _ _ _ => tRet (tC .non)) (as := [Er K "InvalidNumber", Er K "InvalidName"]) (by show 2 ≤ sizeLine; decide) (.cons rfl E_InvalidNumber.err.gC rfl rfl (.cons rfl E_InvalidName.err.gC rfl rfl .nil)) (fun a oe cls d pn hz hv => pss_one (ps_ret pe_non)) .nil))
    (pss_cons (ps_if (PW.pt (pw_or (pt_cmpR op_isN (pv 1) pe_non (nomark _)) (pw_or1 (pt_cmpR (u_ne (K := K) hr) (pe_cal C_written hr.le pass0 (pa_cons (pv 1) pa_nil)) (pv 0) (nomark _))))) (pss_one (ps_ret pe_non)) pss_nil) (pss_one (ps_ret (pv 1)))))), ?_⟩)
  · obtain ⟨p, cs, rfl, _⟩ := h
    rfl
  · obtain ⟨p, cs, rfl, hp, h30, q0, q⟩ := h
    have cat : ∀ (x : Str) (v : V) (W : WX) (σ : List (Option V)) (D : Ends), D.rt = Q → PySem.W.exmAny K (.ref (Er K x)) [.ref (Er K "InvalidNumber"), .ref (Er K "InvalidName")] = some true → RV .non H Q → W = wTup K D [([Er K "InvalidNumber", Er K "InvalidName"], fun _ _ _ => tRet (tC V.non))] → Rz K x v H (WE W σ) := by
      intro x v W σ D eD hx qn eW d H' e nd
      subst eW
      refine ⟨true, hx, fun _ a na => ?_, fun z => by cases z⟩
      show D.rt .non _
      rw [eD]
      exact qn _ (e.trans (Evl.Ex.new nd))
    refine ⟨_, rfl, p, cs, rfl, hp, h30, fun en H1 e1 => ?_, fun r er => ⟨fun g a H1 e1 ra => ?_, fun ng v => ?_⟩⟩
    · exact ⟨_, rfl, rfl, _, rfl, iteT (q0 (fun ⟨r, h, _⟩ => by rw [en] at h; cases h) H1 e1)⟩
    · refine ⟨_, rfl, rfl, _, rfl, iteF ⟨_, rfl, a, r, rfl, g, ra, fun p2 H2 e2 h2 => ⟨_, rfl, .inr ⟨.tuple ((octs r).map .int), .tuple ((cs.map Int.ofNat).map .int), .tup (SqT.of h2) (dp_ints _), .tup (SqT.of ((e1.trans e2) _ _ hp)) (dp_ints _), tup_shaped _, tup_shaped _, _, rfl, ?_⟩⟩⟩⟩
      rw [tup_eqv]
      by_cases eo : octs r = cs.map Int.ofNat
      · rw [decide_eq_true eo]
        exact iteF ⟨_, rfl, q r ⟨er, g, eo⟩ a H2 (e1.trans e2) (ra.ex e2)⟩
      · rw [decide_eq_false eo]
        refine iteT (q0 (fun ⟨r', h, _, h3⟩ => eo ?_) H2 (e1.trans e2))
        rw [er] at h
        cases h
        exact h3
    · have qn : RV .non H Q := q0 fun ⟨r', h, g, _⟩ => ng (by rw [er] at h; cases h; exact g)
      exact ⟨cat _ _ _ _ _ rfl xN qn rfl, cat _ _ _ _ _ rfl xM qn rfl⟩
def spRead (K : PySem.W.Frag) : Sp := fun vs H Q _ => ∃ (p : Addr) (t : Bool) (cs : List Nat), vs = [.ref p] ∧ Sv t K H p (IN cs) ∧ (t = true → H p = some (.tup (IN cs))) ∧ O30 cs ∧ ((¬ ∃ r, Due cs r) → RV .non H Q) ∧
  (∀ r, Due cs r → ∀ (a : Addr) (H' : Hp), Evl.Ex H H' → RecAt K H' a r → Q (.ref a) H')
theorem ok_read (T : Txt K mg) (F : FnP K "read_record" s_read_record f fd) (C_is_octets_of : Cal P w K mg base CX0 3 "is_octets_of" ["value", "count"] (spOctOf K)) (C_record_told_by : Cal P w K mg base CX0 11 "record_told_by" ["octets"] (spRecT K)) :
    Fg P w K mg base CX0 12 f fd ["data"] (spRead K) := by
  refine fg_of F sc_read_record (fun vs H Q E h => ?_) (fun cdv A outer s H vs Q E hr h => ⟨_, (PSs.nox (pss_cons (ps_if (pt_not (pt_tru (K := K) (pe_cal C_is_octets_of hr.le pass0 (pa_cons (pv 0) (pa_cons (pe_globI rfl T.g_DATA_OCTETS) pa_nil))) (by intro _; rfl)))
  (pss_one ps_never) pss_nil)
  (pss_one (ps_ret (pe_cal C_record_told_by hr.le pass0 (pa_cons (pe_callTy (u_tup (K := K)) (by rfl) T.f_tuple (by decide +kernel) (pa_cons (pv 0) pa_nil)) pa_nil)))))), ?_⟩)
  · obtain ⟨p, t, cs, rfl, _⟩ := h
    rfl
  · obtain ⟨p, t, cs, rfl, S, st, h30, q0, q⟩ := h
    have oo : Oct (cs.map Int.ofNat) := fun z hz => by
      obtain ⟨x, hx, rfl⟩ := List.mem_map.mp hz
      have := h30.2 x hx
      show 0 ≤ (x : Int) ∧ (x : Int) ≤ 255
      omega
    refine ⟨_, rfl, p, cs.map Int.ofNat, t, 30, rfl, S, oo, by rw [List.length_map, h30.1]; decide, by rw [List.length_map, h30.1]; rfl, fun H1 e1 => ⟨true, rfl, iteF ?_⟩⟩
    cases t with
    | true =>
      have hp := st rfl
      exact ⟨_, rfl, p, _, rfl, .inr ⟨SqT.of (e1 _ _ hp), p, cs, rfl, e1 _ _ hp, h30, fun n H2 e2 => q0 n H2 (e1.trans e2), fun r d a H2 e2 ra => q r d a H2 (e1.trans e2) ra⟩⟩
    | false =>
      refine ⟨_, rfl, p, _, rfl, .inl ⟨S.ex e1, fun l nl => ?_⟩⟩
      have y := e1.trans (Evl.Ex.new (o := .tup (IN cs)) nl)
      exact ⟨l, cs, rfl, upd_same, h30, fun n H2 e2 => q0 n H2 (y.trans e2), fun r d a H2 e2 ra => q r d a H2 (y.trans e2) ra⟩
def spMoved (K : PySem.W.Frag) : Sp := fun vs H Q _ => ∃ (a : Addr) (r : Rc) (u : Int), vs = [.ref a, .int u] ∧ 2 ≤ r.ix ∧ RecAt K H a r ∧ Good r ∧ Until r.dd 0 u ∧ ∀ (b : Addr) (H' : Hp), Evl.Ex H H' → RecAt K H' b (mvd r u) → Q (.ref b) H'
theorem ok_moved (T : Txt K mg) (R : Rk K) (F : FnP K "moved" s_moved f fd) (C_is_tree_record : Cal P w K mg base CX0 1 "is_tree_record" ["value"] (spTree K)) (C_record_of : Cal P w K mg base (CX P w) 9 "record_of" ["fact", "deed", "at", "of", "until"] (spRecOf K)) (M_fact : FctM P w K mg base) :
    Fg P w K mg base CX0 10 f fd ["record", "until"] (spMoved K) := by
  refine fg_of F sc_moved (fun vs H Q E h => ?_) (fun cdv A outer s H vs Q E hr h => ⟨_, (PSs.nox (pss_cons (ps_if (pt_not (pt_tru (K := K) (pe_cal C_is_tree_record hr.le pass0 (pa_cons (pv 0) pa_nil)) (by intro _; rfl)))
  (pss_one ps_never) pss_nil)
  (pss_one (ps_ret (pe_cal C_record_of hr.le (passes_call takes_no (fun _ _ _ _ h => h)) (pa_cons (PE.any fun i hi => pe_calM0 (M_fact i hi) hr.le pass0 (pv 0)) (pa_cons (pe_fldU (K := K) (pv 0) rfl) (pa_cons pe_int (pa_cons pe_int (pa_cons (pv 1) pa_nil)))))))))), ?_⟩)
  · obtain ⟨a, r, u, rfl, _⟩ := h
    rfl
  · obtain ⟨a, r, u, rfl, h2, ra, g, hu, q⟩ := h
    obtain ⟨dx, t, ea, oc⟩ := id ra
    have c := R.cls r.ix (ix_lt r)
    have n := R.no r.ix (ix_lt r)
    obtain ⟨⟨⟨l1, l2⟩, l3, l4⟩, lf, _⟩ := fld4 (t := t) h2
    obtain ⟨⟨n1, n2⟩, n3, n4⟩ := nam4 h2
    obtain ⟨m1, m2, m3, m4, m5, m6, m7, m8⟩ := mvd_f (u := u) h2 g hu
    refine ⟨_, rfl, a, r, rfl, h2, ra, fun H1 e1 => ⟨true, rfl, iteF ?_⟩⟩
    refine ⟨r.ix, ⟨h2, ix_lt r⟩, _, rfl, a, dx, _, rfl, e1 _ _ ea, lf, a, dx, t, r, rfl, rfl, e1 _ _ ea, fun pf H2 np e2 hf => ?_⟩
    have e12 := e1.trans e2
    refine ⟨_, rfl, a, _, dx, _, _, rfl, e12 _ _ ea, c, n _ n1, l1, _, rfl, pf, t, mvd r u, ?_, by rw [m1]; exact h2, by rw [hf, m6], (m7 _ _ (oc.ex e12)).l, m8.lo, fun _ b H3 e3 rb => q b H3 (e12.trans e3) rb, fun ng => absurd m8 ng⟩
    rw [m2, m3, m4, m5]
    rfl
end
end K12
/-! good rows -/
namespace K12
open PySem PySem.Spec PyProof.Rows L2 VB BM
/-- a word's signs -/
def Wd (x : Str) : Prop := x.cps.size ≤ 1000 ∧ ∀ c ∈ x.cps.toList, isL c = true ∨ c = 45
/-- what a row of octets keeps to -/
def Lw : Rc → Prop
  | .node d a o n w s c u => n ≤ 65535
  | .name d a o dir nm n u => dir ≤ 65535 ∧ n ≤ 65535 ∧ Wd nm
  | .chunk d a o n ix os u => n ≤ 65535
  | .keep d a o nm _ u => Wd nm
  | _ => True
theorem nm_wd {x : Str} (h : Wd x) : Nm x ↔ (1 ≤ x.cps.size ∧ x.cps.size ≤ 8) ∧ 45 ∉ x.cps.toList := by
  constructor
  · rintro ⟨h1, h2, h3⟩
    exact ⟨⟨h1, h2⟩, fun z => by have := h3 45 z; omega⟩
  · rintro ⟨⟨h1, h2⟩, h3⟩
    refine ⟨h1, h2, fun c hc => ?_⟩
    rcases h.2 c hc with z | z
    · exact isL_iff.mp z
    · subst z
      exact absurd hc h3
section
variable {P : Program} {w : World} {K : PySem.W.Frag} {mg : Str → Option Value} {base : Heap} {f : Addr} {fd : FuncData}
abbrev gd3' (K : PySem.W.Frag) : TS := (tIfS (tOr (tTest (tOp (rI0 fun i j => V.bl (decide (i < j))) (tOp (rIx K) (tVar 0) (tC (V.int 1))) (tC (V.int 1)))) (tOr (tTest (tOp (rI0 fun i j => V.bl (decide (j < i))) (tOp (rIx K) (tVar 0) (tC (V.int 3))) (tC (V.int 6)))) (tNot (tOr (tTest (tOp (rI0 fun i j => V.bl (decide (i < j))) (tOp (rIx K) (tVar 0) (tC (V.int 2))) (tOp (rIx K) (tVar 0) (tC (V.int 3))))) (tAnd (tTest (tOp (rEqU K) (tOp (rIx K) (tVar 0) (tC (V.int 2))) (tC (V.int 0)))) (tTest (tOp (rEqU K) (tOp (rIx K) (tVar 0) (tC (V.int 3))) (tC (V.int 0))))))))) (tRet (tC (V.bl false))) tNext)
theorem gd34' {REST : TS} {D : Ends} {Q : VK} {l : Addr} {xs : List V} {d a o u : Int} {H : Hp} (eD : D.rt = Q) (h : H l = some (.lst xs)) (e1 : atI xs 1 = some (.int d)) (e2 : atI xs 2 = some (.int a)) (e3 : atI xs 3 = some (.int o)) (eu : atI xs (-1) = some (.int u))
    (md : M32 d) (ma : M32 a) (mo : M32 o) (mu : M32 u) (qf : ¬ (Stamp d a o ∧ Until d o u) → Q (.bl false) H) (k : Stamp d a o → Until d o u → REST D [some (.ref l)] H) : (tSeq (gd3' K) (tSeq (gd4 K) REST)) D [some (.ref l)] H := by
  subst eD
  have neg : ∀ {Q' : VK}, Q' (.int u) H → tOp (rIx K) (tVar 0) (tUn (rU fun i => V.int (-i)) (tC (V.int 1))) [some (.ref l)] H Q' := fun q => ⟨_, rfl, _, rfl, Sv.ix (x := .non) (Sv.lst h) eu q⟩
  have p4 : Stamp d a o → tSeq (gd4 K) REST D [some (.ref l)] H := fun st => by
    refine neg (.inl ⟨rfl, _, rfl, ?_⟩)
    rw [dki]
    by_cases uz : u = 0
    · rw [decide_eq_true uz]
      exact iteF (iteF (k st (.inl uz)))
    · rw [decide_eq_false uz]
      refine iteT (r_ix rfl h e3 ⟨_, _, rfl, rfl, _, rfl, ?_⟩)
      by_cases oz : 0 < o
      · rw [decide_eq_true oz]
        exact iteT (iteT (qf fun z => by rcases z.2 with z | z <;> omega))
      · rw [decide_eq_false oz]
        refine iteF (neg (r_ix rfl h e1 ⟨_, _, rfl, rfl, _, rfl, ?_⟩))
        by_cases ud : u ≤ d
        · rw [decide_eq_true ud]
          exact iteT (qf fun z => by rcases z.2 with z | z <;> omega)
        · rw [decide_eq_false ud]
          exact iteF (k st (.inr ⟨by omega, by omega, mu.2⟩))
  refine r_ix rfl h e1 ⟨_, _, rfl, rfl, _, rfl, ?_⟩
  by_cases d1 : d < 1
  · rw [decide_eq_true d1]
    exact iteT (iteT (qf fun z => by have := z.1.1; omega))
  rw [decide_eq_false d1]
  refine iteF (r_ix rfl h e3 ⟨_, _, rfl, rfl, _, rfl, ?_⟩)
  by_cases o6 : 6 < o
  · rw [decide_eq_true o6]
    exact iteT (iteT (qf fun z => by have := z.1.2.2.2.2.2; omega))
  rw [decide_eq_false o6]
  refine iteF ?_
  refine r_ix rfl h e2 (r_ix rfl h e3 ⟨_, _, rfl, rfl, _, rfl, ?_⟩)
  have a0 := ma.1
  have o0 := mo.1
  by_cases ao : a < o
  · rw [decide_eq_true ao]
    exact iteT (iteF (p4 ⟨by omega, md.2, ma.1, by omega, by split <;> omega, by omega⟩))
  · rw [decide_eq_false ao]
    refine iteF (r_eqT rfl h e2 rfl ?_)
    rw [dki]
    by_cases az : a = 0
    · rw [decide_eq_true az]
      refine iteT (r_eqT rfl h e3 rfl ?_)
      rw [dki]
      by_cases oz : o = 0
      · rw [decide_eq_true oz]
        exact iteF (p4 ⟨by omega, md.2, by omega, by omega, by rw [if_pos az]; omega, by omega⟩)
      · exact absurd (show a < o by omega) ao
    · rw [decide_eq_false az]
      refine iteF (iteT (qf fun z => ?_))
      have := z.1.2.2.2.2.1
      rw [if_neg az] at this
      omega
theorem wd_te {i : Int} {nm : Str} {l : Addr} {xs : List V} {H : Hp} {Q : VK} {σ : List (Option V)} (hs : σ[0]? = some (some (.ref l))) (hl : H l = some (.lst xs)) (e : atI xs i = some (.str nm)) (hw : Wd nm) (q : ∀ b : Bool, (b = true ↔ Nm nm) → Q (.bl b) H) :
    tAndV (tChain (rI0 fun i j => V.bl (decide (i ≤ j))) (rI0 fun i j => V.bl (decide (i ≤ j))) (tC (V.int 1)) (tCB (rLenU K) (tCons (tOp (rIx K) (tVar 0) (tC (V.int i))) tNil)) (tC (V.int 8)))
      (tOp (fun x y H Q => ∃ c z, x = V.str { cps := #[c] } ∧ y = V.str z ∧ Q (V.bl !decide (c ∈ z.cps.toList)) H) (tC (V.str (Str.ofString "-"))) (tOp (rIx K) (tVar 0) (tC (V.int i)))) σ H Q := by
  have hz : nm.length ≤ sizeLine := Nat.le_trans (show nm.length ≤ 1000 from hw.1) (by decide)
  have g1 : decide ((1 : Int) ≤ (nm.length : Int)) = decide (1 ≤ nm.cps.size) := decide_eq_decide.mpr (by show (1 : Int) ≤ (nm.cps.size : Int) ↔ _; omega)
  have g8 : decide ((nm.length : Int) ≤ (8 : Int)) = decide (nm.cps.size ≤ 8) := decide_eq_decide.mpr (by show (nm.cps.size : Int) ≤ 8 ↔ _; omega)
  have qn : ¬ ((1 ≤ nm.cps.size ∧ nm.cps.size ≤ 8) ∧ 45 ∉ nm.cps.toList) → Q (.bl false) H := fun n => q false ⟨fun z => (by cases z), fun g => absurd ((nm_wd hw).mp g) n⟩
  refine r_ix hs hl e ⟨.str nm, nm.length, rfl, ⟨hz, rfl⟩, _, _, rfl, rfl, _, rfl, ?_⟩
  rw [g1]
  refine ite2 (fun h1 => ⟨_, _, rfl, rfl, _, congrArg V.bl g8, ?_⟩) (fun h1 => ⟨_, rfl, iteF (qn fun z => h1 (decide_eq_true z.1.1))⟩)
  refine ite2 (fun h8 => ?_) (fun h8 => qn fun z => h8 (decide_eq_true z.1.2))
  refine r_ix hs hl e ⟨45, nm, rfl, rfl, q _ ?_⟩
  rw [nm_wd hw, Bool.not_eq_true', decide_eq_false_iff_not]
  exact ⟨fun h => ⟨⟨of_decide_eq_true h1, of_decide_eq_true h8⟩, h⟩, fun h => h.2⟩
def spGd : Sp := fun vs H Q _ => ∃ (l : Addr) (r : Rc), vs = [.ref l] ∧ RowAt H l r ∧ Lo r ∧ Lw r ∧ ∀ (b : Bool) (H' : Hp), (b = true ↔ Good r) → Evl.Ex H H' → Q (.bl b) H'
theorem ok_good (T : Txt K mg) (F : FnP K "_law_good" s__law_good f fd) : Fg P w K mg base CX0 1 f fd ["_law_row"] spGd := by
  refine fg_of F sc__law_good (fun vs H Q E h => ?_) (fun cdv A outer s H vs Q E hr h => ⟨_, (PSs.nox (pss_cons (ps_if (pt_cmpR (u_eq (K := K) hr) (pe_ix (u_ix (K := K)) (pv 0) pe_int (fun _ _ => rfl)) pe_str (nomark _))
  (pss_one (ps_ret (pe_chain op_le op_le pe_int (pe_ix (u_ix (K := K)) (pv 0) pe_int (fun _ _ => rfl)) (pe_ix (u_ix (K := K)) (pv 0) pe_int (fun _ _ => rfl))))) pss_nil)
  (pss_cons (ps_if (pt_cmpR (u_eq (K := K) hr) (pe_ix (u_ix (K := K)) (pv 0) pe_int (fun _ _ => rfl)) pe_str (nomark _))
  (pss_one (ps_ret (pe_and (pe_cmpR op_le pe_int (pe_ix (u_ix (K := K)) (pv 0) pe_int (fun _ _ => rfl)) (nomark _)) (pe_one (pe_cmpR op_le (pe_ix (u_ix (K := K)) (pv 0) pe_int (fun _ _ => rfl)) pe_int (nomark _)))))) pss_nil)
  (pss_cons (ps_if (PW.pt (pw_or (pt_cmpR op_lt (pe_ix (u_ix (K := K)) (pv 0) pe_int (fun _ _ => rfl)) pe_int (nomark _)) (pw_or (pt_cmpR op_gt (pe_ix (u_ix (K := K)) (pv 0) pe_int (fun _ _ => rfl)) pe_int (nomark _)) (pw_or1 (pt_not (PW.pt (pw_or (pt_cmpR op_lt (pe_ix (u_ix (K := K)) (pv 0) pe_int (fun _ _ => rfl)) (pe_ix (u_ix (K := K)) (pv 0) pe_int (fun _ _ => rfl)) (nomark _)) (pw_or1 (PW.pt (pw_and (pt_cmpR (u_eq (K := K) hr) (pe_ix (u_ix (K := K)) (pv 0) pe_int (fun _ _ => rfl)) pe_int (nomark _)) (pw_and1 (pt_cmpR (u_eq (K := K) hr) (pe_ix (u_ix (K := K)) (pv 0) pe_int (fun _ _ => rfl)) pe_int (nomark _)))))))))))))
  (pss_one (ps_ret pe_bl)) pss_nil)
  (pss_cons (ps_if (PW.pt (pw_and (pt_cmpR (u_ne (K := K) hr) (pe_ix (u_ix (K := K)) (pv 0) (pe_un un_neg pe_int) (fun _ _ => rfl)) pe_int (nomark _)) (pw_and1 (PW.pt (pw_or (pt_cmpR op_gt (pe_ix (u_ix (K := K)) (pv 0) pe_int (fun _ _ => rfl)) pe_int (nomark _)) (pw_or1 (pt_cmpR op_le (pe_ix (u_ix (K := K)) (pv 0) (pe_un un_neg pe_int) (fun _ _ => rfl)) (pe_ix (u_ix (K := K)) (pv 0) pe_int (fun _ _ => rfl)) (nomark _))))))))
  (pss_one (ps_ret pe_bl)) pss_nil)
  (pss_cons (ps_if (pt_cmpR (u_eq (K := K) hr) (pe_ix (u_ix (K := K)) (pv 0) pe_int (fun _ _ => rfl)) pe_str (nomark _))
  (pss_one (ps_ret (pe_and (pe_chain op_le op_le pe_int (pe_callB (u_len (K := K)) (by rfl) T.f_len (by decide +kernel) (pa_cons (pe_ix (u_ix (K := K)) (pv 0) pe_int (fun _ _ => rfl)) pa_nil)) pe_int) (pe_one (pe_cmpR L2.op_notIn_sign pe_str (pe_ix (u_ix (K := K)) (pv 0) pe_int (fun _ _ => rfl)) (by rfl)))))) pss_nil)
  (pss_cons (ps_if (pt_cmpR (u_eq (K := K) hr) (pe_ix (u_ix (K := K)) (pv 0) pe_int (fun _ _ => rfl)) pe_str (nomark _))
  (pss_one (ps_ret (pe_and (pe_cmpR op_ge (pe_ix (u_ix (K := K)) (pv 0) pe_int (fun _ _ => rfl)) pe_int (nomark _)) (pe_and (pe_cmpR (u_ne (K := K) hr) (pe_ix (u_ix (K := K)) (pv 0) pe_int (fun _ _ => rfl)) pe_int (nomark _)) (pe_and (pe_chain op_le op_le pe_int (pe_callB (u_len (K := K)) (by rfl) T.f_len (by decide +kernel) (pa_cons (pe_ix (u_ix (K := K)) (pv 0) pe_int (fun _ _ => rfl)) pa_nil)) pe_int) (pe_one (pe_cmpR L2.op_notIn_sign pe_str (pe_ix (u_ix (K := K)) (pv 0) pe_int (fun _ _ => rfl)) (by rfl)))))))) pss_nil)
  (pss_cons (ps_if (pt_cmpR (u_eq (K := K) hr) (pe_ix (u_ix (K := K)) (pv 0) pe_int (fun _ _ => rfl)) pe_str (nomark _))
  (pss_one (ps_ret (pe_and (pe_cmpR op_ge (pe_ix (u_ix (K := K)) (pv 0) pe_int (fun _ _ => rfl)) pe_int (nomark _)) (pe_one (pe_cmpR op_le (pe_ix (u_ix (K := K)) (pv 0) pe_int (fun _ _ => rfl)) pe_int (nomark _)))))) pss_nil)
  (pss_cons (ps_if (PW.pt (pw_or (pt_cmpR op_lt (pe_ix (u_ix (K := K)) (pv 0) pe_int (fun _ _ => rfl)) pe_int (nomark _)) (pw_or (pt_cmpR op_gt (pe_ix (u_ix (K := K)) (pv 0) pe_int (fun _ _ => rfl)) pe_int (nomark _)) (pw_or1 (pt_cmpR op_gt (pe_ix (u_ix (K := K)) (pv 0) pe_int (fun _ _ => rfl)) pe_int (nomark _))))))
  (pss_one (ps_ret pe_bl)) pss_nil)
  (pss_cons (ps_if (pt_cmpR (u_eq (K := K) hr) (pe_ix (u_ix (K := K)) (pv 0) pe_int (fun _ _ => rfl)) pe_int (nomark _))
  (pss_one (ps_ret (pe_cmpR op_le (pe_ix (u_ix (K := K)) (pv 0) pe_int (fun _ _ => rfl)) (pe_ix (u_ix (K := K)) (pe_lst (pa_cons pe_int (pa_cons pe_int (pa_cons pe_int (pa_cons pe_int (pa_cons pe_int (pa_cons pe_int (pa_cons pe_int pa_nil)))))))) (pe_op u_fdiv (pe_op (u_add (K := K)) (pe_ix (u_ix (K := K)) (pv 0) pe_int (fun _ _ => rfl)) pe_int) pe_int) (fun _ _ => rfl)) (nomark _)))) pss_nil)
  (pss_one (ps_ret (pe_and (pe_cmpR (u_eq (K := K) hr) (pe_ix (u_ix (K := K)) (pv 0) pe_int (fun _ _ => rfl)) pe_int (nomark _)) (pe_one (pe_cmpR (u_eq (K := K) hr) (pe_ix (u_ix (K := K)) (pv 0) pe_int (fun _ _ => rfl)) pe_int (nomark _)))))))))))))))), ?_⟩)
  · obtain ⟨l, r, rfl, _⟩ := h
    rfl
  · obtain ⟨l, r, rfl, ⟨t, hl, ho⟩, hL, hW, q⟩ := h
    have ds : ∀ x y : Str, decide (V.str x = V.str y) = decide (x = y) := fun x y => by
      by_cases h : x = y
      · rw [h, decide_eq_true rfl, decide_eq_true rfl]
      · rw [decide_eq_false h, decide_eq_false fun z => h (V.str.inj z)]
    have kk : ∀ {x y : Str} {b : Bool} {xs : List V} {Q' : Bool → Hp → Prop}, H l = some (.lst xs) → atI xs 0 = some (.str x) → decide (x = y) = b → Q' b H → tTest (tOp (rEqU K) (tOp (rIx K) (tVar 0) (tC (V.int 0))) (tC (.str y))) [some (.ref l)] H Q' := fun h e1 e q => r_eqT rfl h e1 rfl (by rw [ds, e]; exact q)
    have q' : ∀ (b : Bool), (b = true ↔ Good r) → Q (.bl b) H := fun b h => q b H h (Evl.Ex.refl _)
    have qf : ¬ Good r → Q (.bl false) H := fun n => q' false ⟨fun z => (by cases z), fun g => absurd g n⟩
    cases r with
    | head seq tail b =>
      obtain ⟨l1, l2⟩ := hL
      refine kk hl rfl rfl (iteT ?_)
      refine r_ix rfl hl rfl ⟨_, _, rfl, rfl, _, rfl, ?_⟩
      refine ite2 (fun h1 => r_ix rfl hl rfl ⟨_, _, rfl, rfl, q' _ ?_⟩) (fun h1 => qf fun g => h1 (decide_eq_true g.1))
      rw [decide_eq_true_eq]
      exact ⟨fun h => ⟨of_decide_eq_true h1, h, l1.2⟩, fun g => g.2.1⟩
    | sl tail count =>
      obtain ⟨l1, l2⟩ := hL
      refine kk hl rfl rfl (iteF (kk hl rfl rfl (iteT ?_)))
      refine r_ix rfl hl rfl ⟨_, _, rfl, rfl, _, rfl, ?_⟩
      refine ite2 (fun h1 => r_ix rfl hl rfl ⟨_, _, rfl, rfl, q' _ ?_⟩) (fun h1 => qf fun g => h1 (decide_eq_true g.1))
      rw [decide_eq_true_eq]
      exact ⟨fun h => ⟨of_decide_eq_true h1, l1.2, l2.1, h⟩, fun g => g.2.2.2⟩
    | node d a o n wh s c u =>
      obtain ⟨l1, l2, l3, l4, l5, l6, l7, l8⟩ := hL
      refine kk hl rfl rfl (iteF (kk hl rfl rfl (iteF ?_)))
      refine gd34' rfl hl rfl rfl rfl rfl l1 l2 l3 l8 (fun n' => qf fun g => n' ⟨g.1, g.2.2.2.2.2.2.2.2.2⟩) fun st hu => ?_
      refine kk hl rfl rfl (iteF (kk hl rfl rfl (iteF (kk hl rfl rfl (iteF ?_)))))
      refine r_ix rfl hl rfl ⟨_, _, rfl, rfl, _, rfl, ?_⟩
      refine ite2 (fun h1 => iteT (qf fun g => by have := of_decide_eq_true h1; have := g.2.1; omega)) (fun h1 => ?_)
      have h1 : ¬ n < 2 := fun z => h1 (decide_eq_true z)
      refine r_ix rfl hl rfl ⟨_, _, rfl, rfl, _, rfl, ?_⟩
      refine ite2 (fun h2 => iteT (qf fun g => by have := of_decide_eq_true h2; have := g.2.2.2.2.1; omega)) (fun h2 => ?_)
      have h2 : ¬ 2 < wh := fun z => h2 (decide_eq_true z)
      refine r_ix rfl hl rfl ⟨_, _, rfl, rfl, _, rfl, ?_⟩
      refine ite2 (fun h3 => qf fun g => by have := of_decide_eq_true h3; have := g.2.2.2.2.2.2.1; split at this <;> omega) (fun h3 => ?_)
      have h3 : ¬ 96 < s := fun z => h3 (decide_eq_true z)
      refine r_eqT rfl hl rfl rfl ?_
      rw [dki]
      by_cases w1 : wh = 1
      · rw [decide_eq_true w1]
        have n16 : (0 : Int) < 16 ∧ (16 : Int) < 1073741824 := by decide
        refine iteT (r_ix rfl hl rfl ⟨by show 7 ≤ sizeLine; decide, fun l3' nl3 => r_ix rfl ((Evl.Ex.new nl3) _ _ hl) rfl (.inl ⟨_, _, rfl, rfl, _, _, rfl, rfl, n16, Sv.ix (x := .non) (Sv.lst upd_same) (most_at l6.1 (by omega)) ⟨_, _, rfl, rfl, q _ _ ?_ (Evl.Ex.new nl3)⟩⟩)⟩)
        rw [decide_eq_true_eq]
        exact ⟨fun h => ⟨st, by omega, hW, l5.1, by omega, l6.1, by rw [if_pos w1]; omega, l7.1, h, hu⟩, fun g => g.2.2.2.2.2.2.2.2.1⟩
      · rw [decide_eq_false w1]
        refine iteF (r_ix rfl hl rfl (.inl ⟨rfl, _, rfl, ?_⟩))
        rw [dki]
        by_cases sz : s = 0
        · rw [decide_eq_true sz]
          refine iteT (r_ix rfl hl rfl (.inl ⟨rfl, q' _ ?_⟩))
          rw [dki, decide_eq_true_eq]
          refine ⟨fun cz => ⟨st, by omega, hW, l5.1, by omega, l6.1, by rw [if_neg w1]; omega, l7.1, by rw [sz, cz]; decide, hu⟩, fun g => ?_⟩
          have h9 := g.2.2.2.2.2.2.2.2.1
          rw [sz] at h9
          have m0 : most 0 = 0 := by decide
          have := l7.1
          omega
        · rw [decide_eq_false sz]
          refine iteF (qf fun g => ?_)
          have h7 := g.2.2.2.2.2.2.1
          rw [if_neg w1] at h7
          have := l6.1
          omega
    | name d a o dr nm n u =>
      obtain ⟨l1, l2, l3, l4, l5, l6, l7⟩ := hL
      obtain ⟨w1, w2, w3⟩ := hW
      refine kk hl rfl rfl (iteF (kk hl rfl rfl (iteF ?_)))
      refine gd34' rfl hl rfl rfl rfl rfl l1 l2 l3 l7 (fun n' => qf fun g => n' ⟨g.1, g.2.2.2.2.2.2.2⟩) fun st hu => ?_
      refine kk hl rfl rfl (iteF (kk hl rfl rfl (iteT ?_)))
      refine r_ix rfl hl rfl ⟨_, _, rfl, rfl, _, rfl, ?_⟩
      refine ite2 (fun h1 => ?_) (fun h1 => qf fun g => h1 (decide_eq_true g.2.1))
      have h1 : 1 ≤ dr := of_decide_eq_true h1
      refine r_ix rfl hl rfl (.inl ⟨rfl, _, rfl, ?_⟩)
      rw [dki]
      by_cases n1 : n = 1
      · rw [decide_eq_true n1]
        exact iteF (qf fun g => g.2.2.2.2.1 n1)
      · rw [decide_eq_false n1]
        refine iteT (wd_te rfl hl rfl w3 fun b hb => q' b ?_)
        rw [hb]
        exact ⟨fun h => ⟨st, h1, w1, h, n1, l6.1, w2, hu⟩, fun g => g.2.2.2.1⟩
    | chunk d a o n ix os u =>
      obtain ⟨l1, l2, l3, l4, l5, l6, l7, l8⟩ := hL
      refine kk hl rfl rfl (iteF (kk hl rfl rfl (iteF ?_)))
      refine gd34' rfl hl rfl rfl rfl rfl l1 l2 l3 l8 (fun n' => qf fun g => n' ⟨g.1, g.2.2.2.2.2.2.2⟩) fun st hu => ?_
      refine kk hl rfl rfl (iteF (kk hl rfl rfl (iteF (kk hl rfl rfl (iteT ?_)))))
      refine r_ix rfl hl rfl ⟨_, _, rfl, rfl, _, rfl, ?_⟩
      refine ite2 (fun h1 => r_ix rfl hl rfl ⟨_, _, rfl, rfl, q' _ ?_⟩) (fun h1 => qf fun g => h1 (decide_eq_true g.2.1))
      rw [decide_eq_true_eq]
      exact ⟨fun h => ⟨st, of_decide_eq_true h1, hW, l5.1, h, l6, l7, hu⟩, fun g => g.2.2.2.2.1⟩
    | keep d a o nm b u =>
      obtain ⟨l1, l2, l3, l4, l5⟩ := hL
      refine kk hl rfl rfl (iteF (kk hl rfl rfl (iteF ?_)))
      refine gd34' rfl hl rfl rfl rfl rfl l1 l2 l3 l5 (fun n' => qf fun g => n' ⟨g.1, g.2.2⟩) fun st hu => ?_
      refine kk hl rfl rfl (iteT (wd_te rfl hl rfl hW fun b' hb => q' b' ?_))
      rw [hb]
      exact ⟨fun h => ⟨st, h, hu⟩, fun g => g.2.1⟩
end
end K12
/-! the law's own reading -/
namespace K12
open PySem PySem.Spec PyProof.Rows L2 VB BM
/-- a word, as the law tells it -/
def wrl (zs : List Nat) (c : Nat) : Str := ⟨((zs.take (min c 9)).map lw).toArray⟩
def rawL (cs : List Nat) : Option Rc := match cs.getD 0 0 with
  | 5 => some (.name (num cs 1 4) (oc cs 5) (oc cs 6) (num cs 7 2) (wrl ((cs.drop 12).take 14) (cs.getD 11 0)) (num cs 9 2) (num cs 26 4))
  | 7 => if cs.getD 7 0 ≤ 1 then some (.keep (num cs 1 4) (oc cs 5) (oc cs 6) (wrl ((cs.drop 9).take 17) (cs.getD 8 0)) (cs.getD 7 0 == 1) (num cs 26 4)) else none
  | _ => rawR cs
theorem lt_L {c : Nat} (h : 97 ≤ lt c ∧ lt c ≤ 122) : isL c = true := by
  unfold lt at h
  split at h
  · assumption
  · omega
theorem lw_L {c : Nat} (h : 97 ≤ lw c ∧ lw c ≤ 122) : isL c = true := by
  unfold lw at h
  split at h
  · assumption
  · omega
theorem word_eq {zs : List Nat} {c : Nat} (hz : 9 ≤ zs.length) (h : Nm ⟨((zs.take c).map lt).toArray⟩ ∨ Nm (wrl zs c)) : (⟨((zs.take c).map lt).toArray⟩ : Str) = wrl zs c := by
  have hc : c ≤ 8 := by
    rcases h with h | h
    · have := h.2.1
      rw [List.size_toArray, List.length_map, List.length_take] at this
      omega
    · have := h.2.1
      unfold wrl at this
      rw [List.size_toArray, List.length_map, List.length_take] at this
      omega
  unfold wrl at h ⊢
  rw [Nat.min_eq_left (by omega)] at h ⊢
  congr 2
  refine List.map_congr_left fun z hz => ?_
  have il : isL z = true := by
    rcases h with h | h
    · exact lt_L (h.2.2 _ (by rw [List.toList_toArray]; exact List.mem_map.mpr ⟨z, hz, rfl⟩))
    · exact lw_L (h.2.2 _ (by rw [List.toList_toArray]; exact List.mem_map.mpr ⟨z, hz, rfl⟩))
  unfold lt lw
  rw [if_pos il, if_pos il]
theorem due_law {cs : List Nat} {r : Rc} (h30 : O30 cs) : Due cs r ↔ rawL cs = some r ∧ Good r ∧ octs r = cs.map Int.ofNat := by
  have len := h30.1
  obtain ⟨k, hk⟩ : ∃ k, cs.getD 0 0 = k := ⟨_, rfl⟩
  by_cases k5 : k = 5
  · subst k5
    have eR : rawR cs = some (.name (num cs 1 4) (oc cs 5) (oc cs 6) (num cs 7 2) (wrd (cs.take 26) 11) (num cs 9 2) (num cs 26 4)) := by unfold rawR; rw [hk]; rfl
    have eL : rawL cs = some (.name (num cs 1 4) (oc cs 5) (oc cs 6) (num cs 7 2) (wrl ((cs.drop 12).take 14) (cs.getD 11 0)) (num cs 9 2) (num cs 26 4)) := by unfold rawL; rw [hk]; rfl
    have e12 : wrd (cs.take 26) 11 = ⟨((((cs.drop 12).take 14).take (cs.getD 11 0)).map lt).toArray⟩ := by
      unfold wrd
      rw [List.drop_take, List.getD_eq_getElem?_getD, List.getD_eq_getElem?_getD, List.getElem?_take, if_pos (by decide)]
    have lz : 9 ≤ ((cs.drop 12).take 14).length := by rw [List.length_take, List.length_drop, len]; decide
    unfold Due
    rw [eR, eL]
    constructor
    · rintro ⟨e, g, o⟩
      cases e
      have := g.2.2.2.1
      rw [e12] at this
      have w := word_eq lz (.inl this)
      rw [e12, w] at g o ⊢
      exact ⟨rfl, g, o⟩
    · rintro ⟨e, g, o⟩
      cases e
      have w := word_eq lz (.inr g.2.2.2.1)
      rw [e12, w]
      exact ⟨rfl, g, o⟩
  by_cases k7 : k = 7
  · subst k7
    have eR : rawR cs = some (.keep (num cs 1 4) (oc cs 5) (oc cs 6) (wrd (cs.take 26) 8) (cs.getD 7 0 == 1) (num cs 26 4)) := by unfold rawR; rw [hk]; rfl
    have e12 : wrd (cs.take 26) 8 = ⟨((((cs.drop 9).take 17).take (cs.getD 8 0)).map lt).toArray⟩ := by
      unfold wrd
      rw [List.drop_take, List.getD_eq_getElem?_getD, List.getD_eq_getElem?_getD, List.getElem?_take, if_pos (by decide)]
    have lz : 9 ≤ ((cs.drop 9).take 17).length := by rw [List.length_take, List.length_drop, len]; decide
    unfold Due
    by_cases h7 : cs.getD 7 0 ≤ 1
    · have eL : rawL cs = some (.keep (num cs 1 4) (oc cs 5) (oc cs 6) (wrl ((cs.drop 9).take 17) (cs.getD 8 0)) (cs.getD 7 0 == 1) (num cs 26 4)) := by unfold rawL; rw [hk]; exact if_pos h7
      rw [eR, eL]
      constructor
      · rintro ⟨e, g, o⟩
        cases e
        have := g.2.1
        rw [e12] at this
        have w := word_eq lz (.inl this)
        rw [e12, w] at g o ⊢
        exact ⟨rfl, g, o⟩
      · rintro ⟨e, g, o⟩
        cases e
        have w := word_eq lz (.inr g.2.1)
        rw [e12, w]
        exact ⟨rfl, g, o⟩
    · have eL : rawL cs = none := by unfold rawL; rw [hk]; exact if_neg h7
      rw [eR, eL]
      constructor
      · rintro ⟨e, g, o⟩
        cases e
        exfalso
        have o7 := congrArg (fun l => l[7]?) o
        rw [octs_tree (by show 2 ≤ 5; decide)] at o7
        have b1 : (cs.getD 7 0 == 1) = false := by rw [beq_eq_false_iff_ne]; omega
        have c7 : (cs.map Int.ofNat)[7]? = some ((cs.getD 7 0 : Nat) : Int) := by
          rw [List.getElem?_map, List.getD_eq_getElem?_getD, List.getElem?_eq_getElem (by omega)]
          rfl
        rw [b1] at o7
        have o8 : (cs.map Int.ofNat)[7]? = some 0 := by
          rw [← o7]
          show (pad 26 ([kdO (Rc.keep (num cs 1 4) (oc cs 5) (oc cs 6) (wrd (cs.take 26) 8) false (num cs 26 4))] ++ be (num cs 1 4) 4 ++ [oc cs 5, oc cs 6] ++ ([0] ++ ((((wrd (cs.take 26) 8).cps.size : Nat) : Int) :: codes (wrd (cs.take 26) 8)))) ++ be (num cs 26 4) 4)[7]? = some 0
          obtain ⟨a, b, c, d, hb⟩ : ∃ a b c d, be (num cs 1 4) 4 = [a, b, c, d] := by
            match hb : be (num cs 1 4) 4, be_len (num cs 1 4) 4 with
            | [a, b, c, d], _ => exact ⟨a, b, c, d, rfl⟩
          rw [hb]
          rfl
        rw [c7] at o8
        have := Option.some.inj o8
        omega
      · rintro ⟨e, _⟩
        cases e
  · have eL : rawL cs = rawR cs := by
      unfold rawL
      rw [hk]
      split
      · exact absurd rfl k5
      · exact absurd rfl k7
      · rfl
    unfold Due
    rw [eL]
theorem num_bd2 {cs : List Nat} (h : O30 cs) {i n : Nat} (hn : n ≤ 2) : num cs i n ≤ 65535 := by
  have b := numO_bound _ (sl cs i n) rfl (sl_oct h.2 i n)
  have l : (sl cs i n).length ≤ 2 := by
    rw [List.length_map, List.length_take]
    omega
  have p : (256 : Int) ^ (sl cs i n).length ≤ 256 ^ 2 := by
    have := Nat.pow_le_pow_right (show 0 < 256 by decide) l
    exact_mod_cast this
  have b2 : num cs i n < 256 ^ (sl cs i n).length := b.2
  have e4 : (256 : Int) ^ 2 = 65536 := by decide
  omega
theorem rawL_lo {cs : List Nat} (h : O30 cs) {r : Rc} (e : rawL cs = some r) : Lo r ∧ Lw r := by
  have n4 : ∀ i, M32 (num cs i 4) := fun i => num_bd h (by decide)
  have n2 : ∀ i, num cs i 2 ≤ 65535 := fun i => num_bd2 h (by decide)
  have o1 : ∀ i, M32 (oc cs i) := fun i => by have := oc_bd h i; exact ⟨by omega, by omega⟩
  have w1 : ∀ zs c, Wd (wrl zs c) := fun zs c => by
    refine ⟨?_, fun x hx => ?_⟩
    · unfold wrl
      rw [List.size_toArray, List.length_map, List.length_take]
      omega
    · unfold wrl at hx
      rw [List.toList_toArray] at hx
      obtain ⟨z, _, rfl⟩ := List.mem_map.mp hx
      unfold lw
      split
      · exact .inl (by assumption)
      · exact .inr rfl
  unfold rawL at e
  split at e
  · cases e; exact ⟨⟨n4 _, o1 _, o1 _, num_bd h (by decide), (w1 _ _).1, num_bd h (by decide), n4 _⟩, n2 _, n2 _, w1 _ _⟩
  · split at e
    · cases e; exact ⟨⟨n4 _, o1 _, o1 _, (w1 _ _).1, n4 _⟩, w1 _ _⟩
    · cases e
  · refine ⟨raw_lo h e, ?_⟩
    unfold rawR at e
    split at e
    · cases e; trivial
    · cases e; trivial
    · cases e; trivial
    · cases e; exact n2 _
    · exfalso; simp_all
    · cases e; exact n2 _
    · exfalso; simp_all
    · cases e
section
variable {P : Program} {w : World} {K : PySem.W.Frag} {mg : Str → Option Value} {base : Heap} {f : Addr} {fd : FuncData}
theorem num_le {σ : List (Option V)} {p : Addr} {cs : List Nat} {H : Hp} {Q : VK} (i j : Nat) (hs : σ[0]? = some (some (.ref p))) (hp : H p = some (.lst (IN cs))) (h30 : O30 cs) (hij : i ≤ j) (h4 : j - i ≤ 4) (q : ∀ H', Evl.Ex H H' → Q (.int (num cs i (j - i))) H') :
    tCall (spNumT K) [] E0 (tCons (tSl (rSlU K) (tVar 0) (tPart (tC (V.int (i : Int)))) (tPart (tC (V.int (j : Int))))) tNil) σ H Q := by
  refine ⟨_, hs, _, rfl, _, rfl, .inl ⟨p, _, rfl, SqL.of hp, fun l nl => ?_⟩⟩
  exact ⟨l, sl cs i (j - i), false, rfl, Sv.lst (by rw [upd_same, in_cut hij]), sl_oct h30.2 _ _, by rw [List.length_map, List.length_take]; omega, fun H' e => q H' ((Evl.Ex.new nl).trans e)⟩
theorem word_le {σ : List (Option V)} {p : Addr} {cs : List Nat} {H : Hp} {Q : VK} (i j c : Nat) (hs : σ[0]? = some (some (.ref p))) (hp : H p = some (.lst (IN cs))) (h30 : O30 cs) (hij : i ≤ j) (hc : c < 30) (q : ∀ H', Evl.Ex H H' → Q (.str (wrl ((cs.drop i).take (j - i)) (cs.getD c 0))) H') :
    tCall spWord [] E0 (tCons (tSl (rSlU K) (tVar 0) (tPart (tC (V.int (i : Int)))) (tPart (tC (V.int (j : Int))))) (tCons (tOp (rIx K) (tVar 0) (tC (V.int (c : Int)))) tNil)) σ H Q := by
  refine ⟨_, hs, _, rfl, _, rfl, .inl ⟨p, _, rfl, SqL.of hp, fun l nl => ?_⟩⟩
  have y := Evl.Ex.new (o := .lst (cutV (IN cs) (some (i : Int)) (some (j : Int)))) nl
  refine ⟨_, hs, Sv.ix (x := .non) (Sv.lst (y _ _ hp)) (in_at (by rw [h30.1]; exact hc)) ?_⟩
  refine ⟨l, cs.getD c 0, (cs.drop i).take (j - i), rfl, by rw [upd_same, in_cut hij], fun x hx => h30.2 x (List.mem_of_mem_drop (List.mem_of_mem_take hx)), ?_, by rw [List.length_take, List.length_drop, h30.1]; omega, fun H' e => q H' (y.trans e)⟩
  have := (oc_bd h30 c).2
  show cs.getD c 0 ≤ 255
  have h2 : ((cs.getD c 0 : Nat) : Int) ≤ 255 := this
  omega
/-- three lists put together -/
theorem cat3 {σ : List (Option V)} {p : Addr} {x : V} {ps : List V} {ts : TA} {H : Hp} {Q : VK} (hp : σ[4]? = some (some (.ref p))) (h4 : H p = some (.lst ps)) (z : ps.length ≤ 10)
    (k : ∀ (p1 : Addr) (H1 : Hp), Evl.Ex H H1 → H1 p1 = some (.lst (x :: ps)) → ts σ H1 (fun ys H2 => ys.length ≤ sizeLine ∧ ∀ r, H2 r = none → rAddU K (.ref p1) (.ref r) (upd H2 r (.lst ys)) (fun v H3 => tVar 5 σ H3 (fun y H4 => rAddU K v y H4 Q)))) :
    tOp (rAddU K) (tOp (rAddU K) (tOp (rAddU K) (tLst (tCons (tC x) tNil)) (tVar 4)) (tLst ts)) (tVar 5) σ H Q := by
  refine ⟨by show 1 ≤ sizeLine; decide, fun a na => ⟨_, hp, ?_⟩⟩
  have ya := Evl.Ex.new (o := .lst [x]) na
  exact cat_l (xs := [x]) upd_same (ya _ _ h4) (by show 1 + ps.length ≤ 1000; omega) fun p1 H1 n1 e1 h1 => k p1 H1 (ya.trans e1) h1
theorem cat3e {σ : List (Option V)} {p1 u : Addr} {xs us ys : List V} {H : Hp} {Q : VK} (hu : σ[5]? = some (some (.ref u))) (h1 : H p1 = some (.lst xs)) (h5 : H u = some (.lst us)) (z : xs.length + ys.length + us.length ≤ 100)
    (q : ∀ (l : Addr) (H' : Hp), Evl.Ex H H' → H' l = some (.lst (xs ++ ys ++ us)) → Q (.ref l) H') :
    ys.length ≤ sizeLine ∧ ∀ r, H r = none → rAddU K (.ref p1) (.ref r) (upd H r (.lst ys)) (fun v H3 => tVar 5 σ H3 (fun y H4 => rAddU K v y H4 Q)) := by
  refine ⟨Nat.le_trans (show ys.length ≤ 100 by omega) (by decide), fun r nr => ?_⟩
  have y := Evl.Ex.new (o := .lst ys) nr
  refine cat_l (y _ _ h1) upd_same (by omega) fun p2 H2 n2 e2 h2 => ⟨_, hu, ?_⟩
  refine cat_l h2 ((y.trans e2) _ _ h5) (by rw [List.length_append]; omega) fun p3 H3 n3 e3 h3 => q p3 H3 ((y.trans e2).trans e3) h3
abbrev rdRows (K : PySem.W.Frag) : TS := (tIfS (tTest (tOp (rI0 fun i j => V.bl (decide (i < j))) (tVar 1) (tC (V.int 3)))) (tAsg (tLst (tCons (tC (V.str ("Head" : Str))) (tCons (tVar 2) (tCons (tCall (spNumT K) [] E0 (tCons (tSl (rSlU K) (tVar 0) (tPart (tC (V.int 5))) (tPart (tC (V.int 9)))) tNil)) (tCons (tOp (rEqU K) (tVar 1) (tC (V.int 2))) tNil))))) (gName 6))
  (tIfS (tTest (tOp (rEqU K) (tVar 1) (tC (V.int 3)))) (tAsg (tLst (tCons (tC (V.str ("Seal" : Str))) (tCons (tVar 2) (tCons (tOp (rIx K) (tVar 0) (tC (V.int 5))) tNil)))) (gName 6))
  (tIfS (tTest (tOp (rEqU K) (tVar 1) (tC (V.int 4)))) (tAsg (tOp (rAddU K) (tOp (rAddU K) (tOp (rAddU K) (tLst (tCons (tC (V.str ("Node" : Str))) tNil)) (tVar 4)) (tLst (tCons (tVar 3) (tCons (tOp (rIx K) (tVar 0) (tC (V.int 9))) (tCons (tOp (rIx K) (tVar 0) (tC (V.int 10))) (tCons (tOp (rIx K) (tVar 0) (tC (V.int 11))) tNil)))))) (tVar 5)) (gName 6))
  (tIfS (tTest (tOp (rEqU K) (tVar 1) (tC (V.int 5)))) (tAsg (tOp (rAddU K) (tOp (rAddU K) (tOp (rAddU K) (tLst (tCons (tC (V.str ("Name" : Str))) tNil)) (tVar 4)) (tLst (tCons (tVar 3) (tCons (tCall spWord [] E0 (tCons (tSl (rSlU K) (tVar 0) (tPart (tC (V.int 12))) (tPart (tC (V.int 26)))) (tCons (tOp (rIx K) (tVar 0) (tC (V.int 11))) tNil))) (tCons (tCall (spNumT K) [] E0 (tCons (tSl (rSlU K) (tVar 0) (tPart (tC (V.int 9))) (tPart (tC (V.int 11)))) tNil)) tNil))))) (tVar 5)) (gName 6))
  (tIfS (tTest (tOp (rEqU K) (tVar 1) (tC (V.int 6)))) (tAsg (tOp (rAddU K) (tOp (rAddU K) (tOp (rAddU K) (tLst (tCons (tC (V.str ("Chunk" : Str))) tNil)) (tVar 4)) (tLst (tCons (tVar 3) (tCons (tOp (rIx K) (tVar 0) (tC (V.int 9))) (tCons (tCB (rTupU K) (tCons (tSl (rSlU K) (tVar 0) (tPart (tC (V.int 10))) (tPart (tC (V.int 26)))) tNil)) tNil))))) (tVar 5)) (gName 6))
    (tAsg (tOp (rAddU K) (tOp (rAddU K) (tOp (rAddU K) (tLst (tCons (tC (V.str ("Keep" : Str))) tNil)) (tVar 4)) (tLst (tCons (tCall spWord [] E0 (tCons (tSl (rSlU K) (tVar 0) (tPart (tC (V.int 9))) (tPart (tC (V.int 26)))) (tCons (tOp (rIx K) (tVar 0) (tC (V.int 8))) tNil))) (tCons (tOp (rEqU K) (tOp (rIx K) (tVar 0) (tC (V.int 7))) (tC (V.int 1))) tNil)))) (tVar 5)) (gName 6)))))))
abbrev rdRet (K : PySem.W.Frag) : TS := (tRet (tIf (tAnd (VB.tTru K (tCall spGd [] E0 (tCons (tVar 6) tNil))) (tTest (tOp (rEqU K) (tCall spLOct [] E0 (tCons (tVar 6) tNil)) (tCB (rTupU K) (tCons (tVar 0) tNil))))) (tVar 6) (tC V.non)))
def spRd : Sp := fun vs H Q _ => ∃ (l : Addr) (cs : List Nat), vs = [.ref l] ∧ H l = some (.lst (IN cs)) ∧ O30 cs ∧ ((¬ ∃ r, Due cs r) → RV .non H Q) ∧
  ∀ r, Due cs r → ∀ (l' : Addr) (H' : Hp), Evl.Ex H H' → RowAt H' l' r → Q (.ref l') H'
theorem ok_rd (T : Txt K mg) (F : FnP K "_law_read" s__law_read f fd) (C__law_value : Cal P w K mg base CX0 1 "_law_value" ["_law_octets_here"] (spNumT K)) (C__law_word : Cal P w K mg base CX0 1 "_law_word" ["_law_octets_here", "_law_count"] spWord) (C__law_good : Cal P w K mg base CX0 1 "_law_good" ["_law_row"] spGd) (C__law_octets : Cal P w K mg base CX0 2 "_law_octets" ["_law_row"] spLOct) : Fg P w K mg base CX0 3 f fd ["_law_octets_here"] spRd := by
  refine fg_of F sc__law_read (fun vs H Q E h => ?_) (fun cdv A outer s H vs Q E hr h => ⟨_, (PSs.nox (pss_cons (ps_par3 (i := 1) (j := 2) (l := 3) rfl sc__law_read.nd rfl rfl rfl (by decide) (by decide) (by decide) rfl rfl rfl (pa_cons (pe_ix (u_ix (K := K)) (pv 0) pe_int (fun _ _ => rfl)) (pa_cons (pe_cal C__law_value hr.le pass0 (pa_cons (pe_slice (u_sl (K := K)) (pv 0) (po_some pe_int) (po_some pe_int)) pa_nil)) (pa_cons (pe_cal C__law_value hr.le pass0 (pa_cons (pe_slice (u_sl (K := K)) (pv 0) (po_some pe_int) (po_some pe_int)) pa_nil)) pa_nil))) (by rfl))
  (pss_cons (ps_par (i := 4) (j := 5) rfl sc__law_read.nd rfl rfl (by decide) rfl rfl (pa_cons (pe_lst (pa_cons (pv 2) (pa_cons (pe_ix (u_ix (K := K)) (pv 0) pe_int (fun _ _ => rfl)) (pa_cons (pe_ix (u_ix (K := K)) (pv 0) pe_int (fun _ _ => rfl)) pa_nil)))) (pa_cons (pe_lst (pa_cons (pe_cal C__law_value hr.le pass0 (pa_cons (pe_slice (u_sl (K := K)) (pv 0) (po_some pe_int) (po_some pe_int)) pa_nil)) pa_nil)) pa_nil)) (by rfl))
  (pss_cons (ps_if (PW.pt (pw_or (pt_cmpR op_lt (pv 1) pe_int (nomark _)) (pw_or (pt_cmpR op_gt (pv 1) pe_int (nomark _)) (pw_or1 (PW.pt (pw_and (pt_cmpR (u_eq (K := K) hr) (pv 1) pe_int (nomark _)) (pw_and1 (pt_cmpR op_gt (pe_ix (u_ix (K := K)) (pv 0) pe_int (fun _ _ => rfl)) pe_int (nomark _)))))))))
  (pss_one (ps_ret pe_non)) pss_nil)
  (pss_cons (ps_if (pt_cmpR op_lt (pv 1) pe_int (nomark _))
  (pss_one (ps_set (i := 6) sc__law_read.nd rfl (by first | exact Or.inl rfl | exact Or.inr rfl) (pe_lst (pa_cons pe_str (pa_cons (pv 2) (pa_cons (pe_cal C__law_value hr.le pass0 (pa_cons (pe_slice (u_sl (K := K)) (pv 0) (po_some pe_int) (po_some pe_int)) pa_nil)) (pa_cons (pe_cmpR (u_eq (K := K) hr) (pv 1) pe_int (nomark _)) pa_nil))))))) (pss_one (ps_if (pt_cmpR (u_eq (K := K) hr) (pv 1) pe_int (nomark _))
  (pss_one (ps_set (i := 6) sc__law_read.nd rfl (by first | exact Or.inl rfl | exact Or.inr rfl) (pe_lst (pa_cons pe_str (pa_cons (pv 2) (pa_cons (pe_ix (u_ix (K := K)) (pv 0) pe_int (fun _ _ => rfl)) pa_nil)))))) (pss_one (ps_if (pt_cmpR (u_eq (K := K) hr) (pv 1) pe_int (nomark _))
  (pss_one (ps_set (i := 6) sc__law_read.nd rfl (by first | exact Or.inl rfl | exact Or.inr rfl) (pe_op (u_add (K := K)) (pe_op (u_add (K := K)) (pe_op (u_add (K := K)) (pe_lst (pa_cons pe_str pa_nil)) (pv 4)) (pe_lst (pa_cons (pv 3) (pa_cons (pe_ix (u_ix (K := K)) (pv 0) pe_int (fun _ _ => rfl)) (pa_cons (pe_ix (u_ix (K := K)) (pv 0) pe_int (fun _ _ => rfl)) (pa_cons (pe_ix (u_ix (K := K)) (pv 0) pe_int (fun _ _ => rfl)) pa_nil)))))) (pv 5)))) (pss_one (ps_if (pt_cmpR (u_eq (K := K) hr) (pv 1) pe_int (nomark _))
  (pss_one (ps_set (i := 6) sc__law_read.nd rfl (by first | exact Or.inl rfl | exact Or.inr rfl) (pe_op (u_add (K := K)) (pe_op (u_add (K := K)) (pe_op (u_add (K := K)) (pe_lst (pa_cons pe_str pa_nil)) (pv 4)) (pe_lst (pa_cons (pv 3) (pa_cons (pe_cal C__law_word hr.le pass0 (pa_cons (pe_slice (u_sl (K := K)) (pv 0) (po_some pe_int) (po_some pe_int)) (pa_cons (pe_ix (u_ix (K := K)) (pv 0) pe_int (fun _ _ => rfl)) pa_nil))) (pa_cons (pe_cal C__law_value hr.le pass0 (pa_cons (pe_slice (u_sl (K := K)) (pv 0) (po_some pe_int) (po_some pe_int)) pa_nil)) pa_nil))))) (pv 5)))) (pss_one (ps_if (pt_cmpR (u_eq (K := K) hr) (pv 1) pe_int (nomark _))
  (pss_one (ps_set (i := 6) sc__law_read.nd rfl (by first | exact Or.inl rfl | exact Or.inr rfl) (pe_op (u_add (K := K)) (pe_op (u_add (K := K)) (pe_op (u_add (K := K)) (pe_lst (pa_cons pe_str pa_nil)) (pv 4)) (pe_lst (pa_cons (pv 3) (pa_cons (pe_ix (u_ix (K := K)) (pv 0) pe_int (fun _ _ => rfl)) (pa_cons (pe_callTy (u_tup (K := K)) (by rfl) T.f_tuple (by decide +kernel) (pa_cons (pe_slice (u_sl (K := K)) (pv 0) (po_some pe_int) (po_some pe_int)) pa_nil)) pa_nil))))) (pv 5)))) (pss_one (ps_set (i := 6) sc__law_read.nd rfl (by first | exact Or.inl rfl | exact Or.inr rfl) (pe_op (u_add (K := K)) (pe_op (u_add (K := K)) (pe_op (u_add (K := K)) (pe_lst (pa_cons pe_str pa_nil)) (pv 4)) (pe_lst (pa_cons (pe_cal C__law_word hr.le pass0 (pa_cons (pe_slice (u_sl (K := K)) (pv 0) (po_some pe_int) (po_some pe_int)) (pa_cons (pe_ix (u_ix (K := K)) (pv 0) pe_int (fun _ _ => rfl)) pa_nil))) (pa_cons (pe_cmpR (u_eq (K := K) hr) (pe_ix (u_ix (K := K)) (pv 0) pe_int (fun _ _ => rfl)) pe_int (nomark _)) pa_nil)))) (pv 5)))))))))))))
  (pss_one (ps_ret (pe_ifExp (PW.pt (pw_and (pt_tru (K := K) (pe_cal C__law_good hr.le pass0 (pa_cons (pv 6) pa_nil)) (by intro _; rfl)) (pw_and1 (pt_cmpR (u_eq (K := K) hr) (pe_cal C__law_octets hr.le pass0 (pa_cons (pv 6) pa_nil)) (pe_callTy (u_tup (K := K)) (by rfl) T.f_tuple (by decide +kernel) (pa_cons (pv 0) pa_nil)) (nomark _))))) (pv 6) pe_non)))))))), ?_⟩)
  · obtain ⟨l, cs, rfl, _⟩ := h
    rfl
  · obtain ⟨l, cs, rfl, hl, h30, q0, q⟩ := h
    have at' : ∀ {σ : List (Option V)} {H' : Hp} {Q' : VK} (i : Nat), i < 30 → σ[0]? = some (some (.ref l)) → Evl.Ex H H' → Q' (.int (oc cs i)) H' → tOp (rIx K) (tVar 0) (tC (V.int (i : Int))) σ H' Q' := fun i hi hs e q' => ⟨_, hs, Sv.ix (x := .non) (Sv.lst (e _ _ hl)) (in_at (by rw [h30.1]; exact hi)) q'⟩
    obtain ⟨k, hk⟩ : ∃ k, cs.getD 0 0 = k := ⟨_, rfl⟩
    have ek : oc cs 0 = (k : Int) := congrArg Nat.cast hk
    have rf := Evl.Ex.refl H
    refine at' 0 (by decide) rfl rf ?_
    rw [ek]
    refine num_le 1 5 rfl hl h30 (by decide) (by decide) fun H1 e1 => ?_
    refine num_le 7 9 rfl (e1 _ _ hl) h30 (by decide) (by decide) fun H2 e2 => ?_
    have E2 := e1.trans e2
    refine ⟨_, _, _, rfl, _, rfl, at' 5 (by decide) rfl E2 (at' 6 (by decide) rfl E2 ⟨by show 3 ≤ sizeLine; decide, fun pl npl => ?_⟩)⟩
    have yp := Evl.Ex.new (o := .lst [V.int (num cs 1 4), .int (oc cs 5), .int (oc cs 6)]) npl
    have E3 := E2.trans yp
    have hpl := upd_same (H := H2) (a := pl) (o := .lst [V.int (num cs 1 4), .int (oc cs 5), .int (oc cs 6)])
    show tCall (spNumT K) [] E0 _ _ (upd H2 pl (.lst [V.int (num cs 1 4), .int (oc cs 5), .int (oc cs 6)])) _
    generalize upd H2 pl (.lst [V.int (num cs 1 4), .int (oc cs 5), .int (oc cs 6)]) = H3 at yp E3 hpl ⊢
    refine num_le 26 30 rfl (E3 _ _ hl) h30 (by decide) (by decide) fun H4 e4 => ⟨by show 1 ≤ sizeLine; decide, fun un nun => ⟨_, _, rfl, ?_⟩⟩
    have yu := Evl.Ex.new (o := .lst [V.int (num cs 26 4)]) nun
    have E4 := (E3.trans e4).trans yu
    have hpl4 := (e4.trans yu) _ _ hpl
    have hun := upd_same (H := H4) (a := un) (o := .lst [V.int (num cs 26 4)])
    show (tSeq _ _) _ _ (upd H4 un (.lst [V.int (num cs 26 4)]))
    generalize upd H4 un (.lst [V.int (num cs 26 4)]) = H5 at yu E4 hpl4 hun ⊢
    have kc : ∀ (n : Nat) (i : Int), i = (n : Int) → decide (V.int (k : Int) = V.int i) = decide (k = n) := fun n i e => decide_eq_decide.mpr ⟨fun h => by have := V.int.inj h; omega, fun h => by rw [h, e]⟩
    have fin : ∀ (r : Rc) (lr : Addr) (H' : Hp), rawL cs = some r → Evl.Ex H H' → RowAt H' lr r → (rdRet K) { nx := fun x H' => Q V.non H', rt := Q } [some (.ref l), some (.int (k : Int)), some (.int (num cs 1 4)), some (.int (num cs 7 2)), some (.ref pl), some (.ref un), some (.ref lr)] H' := by
      intro r lr H' er e R
      have lo := rawL_lo h30 er
      refine ⟨_, rfl, lr, r, rfl, R, lo.1, lo.2, fun b H6 hb e6 => ⟨b, rfl, ?_⟩⟩
      by_cases g : Good r
      · have : b = true := hb.mpr g
        subst this
        refine iteT ⟨_, rfl, lr, r, rfl, R.ex e6, g, fun p H7 e7 h7 => ⟨_, rfl, l, _, rfl, .inl ⟨SqL.of ((e.trans (e6.trans e7)) _ _ hl), fun p8 n8 => ?_⟩⟩⟩
        have y8 := Evl.Ex.new (o := .tup (IN cs)) n8
        refine .inr ⟨.tuple ((octs r).map .int), .tuple ((cs.map Int.ofNat).map .int), .tup (SqT.of (y8 _ _ h7)) (dp_ints _), .tup (SqT.of upd_same) (dp_ints _), tup_shaped _, tup_shaped _, _, rfl, ?_⟩
        rw [tup_eqv]
        have E8 := e.trans (e6.trans (e7.trans y8))
        refine ite2 (fun h => ⟨_, rfl, q r ((due_law h30).mpr ⟨er, g, of_decide_eq_true h⟩) lr _ E8 (R.ex (e6.trans (e7.trans y8)))⟩) (fun h => q0 (fun ⟨r', d⟩ => ?_) _ E8)
        obtain ⟨d1, d2, d3⟩ := (due_law h30).mp d
        rw [er] at d1
        cases d1
        exact h (decide_eq_true d3)
      · have : b = false := Bool.eq_false_iff.mpr fun z => g (hb.mp z)
        subst this
        refine iteF (q0 (fun ⟨r', d⟩ => ?_) _ (e.trans e6))
        obtain ⟨d1, d2, d3⟩ := (due_law h30).mp d
        rw [er] at d1
        cases d1
        exact g d2
    have no : rawL cs = none → RV .non H Q := fun en => q0 fun ⟨r, d⟩ => by
      have := ((due_law h30).mp d).1
      rw [en] at this
      cases this
    have dl : ∀ n : Nat, decide ((k : Int) < (n : Int)) = decide (k < n) := fun n => decide_eq_decide.mpr (by omega)
    have dg : ∀ n : Nat, decide ((n : Int) < (k : Int)) = decide (n < k) := fun n => decide_eq_decide.mpr (by omega)
    have qno : rawL cs = none → Q .non H5 := fun en => no en H5 E4
    have raw_none : ¬ (1 ≤ k ∧ k ≤ 7) → rawL cs = none := fun h => by
      unfold rawL
      rw [hk]
      split
      · exfalso; omega
      · exfalso; omega
      · unfold rawR
        rw [hk]
        split <;> first | rfl | (exfalso; omega)
    refine ⟨_, rfl, _, _, rfl, rfl, _, rfl, ?_⟩
    refine ite2 (fun h => iteT (qno (raw_none fun z => by have : (k : Int) < 1 := of_decide_eq_true h; omega))) (fun h1 => ?_)
    have k1 : ¬ (k : Int) < 1 := fun z => h1 (decide_eq_true z)
    refine ⟨_, rfl, _, _, rfl, rfl, _, rfl, ?_⟩
    refine ite2 (fun h => iteT (qno (raw_none fun z => by have : (7 : Int) < (k : Int) := of_decide_eq_true h; omega))) (fun h1 => ?_)
    have k7 : ¬ (7 : Int) < (k : Int) := fun z => h1 (decide_eq_true z)
    have wb := oc_bd h30
    -- the rows
    have rest : (k = 7 → cs.getD 7 0 ≤ 1) → (tSeq (rdRows K) (rdRet K)) { nx := fun x H' => Q V.non H', rt := Q } [some (.ref l), some (.int (k : Int)), some (.int (num cs 1 4)), some (.int (num cs 7 2)), some (.ref pl), some (.ref un), none] H5 := by
      intro h7
      have l0 := E4 _ _ hl
      have w0 := Evl.Ex.refl H5
      refine ⟨_, rfl, _, _, rfl, rfl, _, rfl, ?_⟩
      refine ite2 (fun h => ?_) (fun h => ?_)
      · have h : k < 3 := by have : (k : Int) < 3 := of_decide_eq_true h; omega
        have er : rawL cs = some (.head (num cs 1 4) (num cs 5 4) (decide (k = 2))) := by
          have : k = 1 ∨ k = 2 := by omega
          rcases this with h | h <;> subst h <;> (unfold rawL rawR; rw [hk]; rfl)
        refine ⟨_, rfl, num_le 5 9 rfl l0 h30 (by decide) (by decide) fun H6 e6 => ⟨_, rfl, .inl ⟨rfl, by show 4 ≤ sizeLine; decide, fun lr nr => ?_⟩⟩⟩
        rw [kc 2 2 rfl]
        exact fin _ lr _ er (E4.trans (e6.trans (Evl.Ex.new nr))) ⟨.non, upd_same, trivial⟩
      have k3 : 3 ≤ k := by have : ¬ (k : Int) < 3 := fun z => h (decide_eq_true z); omega
      refine ⟨_, rfl, .inl ⟨rfl, _, rfl, ?_⟩⟩
      rw [kc 3 3 rfl]
      by_cases e3 : k = 3
      · rw [decide_eq_true e3]
        have er : rawL cs = some (.sl (num cs 1 4) (oc cs 5)) := by subst e3; unfold rawL rawR; rw [hk]; rfl
        refine iteT ⟨_, rfl, at' 5 (by decide) rfl E4 ⟨by show 3 ≤ sizeLine; decide, fun lr nr => ?_⟩⟩
        exact fin _ lr _ er (E4.trans (Evl.Ex.new nr)) ⟨.non, upd_same, trivial⟩
      rw [decide_eq_false e3]
      refine iteF ⟨_, rfl, .inl ⟨rfl, _, rfl, ?_⟩⟩
      rw [kc 4 4 rfl]
      by_cases e4' : k = 4
      · rw [decide_eq_true e4']
        have er : rawL cs = some (.node (num cs 1 4) (oc cs 5) (oc cs 6) (num cs 7 2) (oc cs 9) (oc cs 10) (oc cs 11) (num cs 26 4)) := by subst e4'; unfold rawL rawR; rw [hk]; rfl
        refine iteT (cat3 rfl hpl4 (by show 3 ≤ 10; decide) fun p1 G1 g1 x1 => ?_)
        have F1 := E4.trans g1
        refine ⟨_, rfl, at' 9 (by decide) rfl F1 (at' 10 (by decide) rfl F1 (at' 11 (by decide) rfl F1 ?_))⟩
        exact cat3e rfl x1 (g1 _ _ hun) (by simp) fun lr G2 g2 x2 => fin _ lr _ er (F1.trans g2) ⟨.non, x2, trivial⟩
      rw [decide_eq_false e4']
      refine iteF ⟨_, rfl, .inl ⟨rfl, _, rfl, ?_⟩⟩
      rw [kc 5 5 rfl]
      by_cases e5 : k = 5
      · rw [decide_eq_true e5]
        have er : rawL cs = some (.name (num cs 1 4) (oc cs 5) (oc cs 6) (num cs 7 2) (wrl ((cs.drop 12).take 14) (cs.getD 11 0)) (num cs 9 2) (num cs 26 4)) := by subst e5; unfold rawL; rw [hk]; rfl
        refine iteT (cat3 rfl hpl4 (by show 3 ≤ 10; decide) fun p1 G1 g1 x1 => ?_)
        have F1 := E4.trans g1
        refine ⟨_, rfl, word_le 12 26 11 rfl (F1 _ _ hl) h30 (by decide) (by decide) fun G2 g2 => num_le 9 11 rfl ((F1.trans g2) _ _ hl) h30 (by decide) (by decide) fun G3 g3 => ?_⟩
        have F3 := F1.trans (g2.trans g3)
        have g23 := g2.trans g3
        exact cat3e rfl (g23 _ _ x1) ((g1.trans g23) _ _ hun) (by simp) fun lr G4 g4 x4 => fin _ lr _ er (F3.trans g4) ⟨.non, x4, trivial⟩
      rw [decide_eq_false e5]
      refine iteF ⟨_, rfl, .inl ⟨rfl, _, rfl, ?_⟩⟩
      rw [kc 6 6 rfl]
      by_cases e6 : k = 6
      · rw [decide_eq_true e6]
        have er : rawL cs = some (.chunk (num cs 1 4) (oc cs 5) (oc cs 6) (num cs 7 2) (oc cs 9) (sl cs 10 16) (num cs 26 4)) := by subst e6; unfold rawL rawR; rw [hk]; rfl
        refine iteT (cat3 rfl hpl4 (by show 3 ≤ 10; decide) fun p1 G1 g1 x1 => ?_)
        have F1 := E4.trans g1
        refine ⟨_, rfl, at' 9 (by decide) rfl F1 ⟨_, rfl, _, rfl, _, rfl, .inl ⟨l, _, rfl, SqL.of (F1 _ _ hl), fun q1 n1 => ⟨q1, _, rfl, .inl ⟨SqL.of upd_same, fun q2 n2 => ?_⟩⟩⟩⟩⟩
        have y1 := Evl.Ex.new (o := .lst (cutV (IN cs) (some 10) (some 26))) n1
        have y2 := Evl.Ex.new (o := .tup (cutV (IN cs) (some 10) (some 26))) n2
        have g12 := y1.trans y2
        refine cat3e rfl (g12 _ _ x1) ((g1.trans g12) _ _ hun) (by simp) fun lr G4 g4 x4 => fin _ lr _ er (F1.trans (g12.trans g4)) ⟨.ref q2, x4, q2, rfl, g4 _ _ ?_⟩
        rw [upd_same, show cutV (IN cs) (some 10) (some 26) = IV (sl cs 10 16) from in_cut (i := 10) (j := 26) (by decide)]
      rw [decide_eq_false e6]
      have e7 : k = 7 := by omega
      have er : rawL cs = some (.keep (num cs 1 4) (oc cs 5) (oc cs 6) (wrl ((cs.drop 9).take 17) (cs.getD 8 0)) (cs.getD 7 0 == 1) (num cs 26 4)) := by
        have := h7 e7
        subst e7
        unfold rawL
        rw [hk]
        exact if_pos this
      refine iteF (cat3 rfl hpl4 (by show 3 ≤ 10; decide) fun p1 G1 g1 x1 => ?_)
      have F1 := E4.trans g1
      refine word_le 9 26 8 rfl (F1 _ _ hl) h30 (by decide) (by decide) fun G2 g2 => at' 7 (by decide) rfl (F1.trans g2) (.inl ⟨rfl, ?_⟩)
      have eb : decide (V.int (oc cs 7) = V.int 1) = (cs.getD 7 0 == 1) := by
        rw [dki, Bool.eq_iff_iff, decide_eq_true_eq, beq_iff_eq]
        show ((cs.getD 7 0 : Nat) : Int) = 1 ↔ _
        omega
      rw [eb]
      exact cat3e rfl (g2 _ _ x1) ((g1.trans g2) _ _ hun) (by simp) fun lr G4 g4 x4 => fin _ lr _ er (F1.trans (g2.trans g4)) ⟨.non, x4, trivial⟩
    refine ⟨_, rfl, .inl ⟨rfl, _, rfl, ?_⟩⟩
    rw [kc 7 7 rfl]
    by_cases e7 : k = 7
    · rw [decide_eq_true e7]
      refine iteT (at' 7 (by decide) rfl E4 ⟨_, _, rfl, rfl, _, rfl, ?_⟩)
      refine ite2 (fun h => ?_) (fun h => ?_)
      · refine qno ?_
        have h : (1 : Int) < ((cs.getD 7 0 : Nat) : Int) := of_decide_eq_true h
        unfold rawL
        rw [hk, e7]
        exact if_neg (by omega)
      · have h : ¬ (1 : Int) < ((cs.getD 7 0 : Nat) : Int) := fun z => h (decide_eq_true z)
        exact rest fun _ => by omega
    · rw [decide_eq_false e7]
      exact iteF (iteF (rest fun z => absurd z e7))
end
end K12
/-! other octets -/
namespace K12
open PySem PySem.Spec PyProof.Rows L2 VB BM
theorem o30_of {xs : List Int} (h : Oct xs) (l : xs.length = 30) : O30 (xs.map Int.toNat) ∧ IV xs = IN (xs.map Int.toNat) := by
  refine ⟨⟨by rw [List.length_map, l], fun x hx => ?_⟩, ?_⟩
  · obtain ⟨y, hy, rfl⟩ := List.mem_map.mp hx
    have := h y hy
    omega
  · show List.map V.int xs = List.map V.int ((xs.map Int.toNat).map Int.ofNat)
    rw [List.map_map, List.map_map]
    refine List.map_congr_left fun x hx => ?_
    have := h x hx
    show V.int x = V.int (Int.ofNat x.toNat)
    congr 1
    show x = ((x.toNat : Nat) : Int)
    omega
theorem oct_all {xs : List Int} (h : xs.all (fun x => decide (0 ≤ x) && decide (x ≤ 255)) = true) : Oct xs := fun x hx => by
  have := List.all_eq_true.mp h x hx
  rw [Bool.and_eq_true, decide_eq_true_eq, decide_eq_true_eq] at this
  exact this
theorem oct_app {xs ys : List Int} (h : Oct xs) (h' : Oct ys) : Oct (xs ++ ys) := fun z hz => by
  rcases List.mem_append.mp hz with h1 | h1
  · exact h z h1
  · exact h' z h1
theorem oct_in {cs : List Nat} (h : ∀ x ∈ cs, x ≤ 255) : Oct (cs.map Int.ofNat) := fun z hz => by
  obtain ⟨x, hx, rfl⟩ := List.mem_map.mp hz
  have := h x hx
  show 0 ≤ (x : Int) ∧ (x : Int) ≤ 255
  omega
section
variable {P : Program} {w : World} {K : PySem.W.Frag} {mg : Str → Option Value} {base : Heap} {f : Addr} {fd : FuncData}
/-- where a menu is made -/
structure Cx (bx l nx : Addr) (cs : List Nat) (ns : List Int) (σ : List (Option V)) (H : Hp) : Prop where
  s1 : σ[1]? = some (some (.ref l))
  s2 : σ[2]? = some (some (.ref nx))
  h1 : H l = some (.lst (IN cs))
  h2 : H nx = some (.lst (IV ns))
  n1 : nx ≠ bx
  o1 : O30 cs
  o2 : Oct ns
  l2 : ns.length = 4
  bb : ∃ n, Box H bx n
theorem Cx.ex {bx l nx : Addr} {cs : List Nat} {ns : List Int} {σ : List (Option V)} {H H' : Hp} (c : Cx bx l nx cs ns σ H) (e : Evl.Ex H H') : Cx bx l nx cs ns σ H' :=
  ⟨c.s1, c.s2, e _ _ c.h1, e _ _ c.h2, c.n1, c.o1, c.o2, c.l2, by obtain ⟨n, b⟩ := c.bb; exact ⟨n, b.ex e⟩⟩
/-- octets to put -/
def Put (bx : Addr) (H : Hp) (m : Nat) (p : Addr) (xs : List Int) : Prop := H p = some (.lst (IV xs)) ∧ p ≠ bx ∧ Oct xs ∧ xs.length ≤ m
def PairAt (bx : Addr) (H : Hp) (q : Addr) : Prop := ∃ (i : Nat) (p : Addr) (xs : List Int), H q = some (.tup [.int (i : Int), .ref p]) ∧ Put bx H (30 - i) p xs ∧ i ≤ 30
theorem PairAt.ex {bx q : Addr} {H H' : Hp} (h : PairAt bx H q) (e : Evl.Ex H H') : PairAt bx H' q := by
  obtain ⟨i, p, xs, h1, ⟨h2, h3⟩, h4⟩ := h
  exact ⟨i, p, xs, e _ _ h1, ⟨e _ _ h2, h3⟩, h4⟩
def Lit (ta : TA) (xs : List Int) : Prop := ∀ (σ : List (Option V)) (H : Hp) (Q : List V → Hp → Prop), Q (IV xs) H → ta σ H Q
theorem lit_nil : Lit tNil [] := fun _ _ _ q => q
theorem lit_cons {ta : TA} {x : Int} {xs : List Int} (h : Lit ta xs) : Lit (tCons (tC (V.int x)) ta) (x :: xs) := fun σ H Q q => h σ H _ q
def Li (bx l nx : Addr) (cs : List Nat) (ns : List Int) (m : Nat) (t : TE) : Prop := ∀ (σ : List (Option V)) (H : Hp) (Q : VK), Cx bx l nx cs ns σ H → (∀ (p : Addr) (xs : List Int) (H' : Hp), Evl.Ex H H' → Put bx H' m p xs → Q (.ref p) H') → t σ H Q
def It (bx l nx : Addr) (cs : List Nat) (ns : List Int) (t : TE) : Prop := ∀ (σ : List (Option V)) (H : Hp) (Q : VK), Cx bx l nx cs ns σ H → (∀ (q : Addr) (H' : Hp), Evl.Ex H H' → PairAt bx H' q → Q (.ref q) H') → t σ H Q
def Its (bx l nx : Addr) (cs : List Nat) (ns : List Int) (k : Nat) (ta : TA) : Prop := ∀ (σ : List (Option V)) (H : Hp) (Q : List V → Hp → Prop), Cx bx l nx cs ns σ H → (∀ (vs : List V) (H' : Hp), Evl.Ex H H' → vs.length = k → (∀ v ∈ vs, ∃ q, v = .ref q ∧ PairAt bx H' q) → Q vs H') → ta σ H Q
variable {bx l nx : Addr} {cs : List Nat} {ns : List Int}
theorem li_lit {ta : TA} {xs : List Int} (h : Lit ta xs) (a : xs.all (fun x => decide (0 ≤ x) && decide (x ≤ 255)) = true) (z : decide (xs.length ≤ 100) = true) : Li bx l nx cs ns xs.length (tLst ta) := fun σ H Q c q => by
  refine h σ H _ ⟨by rw [iv_len]; exact Nat.le_trans (of_decide_eq_true z) (by decide), fun p np => ?_⟩
  obtain ⟨n, B⟩ := c.bb
  exact q p xs _ (Evl.Ex.new np) ⟨upd_same, B.at np, oct_all a, Nat.le_refl _⟩
theorem li_next : Li bx l nx cs ns 4 (tVar 2) := fun σ H Q c q => ⟨_, c.s2, q nx ns H (Evl.Ex.refl _) ⟨c.h2, c.n1, c.o2, Nat.le_of_eq c.l2⟩⟩
theorem li_sl : Li bx l nx cs ns 4 (tSl (rSlU K) (tVar 1) (tPart (tC (V.int 1))) (tPart (tC (V.int 5)))) := fun σ H Q c q => by
  refine ⟨_, c.s1, _, rfl, _, rfl, .inl ⟨l, _, rfl, SqL.of c.h1, fun p np => ?_⟩⟩
  obtain ⟨n, B⟩ := c.bb
  have e : cutV (IN cs) (some 1) (some 5) = IV (sl cs 1 4) := in_cut (i := 1) (j := 5) (by decide)
  exact q p (sl cs 1 4) _ (Evl.Ex.new np) ⟨by rw [upd_same, e], B.at np, sl_oct c.o1.2 _ _, by rw [List.length_map, List.length_take]; omega⟩
theorem li_rep {x : Int} {n : Int} (a : (decide (0 ≤ x) && decide (x ≤ 255) && decide (0 < n) && decide (n ≤ 100)) = true) : Li bx l nx cs ns n.toNat (tOp (rMulU K) (tLst (tCons (tC (V.int x)) tNil)) (tC (V.int n))) := fun σ H Q c q => by
  simp only [Bool.and_eq_true, decide_eq_true_eq] at a
  obtain ⟨⟨⟨x0, x1⟩, n0⟩, n1⟩ := a
  refine ⟨by show 1 ≤ sizeLine; decide, fun p np => ?_⟩
  have y := Evl.Ex.new (o := .lst [V.int x]) np
  obtain ⟨m, B⟩ := c.bb
  refine .inr (.inl ⟨p, n, _, rfl, rfl, upd_same, by omega, by omega, ?_, fun r nr => ?_⟩)
  · show 1 * n.toNat ≤ sizeLine
    exact Nat.le_trans (show 1 * n.toNat ≤ 1000 by omega) (by decide)
  · have er : (List.replicate n.toNat [V.int x]).flatten = IV (List.replicate n.toNat x) := by
      rw [List.flatten_replicate_singleton, iv_rep]
    rw [er]
    refine q r _ _ (y.trans (Evl.Ex.new nr)) ⟨upd_same, (B.ex y).at nr, fun z hz => ?_, by rw [List.length_replicate]; exact Nat.le_refl _⟩
    rw [List.eq_of_mem_replicate hz]
    exact ⟨x0, x1⟩
theorem li_add {m k : Nat} {a b : TE} (ha : Li bx l nx cs ns m a) (hb : Li bx l nx cs ns k b) (z : decide (m + k ≤ 100) = true) : Li bx l nx cs ns (m + k) (tOp (rAddU K) a b) := fun σ H Q c q => by
  have z := of_decide_eq_true z
  refine ha σ H _ c fun p xs H1 e1 P1 => hb σ H1 _ (c.ex e1) fun p' ys H2 e2 P2 => ?_
  refine cat_l (e2 _ _ P1.1) P2.1 (by rw [iv_len, iv_len]; have := P1.2.2.2; have := P2.2.2.2; omega) fun r H3 n3 e3 h3 => ?_
  obtain ⟨n, B⟩ := (c.ex (e1.trans e2)).bb
  refine q r (xs ++ ys) H3 (e1.trans (e2.trans e3)) ⟨by rw [h3, iv_app], B.at n3, oct_app P1.2.2.1 P2.2.2.1, ?_⟩
  rw [List.length_append]
  have := P1.2.2.2
  have := P2.2.2.2
  omega
theorem it_tup {m : Nat} {i : Int} {t : TE} (h : Li bx l nx cs ns m t) (z : (decide (0 ≤ i) && decide (i.toNat + m ≤ 30)) = true) : It bx l nx cs ns (tTup (tCons (tC (V.int i)) (tCons t tNil))) := fun σ H Q c q => by
  rw [Bool.and_eq_true, decide_eq_true_eq, decide_eq_true_eq] at z
  refine h σ H _ c fun p xs H1 e1 P1 => ⟨by show 2 ≤ sizeLine; decide, fun r nr => ?_⟩
  have y := Evl.Ex.new (o := .tup [V.int i, .ref p]) nr
  refine q r _ (e1.trans y) ⟨i.toNat, p, xs, ?_, ⟨y _ _ P1.1, P1.2.1, P1.2.2.1, by have := P1.2.2.2; omega⟩, by omega⟩
  rw [upd_same, show ((i.toNat : Nat) : Int) = i by omega]
theorem its_nil : Its bx l nx cs ns 0 tNil := fun σ H Q c q => q [] H (Evl.Ex.refl _) rfl fun v hv => by cases hv
theorem its_cons {k : Nat} {t : TE} {ta : TA} (h : It bx l nx cs ns t) (h' : Its bx l nx cs ns k ta) : Its bx l nx cs ns (k + 1) (tCons t ta) := fun σ H Q c q => by
  refine h σ H _ c fun p H1 e1 P1 => h' σ H1 _ (c.ex e1) fun vs H2 e2 lv hv => q _ H2 (e1.trans e2) (by rw [List.length_cons, lv]) fun v hv' => ?_
  rcases List.mem_cons.mp hv' with rfl | hv'
  · exact ⟨p, rfl, P1.ex e2⟩
  · exact hv v hv'
theorem lst_its {k : Nat} {ta : TA} {σ : List (Option V)} {H : Hp} {Q : VK} (h : Its bx l nx cs ns k ta) (z : decide (k ≤ 100) = true) (c : Cx bx l nx cs ns σ H) (q : ∀ (vs : List V) (m : Addr) (H' : Hp), Evl.Ex H H' → vs.length = k → (∀ v ∈ vs, ∃ q, v = .ref q ∧ PairAt bx H' q) → H' m = some (.lst vs) → m ≠ bx → Q (.ref m) H') : tLst ta σ H Q := by
  refine h σ H _ c fun vs H1 e1 lv hv => ⟨by rw [lv]; exact Nat.le_trans (of_decide_eq_true z) (by decide), fun m nm => ?_⟩
  have y := Evl.Ex.new (o := .lst vs) nm
  obtain ⟨n, B⟩ := (c.ex e1).bb
  refine q vs m _ (e1.trans y) lv (fun v hv' => ?_) upd_same (B.at nm)
  obtain ⟨a, e, p⟩ := hv v hv'
  exact ⟨a, e, p.ex y⟩
theorem seq_its {k : Nat} {ta : TA} {g : TG} {R : TS} {D : Ends} {σ : List (Option V)} {H : Hp} (h : Its bx l nx cs ns k ta) (z : decide (k ≤ 100) = true) (c : Cx bx l nx cs ns σ H) (q : ∀ (vs : List V) (m : Addr) (H' : Hp), Evl.Ex H H' → vs.length = k → (∀ v ∈ vs, ∃ q, v = .ref q ∧ PairAt bx H' q) → H' m = some (.lst vs) → m ≠ bx → g (.ref m) σ H' (R D)) : tSeq (tAsg (tLst ta) g) R D σ H :=
  show tLst ta σ H (fun v H1 => g v σ H1 (R D)) from lst_its h z c q
theorem gnx {i : Nat} {v : V} {σ : List (Option V)} {H : Hp} {A R : TS} {D : Ends} {r : VK} (h : tSeq A R D (σ.set i (some v)) H) : gName i v σ H (Ends.nx { nx := tSeq A R D, rt := r }) := h
def spField : Sp := fun vs H Q _ => ∃ (bx l : Addr) (n : Int) (cs : List Nat), vs = [.ref bx, .ref l] ∧ H l = some (.lst (IN cs)) ∧ l ≠ bx ∧ O30 cs ∧ Box H bx n ∧ n < 99990000 ∧
  ∀ (l' : Addr) (ds : List Nat) (H' : Hp), Exb bx H H' → Box H' bx (n + 1) → H' l' = some (.lst (IN ds)) → l' ≠ bx → O30 ds → Q (.ref l') H'
theorem ok_field (T : Txt K mg) (F : FnP K "_law_field" s__law_field f fd) (C__law_take : Cal P w K mg base CX0 1 "_law_take" ["_law_box_here", "_law_many"] spTake) : Fg P w K mg base CX0 2 f fd ["_law_box_here", "_law_octets_here"] spField := by
  refine fg_of F sc__law_field (fun vs H Q E h => ?_) (fun cdv A outer s H vs Q E hr h => ⟨_, (PSs.nox (pss_cons (ps_set (i := 2) sc__law_field.nd rfl (by first | exact Or.inl rfl | exact Or.inr rfl) (pe_op (u_add (K := K)) (pe_slice (u_sl (K := K)) (pv 1) (po_some pe_int) (po_some pe_int)) (pe_lst (pa_cons (pe_callB (call_min2 rfl) (by rfl) T.f_min (by decide +kernel) (pa_cons pe_int (pa_cons (pe_op (u_add (K := K)) (pe_ix (u_ix (K := K)) (pv 1) pe_int (fun _ _ => rfl)) pe_int) pa_nil))) pa_nil))))
  (pss_cons (ps_set (i := 3) sc__law_field.nd rfl (by first | exact Or.inl rfl | exact Or.inr rfl) (pe_lst (pa_cons (pe_tup (pa_cons pe_int (pa_cons (pe_lst (pa_cons pe_int (pa_cons pe_int (pa_cons pe_int (pa_cons pe_int pa_nil))))) pa_nil))) (pa_cons (pe_tup (pa_cons pe_int (pa_cons (pe_lst (pa_cons pe_int (pa_cons pe_int (pa_cons pe_int (pa_cons pe_int pa_nil))))) pa_nil))) (pa_cons (pe_tup (pa_cons pe_int (pa_cons (pe_lst (pa_cons pe_int (pa_cons pe_int (pa_cons pe_int (pa_cons pe_int pa_nil))))) pa_nil))) (pa_cons (pe_tup (pa_cons pe_int (pa_cons (pe_lst (pa_cons pe_int (pa_cons pe_int (pa_cons pe_int (pa_cons pe_int pa_nil))))) pa_nil))) (pa_cons (pe_tup (pa_cons pe_int (pa_cons (pe_lst (pa_cons pe_int (pa_cons pe_int (pa_cons pe_int (pa_cons pe_int pa_nil))))) pa_nil))) (pa_cons (pe_tup (pa_cons pe_int (pa_cons (pe_slice (u_sl (K := K)) (pv 1) (po_some pe_int) (po_some pe_int)) pa_nil))) (pa_cons (pe_tup (pa_cons pe_int (pa_cons (pv 2) pa_nil))) (pa_cons (pe_tup (pa_cons pe_int (pa_cons (pe_lst (pa_cons pe_int (pa_cons pe_int pa_nil))) pa_nil))) (pa_cons (pe_tup (pa_cons pe_int (pa_cons (pe_lst (pa_cons pe_int (pa_cons pe_int pa_nil))) pa_nil))) (pa_cons (pe_tup (pa_cons pe_int (pa_cons (pe_lst (pa_cons pe_int (pa_cons pe_int pa_nil))) pa_nil))) (pa_cons (pe_tup (pa_cons pe_int (pa_cons (pe_lst (pa_cons pe_int (pa_cons pe_int pa_nil))) pa_nil))) (pa_cons (pe_tup (pa_cons pe_int (pa_cons (pe_lst (pa_cons pe_int (pa_cons pe_int pa_nil))) pa_nil))) (pa_cons (pe_tup (pa_cons pe_int (pa_cons (pe_lst (pa_cons pe_int (pa_cons pe_int pa_nil))) pa_nil))) (pa_cons (pe_tup (pa_cons pe_int (pa_cons (pe_lst (pa_cons pe_int (pa_cons pe_int pa_nil))) pa_nil))) (pa_cons (pe_tup (pa_cons pe_int (pa_cons (pe_lst (pa_cons pe_int (pa_cons pe_int pa_nil))) pa_nil))) (pa_cons (pe_tup (pa_cons pe_int (pa_cons (pe_lst (pa_cons pe_int (pa_cons pe_int pa_nil))) pa_nil))) (pa_cons (pe_tup (pa_cons pe_int (pa_cons (pe_lst (pa_cons pe_int pa_nil)) pa_nil))) (pa_cons (pe_tup (pa_cons pe_int (pa_cons (pe_lst (pa_cons pe_int pa_nil)) pa_nil))) (pa_cons (pe_tup (pa_cons pe_int (pa_cons (pe_lst (pa_cons pe_int (pa_cons pe_int pa_nil))) pa_nil))) (pa_cons (pe_tup (pa_cons pe_int (pa_cons (pe_lst (pa_cons pe_int (pa_cons pe_int pa_nil))) pa_nil))) (pa_cons (pe_tup (pa_cons pe_int (pa_cons (pe_lst (pa_cons pe_int (pa_cons pe_int pa_nil))) pa_nil))) (pa_cons (pe_tup (pa_cons pe_int (pa_cons (pe_lst (pa_cons pe_int (pa_cons pe_int pa_nil))) pa_nil))) (pa_cons (pe_tup (pa_cons pe_int (pa_cons (pe_lst (pa_cons pe_int (pa_cons pe_int pa_nil))) pa_nil))) (pa_cons (pe_tup (pa_cons pe_int (pa_cons (pe_lst (pa_cons pe_int (pa_cons pe_int pa_nil))) pa_nil))) (pa_cons (pe_tup (pa_cons pe_int (pa_cons (pe_lst (pa_cons pe_int (pa_cons pe_int pa_nil))) pa_nil))) (pa_cons (pe_tup (pa_cons pe_int (pa_cons (pe_lst (pa_cons pe_int (pa_cons pe_int (pa_cons pe_int pa_nil)))) pa_nil))) (pa_cons (pe_tup (pa_cons pe_int (pa_cons (pe_lst (pa_cons pe_int (pa_cons pe_int (pa_cons pe_int pa_nil)))) pa_nil))) (pa_cons (pe_tup (pa_cons pe_int (pa_cons (pe_lst (pa_cons pe_int (pa_cons pe_int (pa_cons pe_int pa_nil)))) pa_nil))) (pa_cons (pe_tup (pa_cons pe_int (pa_cons (pe_lst (pa_cons pe_int (pa_cons pe_int (pa_cons pe_int pa_nil)))) pa_nil))) (pa_cons (pe_tup (pa_cons pe_int (pa_cons (pe_lst (pa_cons pe_int (pa_cons pe_int (pa_cons pe_int pa_nil)))) pa_nil))) (pa_cons (pe_tup (pa_cons pe_int (pa_cons (pe_lst (pa_cons pe_int (pa_cons pe_int (pa_cons pe_int pa_nil)))) pa_nil))) (pa_cons (pe_tup (pa_cons pe_int (pa_cons (pe_lst (pa_cons pe_int (pa_cons pe_int (pa_cons pe_int pa_nil)))) pa_nil))) (pa_cons (pe_tup (pa_cons pe_int (pa_cons (pe_lst (pa_cons pe_int (pa_cons pe_int (pa_cons pe_int pa_nil)))) pa_nil))) (pa_cons (pe_tup (pa_cons pe_int (pa_cons (pe_lst (pa_cons pe_int (pa_cons pe_int (pa_cons pe_int pa_nil)))) pa_nil))) (pa_cons (pe_tup (pa_cons pe_int (pa_cons (pe_lst (pa_cons pe_int (pa_cons pe_int (pa_cons pe_int pa_nil)))) pa_nil))) (pa_cons (pe_tup (pa_cons pe_int (pa_cons (pe_lst (pa_cons pe_int (pa_cons pe_int (pa_cons pe_int pa_nil)))) pa_nil))) (pa_cons (pe_tup (pa_cons pe_int (pa_cons (pe_lst (pa_cons pe_int (pa_cons pe_int (pa_cons pe_int pa_nil)))) pa_nil))) (pa_cons (pe_tup (pa_cons pe_int (pa_cons (pe_lst (pa_cons pe_int (pa_cons pe_int (pa_cons pe_int pa_nil)))) pa_nil))) (pa_cons (pe_tup (pa_cons pe_int (pa_cons (pe_lst (pa_cons pe_int (pa_cons pe_int (pa_cons pe_int pa_nil)))) pa_nil))) (pa_cons (pe_tup (pa_cons pe_int (pa_cons (pe_lst (pa_cons pe_int (pa_cons pe_int (pa_cons pe_int pa_nil)))) pa_nil))) (pa_cons (pe_tup (pa_cons pe_int (pa_cons (pe_lst (pa_cons pe_int pa_nil)) pa_nil))) (pa_cons (pe_tup (pa_cons pe_int (pa_cons (pe_lst (pa_cons pe_int pa_nil)) pa_nil))) (pa_cons (pe_tup (pa_cons pe_int (pa_cons (pe_lst (pa_cons pe_int pa_nil)) pa_nil))) (pa_cons (pe_tup (pa_cons pe_int (pa_cons (pe_op (u_add (K := K)) (pe_lst (pa_cons pe_int (pa_cons pe_int pa_nil))) (pe_op (u_mul (K := K)) (pe_lst (pa_cons pe_int pa_nil)) pe_int)) pa_nil))) (pa_cons (pe_tup (pa_cons pe_int (pa_cons (pe_op (u_add (K := K)) (pe_op (u_add (K := K)) (pe_lst (pa_cons pe_int pa_nil)) (pe_op (u_mul (K := K)) (pe_lst (pa_cons pe_int pa_nil)) pe_int)) (pe_op (u_mul (K := K)) (pe_lst (pa_cons pe_int pa_nil)) pe_int)) pa_nil))) (pa_cons (pe_tup (pa_cons pe_int (pa_cons (pe_op (u_add (K := K)) (pe_op (u_add (K := K)) (pe_lst (pa_cons pe_int pa_nil)) (pe_op (u_mul (K := K)) (pe_lst (pa_cons pe_int pa_nil)) pe_int)) (pe_op (u_mul (K := K)) (pe_lst (pa_cons pe_int pa_nil)) pe_int)) pa_nil))) (pa_cons (pe_tup (pa_cons pe_int (pa_cons (pe_op (u_add (K := K)) (pe_lst (pa_cons pe_int (pa_cons pe_int (pa_cons pe_int pa_nil)))) (pe_op (u_mul (K := K)) (pe_lst (pa_cons pe_int pa_nil)) pe_int)) pa_nil))) (pa_cons (pe_tup (pa_cons pe_int (pa_cons (pe_op (u_add (K := K)) (pe_lst (pa_cons pe_int (pa_cons pe_int (pa_cons pe_int pa_nil)))) (pe_op (u_mul (K := K)) (pe_lst (pa_cons pe_int pa_nil)) pe_int)) pa_nil))) (pa_cons (pe_tup (pa_cons pe_int (pa_cons (pe_op (u_add (K := K)) (pe_lst (pa_cons pe_int (pa_cons pe_int (pa_cons pe_int pa_nil)))) (pe_op (u_mul (K := K)) (pe_lst (pa_cons pe_int pa_nil)) pe_int)) pa_nil))) (pa_cons (pe_tup (pa_cons pe_int (pa_cons (pe_op (u_add (K := K)) (pe_lst (pa_cons pe_int (pa_cons pe_int (pa_cons pe_int pa_nil)))) (pe_op (u_mul (K := K)) (pe_lst (pa_cons pe_int pa_nil)) pe_int)) pa_nil))) (pa_cons (pe_tup (pa_cons pe_int (pa_cons (pe_lst (pa_cons pe_int pa_nil)) pa_nil))) (pa_cons (pe_tup (pa_cons pe_int (pa_cons (pe_slice (u_sl (K := K)) (pv 1) (po_some pe_int) (po_some pe_int)) pa_nil))) (pa_cons (pe_tup (pa_cons pe_int (pa_cons (pv 2) pa_nil))) (pa_cons (pe_tup (pa_cons pe_int (pa_cons (pe_lst (pa_cons pe_int (pa_cons pe_int (pa_cons pe_int (pa_cons pe_int pa_nil))))) pa_nil))) (pa_cons (pe_tup (pa_cons pe_int (pa_cons (pe_lst (pa_cons pe_int (pa_cons pe_int (pa_cons pe_int (pa_cons pe_int pa_nil))))) pa_nil))) (pa_cons (pe_tup (pa_cons pe_int (pa_cons (pe_lst (pa_cons pe_int (pa_cons pe_int (pa_cons pe_int (pa_cons pe_int pa_nil))))) pa_nil))) (pa_cons (pe_tup (pa_cons pe_int (pa_cons (pe_op (u_add (K := K)) (pe_lst (pa_cons pe_int (pa_cons pe_int (pa_cons pe_int pa_nil)))) (pe_op (u_mul (K := K)) (pe_lst (pa_cons pe_int pa_nil)) pe_int)) pa_nil))) (pa_cons (pe_tup (pa_cons pe_int (pa_cons (pe_op (u_add (K := K)) (pe_op (u_add (K := K)) (pe_lst (pa_cons pe_int (pa_cons pe_int pa_nil))) (pe_op (u_mul (K := K)) (pe_lst (pa_cons pe_int pa_nil)) pe_int)) (pe_op (u_mul (K := K)) (pe_lst (pa_cons pe_int pa_nil)) pe_int)) pa_nil))) (pa_cons (pe_tup (pa_cons pe_int (pa_cons (pe_op (u_add (K := K)) (pe_lst (pa_cons pe_int (pa_cons pe_int (pa_cons pe_int pa_nil)))) (pe_op (u_mul (K := K)) (pe_lst (pa_cons pe_int pa_nil)) pe_int)) pa_nil))) (pa_cons (pe_tup (pa_cons pe_int (pa_cons (pe_op (u_add (K := K)) (pe_op (u_add (K := K)) (pe_lst (pa_cons pe_int (pa_cons pe_int pa_nil))) (pe_op (u_mul (K := K)) (pe_lst (pa_cons pe_int pa_nil)) pe_int)) (pe_op (u_mul (K := K)) (pe_lst (pa_cons pe_int pa_nil)) pe_int)) pa_nil))) (pa_cons (pe_tup (pa_cons pe_int (pa_cons (pe_op (u_add (K := K)) (pe_lst (pa_cons pe_int (pa_cons pe_int pa_nil))) (pe_op (u_mul (K := K)) (pe_lst (pa_cons pe_int pa_nil)) pe_int)) pa_nil))) (pa_cons (pe_tup (pa_cons pe_int (pa_cons (pe_op (u_add (K := K)) (pe_lst (pa_cons pe_int (pa_cons pe_int (pa_cons pe_int (pa_cons pe_int pa_nil))))) (pe_op (u_mul (K := K)) (pe_lst (pa_cons pe_int pa_nil)) pe_int)) pa_nil))) (pa_cons (pe_tup (pa_cons pe_int (pa_cons (pe_op (u_add (K := K)) (pe_lst (pa_cons pe_int (pa_cons pe_int (pa_cons pe_int (pa_cons pe_int pa_nil))))) (pe_op (u_mul (K := K)) (pe_lst (pa_cons pe_int pa_nil)) pe_int)) pa_nil))) (pa_cons (pe_tup (pa_cons pe_int (pa_cons (pe_op (u_add (K := K)) (pe_lst (pa_cons pe_int (pa_cons pe_int (pa_cons pe_int (pa_cons pe_int pa_nil))))) (pe_op (u_mul (K := K)) (pe_lst (pa_cons pe_int pa_nil)) pe_int)) pa_nil))) pa_nil))))))))))))))))))))))))))))))))))))))))))))))))))))))))))))))))))
  (pss_cons (ps_asg (pe_ix (u_ix (K := K)) (pv 3) (pe_cal C__law_take hr.le pass0 (pa_cons (pv 0) (pa_cons (pe_callB (u_len (K := K)) (by rfl) T.f_len (by decide +kernel) (pa_cons (pv 3) pa_nil)) pa_nil))) (fun _ _ => rfl)) (pg_tupU (K := K) (n := 2) rfl (pgs_cons (pg_name (i := 4) sc__law_field.nd rfl (by first | exact Or.inl rfl | exact Or.inr rfl)) (pgs_cons (pg_name (i := 5) sc__law_field.nd rfl (by first | exact Or.inl rfl | exact Or.inr rfl)) pgs_nil))))
  (pss_one (ps_ret (pe_op (u_add (K := K)) (pe_op (u_add (K := K)) (pe_slice (u_sl (K := K)) (pv 1) po_none (po_some (pv 4))) (pv 5)) (pe_slice (u_sl (K := K)) (pv 1) (po_some (pe_op (u_add (K := K)) (pv 4) (pe_callB (u_len (K := K)) (by rfl) T.f_len (by decide +kernel) (pa_cons (pv 5) pa_nil)))) po_none)))))))), ?_⟩)
  · obtain ⟨bx, l, n, cs, rfl, _⟩ := h
    rfl
  · obtain ⟨bx, l, n, cs, rfl, hl, lb, h30, B, hn, q⟩ := h
    -- the next number
    refine ⟨_, rfl, _, rfl, _, rfl, .inl ⟨l, _, rfl, SqL.of hl, fun p np => ⟨_, rfl, Sv.ix (x := .non) (Sv.lst ((Evl.Ex.new np) _ _ hl)) (in_at (i := 4) (by rw [h30.1]; decide)) (.inl ⟨_, _, rfl, rfl, _, _, rfl, by show 1 ≤ sizeLine; decide, fun p2 np2 => ?_⟩)⟩⟩⟩
    have y1 := Evl.Ex.new (o := .lst (cutV (IN cs) (some 1) (some 4))) np
    have y2 := Evl.Ex.new (o := .lst [V.int (if oc cs 4 + 1 < 255 then oc cs 4 + 1 else 255)]) np2
    have e14 : cutV (IN cs) (some 1) (some 4) = IV (sl cs 1 3) := in_cut (i := 1) (j := 4) (by decide)
    have b4 := oc_bd h30 4
    refine cat_l (xs := IV (sl cs 1 3)) (ys := IV [if oc cs 4 + 1 < 255 then oc cs 4 + 1 else 255]) (y2 _ _ (by rw [upd_same, e14])) upd_same (by rw [iv_len, iv_len, List.length_map, List.length_take]; show _ + 1 ≤ 1000; omega) fun nx H3 n3 e3 h3 => ?_
    have E3 := (y1.trans y2).trans e3
    obtain ⟨ns, hns⟩ : ∃ ns, ns = sl cs 1 3 ++ [if oc cs 4 + 1 < 255 then oc cs 4 + 1 else 255] := ⟨_, rfl⟩
    have on : Oct ns := by
      rw [hns]
      refine oct_app (sl_oct h30.2 _ _) fun z hz => ?_
      rw [List.mem_singleton.mp hz]
      split <;> omega
    have ln : ns.length = 4 := by
      rw [hns, List.length_append, List.length_map, List.length_take, List.length_drop, h30.1]
      rfl
    rw [← iv_app, ← hns] at h3
    have B3 := B.ex E3
    have C : Cx bx l nx cs ns [some (.ref bx), some (.ref l), some (.ref nx), none, none, none] H3 := ⟨rfl, rfl, E3 _ _ hl, h3, (B.ex (y1.trans y2)).at n3, h30, on, ln, _, B3⟩
    refine gnx ?_
    refine seq_its (k := 64) ?hh rfl C fun vs m H4 e4 lv hv hm mb => ?_
    case hh =>
      repeat' first
        | exact its_nil
        | refine' its_cons (it_tup (m := _) ?_ ?_) ?_
        | refine' li_lit (xs := _) ?_ ?_ ?_
        | exact lit_nil
        | refine' lit_cons ?_
        | exact li_next
        | exact li_sl
        | refine' li_rep ?_
        | refine' li_add (m := _) (k := _) ?_ ?_ ?_
      all_goals rfl
    have E4 := E3.trans e4
    have B4 := B.ex E4
    refine ⟨_, rfl, _, rfl, _, rfl, _, _, rfl, .inl ⟨_, SqL.of hm, rfl⟩, ?_⟩
    rw [lv]
    refine ⟨bx, 64, n, rfl, B4, by decide, by decide, by omega, fun r H5 r0 r64 e5 B5 => ?_⟩
    obtain ⟨j, rfl⟩ : ∃ j : Nat, r = (j : Int) := ⟨r.toNat, by omega⟩
    have hj : j < vs.length := by omega
    obtain ⟨q', eq', i, p', xs, hq, ⟨hp', pb, ox, lx⟩, hi⟩ := hv vs[j] (List.getElem_mem hj)
    have hm5 := e5 _ _ mb hm
    have qb : q' ≠ bx := fun z => by
      obtain ⟨_, _, _, _, hb, _⟩ := id B4
      rw [z, hb] at hq
      cases hq
    have hq5 := e5 _ _ qb hq
    have hp5 := e5 _ _ pb hp'
    have hl5 := e5 _ _ lb (E4 _ _ hl)
    refine Sv.ix (x := .non) (Sv.lst hm5) (atI_nat (List.getElem?_eq_getElem hj)) ?_
    rw [eq']
    refine ⟨q', _, rfl, SqT.of hq5, rfl, _, _, rfl, _, _, rfl, rfl, ?_⟩
    refine ⟨_, rfl, _, rfl, _, rfl, .inl ⟨l, _, rfl, SqL.of hl5, fun a na => ⟨_, rfl, ?_⟩⟩⟩
    have ea : cutV (IN cs) none (some (i : Int)) = IV ((cs.map Int.ofNat).take i) := by
      rw [cut_n]
      unfold IV
      rw [List.map_take]
    have ya := Evl.Ex.new (o := .lst (cutV (IN cs) none (some (i : Int)))) na
    refine cat_i (xs := (cs.map Int.ofNat).take i) (ys := xs) (by rw [upd_same, ea]) (ya _ _ hp5) (by rw [List.length_take, List.length_map, h30.1]; omega) fun b H6 nb eb hb => ?_
    have E6 := ya.trans eb
    refine ⟨_, rfl, _, rfl, _, rfl, _, _, rfl, .inl ⟨_, SqL.of (E6 _ _ hp5), rfl⟩, .inl ⟨_, _, rfl, rfl, _, rfl, .inl ⟨l, _, rfl, SqL.of (E6 _ _ hl5), fun c nc => ?_⟩⟩⟩
    rw [iv_len]
    have ec : cutV (IN cs) (some ((i : Int) + (xs.length : Int))) none = IV ((cs.map Int.ofNat).drop (i + xs.length)) := by
      rw [show (i : Int) + (xs.length : Int) = ((i + xs.length : Nat) : Int) by omega, cut_d]
      unfold IV
      rw [List.map_drop]
    have yc := Evl.Ex.new (o := .lst (cutV (IN cs) (some ((i : Int) + (xs.length : Int))) none)) nc
    refine cat_i (ys := (cs.map Int.ofNat).drop (i + xs.length)) (yc _ _ hb) (by rw [upd_same, ec]) (by rw [List.length_append, List.length_take, List.length_drop, List.length_map, h30.1]; omega) fun d H7 nd ed hd => ?_
    have E7 := E6.trans (yc.trans ed)
    have len : ((cs.map Int.ofNat).take i ++ xs ++ (cs.map Int.ofNat).drop (i + xs.length)).length = 30 := by
      rw [List.length_append, List.length_append, List.length_take, List.length_drop, List.length_map, h30.1]
      omega
    have oo : Oct ((cs.map Int.ofNat).take i ++ xs ++ (cs.map Int.ofNat).drop (i + xs.length)) := oct_app (oct_app (fun z hz => oct_in h30.2 z (List.mem_of_mem_take hz)) ox) fun z hz => oct_in h30.2 z (List.mem_of_mem_drop hz)
    have fin := o30_of oo len
    exact q d _ H7 (((Exb.of E4).trans e5).trans (Exb.of E7)) (B5.ex E7) (by rw [hd, fin.2]) ((B5.ex (E6.trans yc)).at nd) fin.1
end
end K12
/-! octets spoilt -/
namespace K12
open PySem PySem.Spec PyProof.Rows L2 VB BM
abbrev bits : List Int := [1, 2, 4, 8, 16, 32, 64, 128]
theorem bit_ok : ((List.range 256).all fun x => bits.all fun w => decide (0 ≤ (x : Int) + w * (1 - 2 * ((x : Int) / w % 2))) && decide ((x : Int) + w * (1 - 2 * ((x : Int) / w % 2)) ≤ 255)) = true := by decide +kernel
theorem bit_bd {x w : Int} (h : 0 ≤ x ∧ x ≤ 255) (hw : w ∈ bits) : 0 ≤ x + w * (1 - 2 * (x / w % 2)) ∧ x + w * (1 - 2 * (x / w % 2)) ≤ 255 := by
  have a := List.all_eq_true.mp (List.all_eq_true.mp bit_ok x.toNat (List.mem_range.mpr (by omega))) w hw
  rw [show ((x.toNat : Nat) : Int) = x by omega, Bool.and_eq_true, decide_eq_true_eq, decide_eq_true_eq] at a
  exact a
theorem bits_bd : ∀ w ∈ bits, 0 < w ∧ w ≤ 128 := by decide
theorem oct_set {xs : List Int} {j : Nat} {v : Int} (h : Oct xs) (h0 : 0 ≤ v) (h1 : v ≤ 255) : Oct (xs.set j v) := fun z hz => by
  rcases List.mem_or_eq_of_mem_set hz with h' | rfl
  · exact h z h'
  · exact ⟨h0, h1⟩
section
variable {P : Program} {w : World} {K : PySem.W.Frag} {mg : Str → Option Value} {base : Heap} {f : Addr} {fd : FuncData}
theorem set_x {fr : Addr} {xs : List Int} {j : Nat} {v : Int} {H : Hp} {Q : Hp → Prop} (h : H fr = some (.lst (IV xs))) (hj : j < xs.length) (q : Q (upd H fr (.lst (IV (xs.set j v))))) : rSetL (.ref fr) (.int (j : Int)) (.int v) H Q :=
  ⟨fr, IV xs, j, j, rfl, rfl, h, by rw [iv_len]; exact Evl.ixN_nat hj, by rw [show (IV xs).set j (.int v) = IV (xs.set j v) from List.map_set.symm]; exact q⟩
theorem iv_at {xs : List Int} {j : Nat} (hj : j < xs.length) : ∃ x, atI (IV xs) (j : Int) = some (.int x) ∧ x ∈ xs :=
  ⟨xs[j], atI_nat (by rw [List.getElem?_map, List.getElem?_eq_getElem hj]; rfl), List.getElem_mem hj⟩
theorem lit_neg {ta : TA} {x : Int} {xs : List Int} (h : Lit ta xs) : Lit (tCons (tUn (rU fun i => V.int (-i)) (tC (V.int x))) ta) (-x :: xs) := fun σ H Q q => ⟨_, rfl, h σ H _ q⟩
theorem menu {ms : List Int} {ta : TA} {σ : List (Option V)} {H : Hp} {Q : VK} {bx : Addr} {c many : Int} (h : Lit ta ms) (z : (decide (0 < many) && decide (many ≤ 100) && decide (many = (ms.length : Int))) = true) (hs : σ[0]? = some (some (.ref bx))) (B : Box H bx c) (hc : c < 99999999)
    (q : ∀ (x : Int) (H' : Hp), x ∈ ms → Exb bx H H' → Box H' bx (c + 1) → Q (.int x) H') : tOp (rIx K) (tLst ta) (tCall spTake [] E0 (tCons (tVar 0) (tCons (tC (V.int many)) tNil))) σ H Q := by
  simp only [Bool.and_eq_true, decide_eq_true_eq] at z
  obtain ⟨⟨z1, z2⟩, z3⟩ := z
  refine h σ H _ ⟨by rw [iv_len]; exact Nat.le_trans (show ms.length ≤ 100 by omega) (by decide), fun m nm => ⟨_, hs, bx, many, c, rfl, B.ex (Evl.Ex.new nm), z1, by omega, by omega, fun r H' r0 r1 e B' => ?_⟩⟩
  obtain ⟨j, rfl⟩ : ∃ j : Nat, r = (j : Int) := ⟨r.toNat, by omega⟩
  obtain ⟨x, hx, mx⟩ := iv_at (xs := ms) (j := j) (by omega)
  exact Sv.ix (x := .non) (Sv.lst (e _ _ (B.at nm) upd_same)) hx (q x H' mx ((Exb.new nm).trans e) B')
theorem _root_.VB.Box.to {H : Hp} {a : Addr} {n : Int} (b : Box H a n) (m : Int) (h : n ≤ m := by omega) : Box H a m := b.le h
def spSpoilt : Sp := fun vs H Q _ => ∃ (bx l : Addr) (n : Int) (cs : List Nat), vs = [.ref bx, .ref l] ∧ H l = some (.lst (IN cs)) ∧ l ≠ bx ∧ O30 cs ∧ Box H bx n ∧ n < 50000000 ∧
  ∀ (l' : Addr) (ds : List Nat) (H' : Hp), Exb bx H H' → Box H' bx (n + 100) → H' l' = some (.lst (IN ds)) → l' ≠ bx → O30 ds → Q (.ref l') H'
theorem ok_spoilt (T : Txt K mg) (F : FnP K "_law_spoilt" s__law_spoilt f fd) (C__law_take : Cal P w K mg base CX0 1 "_law_take" ["_law_box_here", "_law_many"] spTake) (C__law_octet : Cal P w K mg base CX0 2 "_law_octet" ["_law_box_here"] spOct) (C__law_field : Cal P w K mg base CX0 2 "_law_field" ["_law_box_here", "_law_octets_here"] spField) : Fg P w K mg base CX0 3 f fd ["_law_box_here", "_law_octets_here"] spSpoilt := by
  refine fg_of F sc__law_spoilt (fun vs H Q E h => ?_) (fun cdv A outer s H vs Q E hr h => ⟨_, (PSs.nox (pss_cons (ps_par3 (i := 2) (j := 3) (l := 4) rfl sc__law_spoilt.nd rfl rfl rfl (by decide) (by decide) (by decide) rfl rfl rfl (pa_cons (pe_cal C__law_take hr.le pass0 (pa_cons (pv 0) (pa_cons pe_int pa_nil))) (pa_cons (pe_cal C__law_take hr.le pass0 (pa_cons (pv 0) (pa_cons pe_int pa_nil))) (pa_cons (pe_callTy (u_list (K := K)) (by rfl) T.f_list (by decide +kernel) (pa_cons (pv 1) pa_nil)) pa_nil))) (by rfl))
  (pss_cons (ps_if (pt_cmpR op_lt (pv 2) pe_int (nomark _))
  (pss_one (ps_asg (pe_cal C__law_octet hr.le pass0 (pa_cons (pv 0) pa_nil)) (pg_sub (pv 4) (pv 3) set_list))) (pss_one (ps_if (pt_cmpR (u_eq (K := K) hr) (pv 2) pe_int (nomark _))
  (pss_cons (ps_set (i := 5) sc__law_spoilt.nd rfl (by first | exact Or.inl rfl | exact Or.inr rfl) (pe_ix (u_ix (K := K)) (pe_lst (pa_cons pe_int (pa_cons pe_int (pa_cons pe_int (pa_cons pe_int (pa_cons pe_int (pa_cons pe_int (pa_cons pe_int (pa_cons pe_int pa_nil))))))))) (pe_cal C__law_take hr.le pass0 (pa_cons (pv 0) (pa_cons pe_int pa_nil))) (fun _ _ => rfl)))
  (pss_one (ps_asg (pe_op (u_add (K := K)) (pe_ix (u_ix (K := K)) (pv 4) (pv 3) (fun _ _ => rfl)) (pe_op (u_mul (K := K)) (pv 5) (pe_op op_sub pe_int (pe_op (u_mul (K := K)) pe_int (pe_op u_mod (pe_callTy call_int1 (by rfl) T.f_int (by decide +kernel) (pa_cons (pe_op u_fdiv (pe_ix (u_ix (K := K)) (pv 4) (pv 3) (fun _ _ => rfl)) (pv 5)) pa_nil)) pe_int))))) (pg_sub (pv 4) (pv 3) set_list)))) (pss_one (ps_if (pt_cmpR (u_eq (K := K) hr) (pv 2) pe_int (nomark _))
  (pss_one (ps_asg (pe_callB (call_min2 rfl) (by rfl) T.f_min (by decide +kernel) (pa_cons pe_int (pa_cons (pe_callB (call_max2 rfl) (by rfl) T.f_max (by decide +kernel) (pa_cons pe_int (pa_cons (pe_op (u_add (K := K)) (pe_ix (u_ix (K := K)) (pv 4) (pv 3) (fun _ _ => rfl)) (pe_ix (u_ix (K := K)) (pe_lst (pa_cons pe_int (pa_cons (pe_un un_neg pe_int) pa_nil))) (pe_cal C__law_take hr.le pass0 (pa_cons (pv 0) (pa_cons pe_int pa_nil))) (fun _ _ => rfl))) pa_nil))) pa_nil))) (pg_sub (pv 4) (pv 3) set_list))) (pss_one (ps_if (pt_cmpR (u_eq (K := K) hr) (pv 2) pe_int (nomark _))
  (pss_one (ps_asg (pe_ix (u_ix (K := K)) (pe_lst (pa_cons pe_int (pa_cons pe_int (pa_cons pe_int (pa_cons pe_int (pa_cons pe_int (pa_cons pe_int (pa_cons pe_int (pa_cons pe_int (pa_cons pe_int (pa_cons pe_int pa_nil))))))))))) (pe_cal C__law_take hr.le pass0 (pa_cons (pv 0) (pa_cons pe_int pa_nil))) (fun _ _ => rfl)) (pg_sub (pv 4) pe_int set_list))) (pss_one (ps_if (pt_cmpR (u_eq (K := K) hr) (pv 2) pe_int (nomark _))
  (pss_cons (ps_set (i := 6) sc__law_spoilt.nd rfl (by first | exact Or.inl rfl | exact Or.inr rfl) (pe_cal C__law_take hr.le pass0 (pa_cons (pv 0) (pa_cons pe_int pa_nil))))
  (pss_one (ps_asg (pe_tup (pa_cons (pe_ix (u_ix (K := K)) (pv 4) (pv 6) (fun _ _ => rfl)) (pa_cons (pe_ix (u_ix (K := K)) (pv 4) (pv 3) (fun _ _ => rfl)) pa_nil))) (pg_tupU (K := K) (n := 2) rfl (pgs_cons (pg_sub (pv 4) (pv 3) set_list) (pgs_cons (pg_sub (pv 4) (pv 6) set_list) pgs_nil)))))) (pss_one (ps_if (pt_cmpR (u_eq (K := K) hr) (pv 2) pe_int (nomark _))
  (pss_one (ps_set (i := 4) sc__law_spoilt.nd rfl (by first | exact Or.inl rfl | exact Or.inr rfl) (pe_op (u_add (K := K)) (pe_slice (u_sl (K := K)) (pv 4) po_none (po_some pe_int)) (pe_lc (own := [("_law_k", 7)]) rfl sc__law_spoilt.nd (pi_range1 rfl T.f_range (pa_cons pe_int pa_nil)) (blkOk_by (own := [("_law_k", 7)]) (N := ["_law_box_here", "_law_octets_here", "_law_way", "_law_at", "_law_fresh", "_law_worth", "_law_other", "_law_k"]) (sc := defScope s__law_spoilt) (by decide +kernel)) (fun _ _ _ _ _ => (pg_name (i := 7) sc__law_spoilt.nd rfl (by first | exact Or.inl rfl | exact Or.inr rfl))) (fun _ _ _ _ _ => pts_nil) (fun _ _ _ _ _ => (pe_ix (u_ix (K := K)) (pe_lst (pa_cons pe_int (pa_cons pe_int (pa_cons pe_int (pa_cons (pe_cal C__law_octet hr.le pass0 (pa_cons (pv 0) pa_nil)) pa_nil))))) (pe_cal C__law_take hr.le pass0 (pa_cons (pv 0) (pa_cons pe_int pa_nil))) (fun _ _ => rfl))))))) (pss_one (ps_set (i := 4) sc__law_spoilt.nd rfl (by first | exact Or.inl rfl | exact Or.inr rfl) (pe_cal C__law_field hr.le pass0 (pa_cons (pv 0) (pa_cons (pv 4) pa_nil))))))))))))))))
  (pss_one (ps_ret (pv 4)))))), ?_⟩)
  · obtain ⟨bx, l, n, cs, rfl, _⟩ := h
    rfl
  · obtain ⟨bx, l, n, cs, rfl, hl, lb, h30, B, hn, q⟩ := h
    refine ⟨_, rfl, bx, 8, n, rfl, B, by decide, by decide, by omega, fun way H1 w0 w8 e1 B1 => ?_⟩
    refine ⟨_, rfl, bx, 30, _, rfl, B1, by decide, by decide, by omega, fun a H2 a0 a30 e2 B2 => ?_⟩
    obtain ⟨j, rfl⟩ : ∃ j : Nat, a = (j : Int) := ⟨a.toNat, by omega⟩
    have hl2 := (e1.trans e2) _ _ lb hl
    refine ⟨_, rfl, l, _, rfl, .inl (SqL.of hl2), fun fr nfr => ⟨_, _, _, rfl, ?_⟩⟩
    have y := Evl.Ex.new (o := .lst (IN cs)) nfr
    have frb := B2.at nfr
    have hfr := upd_same (H := H2) (a := fr) (o := .lst (IN cs))
    have E3 := (e1.trans e2).trans (Exb.of y)
    have B3 := (B2.ex y).to (n + 2)
    have nH : H fr = none := by
      cases h : H fr with
      | none => rfl
      | some o => rw [(e1.trans e2) _ _ frb h] at nfr; cases nfr
    obtain ⟨xs, exs⟩ : ∃ xs, xs = cs.map Int.ofNat := ⟨_, rfl⟩
    have ox : Oct xs := by rw [exs]; exact oct_in h30.2
    have lx : xs.length = 30 := by rw [exs, List.length_map, h30.1]
    have hfr : (upd H2 fr (.lst (IN cs))) fr = some (.lst (IV xs)) := by rw [hfr, exs]
    generalize upd H2 fr (.lst (IN cs)) = H3 at y hfr E3 B3 ⊢
    clear e1 e2 B1 B2 y
    have fin : ∀ (l' : Addr) (ys : List Int) (m : Int) (H' : Hp), Exb bx H H' → Box H' bx m → m ≤ n + 100 → H' l' = some (.lst (IV ys)) → l' ≠ bx → Oct ys → ys.length = 30 → Q (.ref l') H' := fun l' ys m H' e B' hm h' lb' oy ly => by
      have o := o30_of oy ly
      exact q l' _ H' e (B'.le hm) (by rw [h', o.2]) lb' o.1
    have fset : ∀ (v m : Int) (i : Nat) (H' : Hp), Exb bx H H' → Box H' bx m → m ≤ n + 100 → H' fr = some (.lst (IV xs)) → 0 ≤ v → v ≤ 255 → Q (.ref fr) (upd H' fr (.lst (IV (xs.set i v)))) := fun v m i H' e B' hm h' v0 v1 =>
      fin fr _ m _ (exb_mut e nH) (box_mut B' frb) hm upd_same frb (oct_set ox v0 v1) (by rw [List.length_set, lx])
    have jl : j < xs.length := by omega
    have atj : ∀ {Hx : Hp} {Q' : VK}, Hx fr = some (.lst (IV xs)) → (∀ x : Int, 0 ≤ x → x ≤ 255 → Q' (.int x) Hx) → rIx K (.ref fr) (.int (j : Int)) Hx Q' := fun h' q' => by
      obtain ⟨x, hx, mx⟩ := iv_at jl
      have := ox x mx
      exact Sv.ix (x := .non) (Sv.lst h') hx (q' x this.1 this.2)
    refine ⟨_, rfl, _, _, rfl, rfl, _, rfl, ?_⟩
    refine ite2 (fun h => ?_) (fun h => ?_)
    · exact ⟨_, rfl, bx, _, rfl, B3, by omega, fun v H4 v0 v1 e4 B4 => ⟨_, rfl, _, rfl, set_x (e4 _ _ frb hfr) jl ⟨_, rfl, fset v _ j H4 (E3.trans e4) B4 (by omega) (e4 _ _ frb hfr) v0 v1⟩⟩⟩
    have dkw : ∀ i : Int, decide (V.int way = V.int i) = decide (way = i) := fun i => dki way i
    refine ⟨_, rfl, .inl ⟨rfl, _, rfl, ?_⟩⟩
    refine ite2 (fun h2 => ?_) (fun h2 => ?_)
    · refine menu (ms := bits) (lit_cons (lit_cons (lit_cons (lit_cons (lit_cons (lit_cons (lit_cons (lit_cons lit_nil)))))))) rfl rfl B3 (by omega) fun wt H4 hw e4 B4 => ?_
      have h4 := e4 _ _ frb hfr
      have wb := bits_bd wt hw
      have nz : (0 : Int) < 2 := by decide
      obtain ⟨x, hx, mx⟩ := iv_at jl
      have xb := ox x mx
      have q0 : 0 ≤ x / wt := Int.ediv_nonneg xb.1 (by omega)
      have q1 := Int.emod_nonneg (x / wt) (show (2 : Int) ≠ 0 by decide)
      have q2 := Int.emod_lt_of_pos (x / wt) nz
      have bd := bit_bd xb hw
      refine ⟨_, rfl, _, rfl, Sv.ix (x := .non) (Sv.lst h4) hx ⟨_, rfl, _, rfl, _, rfl, Sv.ix (x := .non) (Sv.lst h4) hx ⟨_, rfl, _, _, rfl, rfl, ⟨wb.1, by omega⟩, .inl ⟨_, rfl, _, _, rfl, rfl, nz, .inl ⟨_, _, rfl, rfl, mulx_ok (a := 10) (b := 10) (by decide) (by show _ < 1024; omega) (by decide), _, _, rfl, rfl, .inl ⟨_, _, rfl, rfl, mulx_ok (a := 10) (b := 10) (by show _ < 1024; omega) (by show _ < 1024; omega) (by decide), .inl ⟨_, _, rfl, rfl, ?_⟩⟩⟩⟩⟩⟩⟩
      exact ⟨_, rfl, _, rfl, set_x h4 jl ⟨_, rfl, fset _ _ j H4 (E3.trans e4) B4 (by omega) h4 bd.1 bd.2⟩⟩
    refine ⟨_, rfl, .inl ⟨rfl, _, rfl, ?_⟩⟩
    refine ite2 (fun h3 => ?_) (fun h3 => ?_)
    · refine ⟨_, rfl, _, rfl, atj hfr fun x x0 x1 => ?_⟩
      refine menu (ms := [1, -1]) (lit_cons (lit_neg lit_nil)) rfl rfl B3 (by omega) fun d H4 hd e4 B4 => .inl ⟨_, _, rfl, rfl, _, _, rfl, _, _, rfl, ?_⟩
      have h4 := e4 _ _ frb hfr
      refine ⟨_, rfl, _, rfl, set_x h4 jl ⟨_, rfl, fset _ _ j H4 (E3.trans e4) B4 (by omega) h4 ?_ ?_⟩⟩
      · split <;> split <;> omega
      · split <;> omega
    refine ⟨_, rfl, .inl ⟨rfl, _, rfl, ?_⟩⟩
    refine ite2 (fun h4 => ?_) (fun h4 => ?_)
    · refine menu (ms := [0, 1, 2, 3, 4, 5, 6, 7, 8, 255]) (lit_cons (lit_cons (lit_cons (lit_cons (lit_cons (lit_cons (lit_cons (lit_cons (lit_cons (lit_cons lit_nil)))))))))) rfl rfl B3 (by omega) fun v H4 hv e4 B4 => ?_
      have h4 := e4 _ _ frb hfr
      have vb : ∀ v ∈ ([0, 1, 2, 3, 4, 5, 6, 7, 8, 255] : List Int), 0 ≤ v ∧ v ≤ 255 := by decide
      exact ⟨_, rfl, set_x (j := 0) h4 (by omega) ⟨_, rfl, fset _ _ 0 H4 (E3.trans e4) B4 (by omega) h4 (vb v hv).1 (vb v hv).2⟩⟩
    refine ⟨_, rfl, .inl ⟨rfl, _, rfl, ?_⟩⟩
    refine ite2 (fun h5 => ?_) (fun h5 => ?_)
    · refine ⟨_, rfl, bx, 30, _, rfl, B3, by decide, by decide, by omega, fun b H4 b0 b30 e4 B4 => ?_⟩
      obtain ⟨k, rfl⟩ : ∃ k : Nat, b = (k : Int) := ⟨b.toNat, by omega⟩
      have kl : k < xs.length := by omega
      have h4 := e4 _ _ frb hfr
      obtain ⟨x, hx, mx⟩ := iv_at kl
      obtain ⟨z, hz, mz⟩ := iv_at jl
      have xb := ox x mx
      have zb := ox z mz
      refine ⟨_, rfl, _, rfl, Sv.ix (x := .non) (Sv.lst h4) hx ⟨_, rfl, _, rfl, Sv.ix (x := .non) (Sv.lst h4) hz ⟨by show 2 ≤ sizeLine; decide, fun t nt => ⟨t, _, rfl, SqT.of upd_same, rfl, _, _, rfl, ?_⟩⟩⟩⟩
      have yt := Evl.Ex.new (o := .tup [V.int x, .int z]) nt
      have h5' := yt _ _ h4
      have B5 := B4.ex yt
      have E5 := (E3.trans e4).trans (Exb.of yt)
      generalize upd H4 t (.tup [V.int x, .int z]) = H5 at yt h5' B5 E5 ⊢
      refine ⟨_, rfl, _, rfl, set_x h5' jl ⟨_, _, rfl, _, rfl, _, rfl, set_x upd_same (by rw [List.length_set]; exact kl) ⟨rfl, _, rfl, ?_⟩⟩⟩
      exact fin fr _ _ _ (exb_mut (exb_mut E5 nH) nH) (box_mut (box_mut B5 frb) frb) (show n + 2 + 1 ≤ n + 100 by omega) upd_same frb (oct_set (oct_set ox xb.1 xb.2) zb.1 zb.2) (by rw [List.length_set, List.length_set, lx])
    refine ⟨_, rfl, .inl ⟨rfl, _, rfl, ?_⟩⟩
    refine ite2 (fun h6 => ?_) (fun h6 => ?_)
    · refine ⟨_, rfl, _, rfl, .inl ⟨fr, _, rfl, SqL.of hfr, fun b nb => ?_⟩⟩
      have yb := Evl.Ex.new (o := .lst (cutV (IV xs) none (some 1))) nb
      have hb : (upd H3 b (.lst (cutV (IV xs) none (some 1)))) b = some (.lst (IV (xs.take 1))) := by
        rw [upd_same, show (1 : Int) = ((1 : Nat) : Int) from rfl, cut_n]
        unfold IV
        rw [List.map_take]
      have bb := B3.at nb
      have B4 := B3.ex yb
      have E4 := E3.trans (Exb.of yb)
      generalize upd H3 b (.lst (cutV (IV xs) none (some 1))) = H4 at yb hb B4 E4 ⊢
      refine ⟨(29 : Int), rfl, by decide, by decide, fun D hD => ?_⟩
      have Db := B4.at hD
      refine lc_range (lo := 0) (n := 29) (fun i H' => i ≤ 29 ∧ Exb bx H4 H' ∧ Box H' bx (n + 2 + 2 * (i : Int)) ∧ ∃ os : List Int, os.length = i ∧ Oct os ∧ H' D = some (.lst (IV os))) ⟨by omega, Exb.new hD, by rw [show n + 2 + 2 * ((0 : Nat) : Int) = n + 2 by omega]; exact B4.ex (Evl.Ex.new hD), [], rfl, (fun z hz => by cases hz), upd_same⟩ ?_ ?_
      · rintro i G hi ⟨_, eG, BG, os, lo, ho, hG⟩
        refine ⟨rfl, ?_⟩
        refine ⟨_, rfl, bx, _, rfl, BG, by omega, fun v G1 v0 v1 g1 B1 => ⟨by show 4 ≤ sizeLine; decide, fun m nm => ⟨_, rfl, bx, 4, _, rfl, B1.ex (Evl.Ex.new nm), by decide, by decide, by omega, fun r G2 r0 r4 g2 B2 => ?_⟩⟩⟩
        obtain ⟨k, rfl⟩ : ∃ k : Nat, r = (k : Int) := ⟨r.toNat, by omega⟩
        obtain ⟨x, hx, mx⟩ := iv_at (xs := [0, 0, 255, v]) (j := k) (by show k < 4; omega)
        have hm := g2 _ _ (B1.at nm) (upd_same (H := G1) (a := m) (o := .lst (IV [0, 0, 255, v])))
        have xb : 0 ≤ x ∧ x ≤ 255 := by
          simp only [List.mem_cons, List.not_mem_nil, or_false] at mx
          omega
        have gg := (g1.trans (Exb.new nm)).trans g2
        refine Sv.ix (x := .non) (Sv.lst hm) hx ⟨IV os, gg _ _ Db hG, by rw [iv_len]; exact Evl.sz_lt (by omega), by omega, exb_mut (eG.trans gg) hD, ?_, os ++ [x], by rw [List.length_append, lo]; rfl, ?_, ?_⟩
        · rw [show n + 2 + 2 * ((i + 1 : Nat) : Int) = n + 2 + 2 * (i : Int) + 1 + 1 by omega]
          exact box_mut B2 Db
        · exact oct_app ho fun z hz => by rw [List.mem_singleton.mp hz]; exact xb
        · rw [upd_same, iv_app]
          rfl
      · rintro G ⟨_, eG, BG, os, lo, ho, hG⟩
        refine cat_i (eG _ _ bb hb) hG (by rw [List.length_take, lo]; omega) fun d G2 nd ed hd => ⟨_, rfl, ?_⟩
        exact fin d _ _ G2 ((E4.trans eG).trans (Exb.of ed)) (BG.ex ed) (by show n + 2 + 2 * ((29 : Nat) : Int) ≤ n + 100; omega) hd (BG.at nd) (oct_app (fun z hz => ox z (List.mem_of_mem_take hz)) ho) (by rw [List.length_append, List.length_take, lx, lo]; rfl)
    · refine ⟨_, rfl, _, rfl, bx, fr, _, cs, rfl, ?_, frb, h30, B3, by omega, fun l' ds H' e B' h' lb' o' => ⟨_, rfl, q l' ds H' (E3.trans e) (B'.le (by omega)) h' lb' o'⟩⟩
      rw [hfr, exs]
end
end K12
/-! the ends -/
namespace VB
open PySem PySem.Spec PyProof.Rows L2
theorem vals_getD {zs : List V} {ws : List Value} (h : Vals zs ws) : ∀ i : Nat, RelV (zs.getD i .non) (ws.getD i .none) := by
  induction h with
  | nil =>
    intro i
    exact rfl
  | cons r _ ih =>
    intro i
    cases i with
    | zero => exact r
    | succ i => exact ih i
theorem kb_of {K : PySem.W.Frag} {x qual : Str} {params : Arguments} {body : List Stmt} {scope : Scope} {kws : List (Str × V)} {f : Addr} {fd : FuncData} {ps ks : List Str} {n : Nat}
    {g : List Value → List Value → List Value} {gV : List V → List V → List V} (F : FunD K x qual params body scope [] kws f fd)
    (hrel : ∀ {vs : List V} {us : List Value} {zs : List V} {ws : List Value}, Vals vs us → Vals zs ws → Vals (gV vs zs) (g us ws))
    (h : ∀ (kV doc pm : Value) (an : Option Addr) (cdv ct : Value) (us ws : List Value), us.length = n → ws.length = ks.length → bindArgs (PySem.W.fnOf x qual params body scope .none kV doc pm an cdv ct) ⟨us, ks.zip ws⟩ = pure (ps.zip (g us ws))) :
    KBn K fd ps n ks g gV := by
  obtain ⟨oc, od, dV, kV, doc, pm, an, cdv, ct, osl, rfl, lk, hcd, hD, hK⟩ := F.ex
  rcases hD with ⟨_, rfl⟩ | ⟨e, _⟩
  · exact ⟨fun s us ws _ l1 l2 => .of_eq (h kV doc pm an cdv ct us ws l1 l2), fun r1 r2 => hrel r1 r2⟩
  · exact absurd rfl e
end VB
/-! what is looked at of the classes of records -/
namespace K12
open PySem PySem.Spec PyProof.Rows L2 VB BM
abbrev tbsR (K : PySem.W.Frag) : List Value := tys ++ (List.range 6).map fun i => .ref (Kl K i)
def rkB (K : PySem.W.Frag) : Bool := (List.range 6).all fun i => insB K (Kl K i) && (((List.range 6).all fun j => decide (PySem.W.kitOne K (.ref (Kl K i)) (.ref (Kl K j)) = some (decide (i = j)))) && ((tys.all fun t => decide (PySem.W.kitOne K t (.ref (Kl K i)) = some false)) &&
  (decide (PySem.W.findIn K (.ref (Kl K i)) "__ne__" = some (some (.builtin "object.__ne__"))) && (decide (PySem.W.subIn K (.ref (Kl K i)) (.type "object") = some true) && ((tys.all fun t => decide (PySem.W.subIn K (.ref (Kl K i)) t = some false)) && (tbsR K).all fun t => PySem.W.notFirst K (Kl K i) t)))))
end K12
/-! what is read is right -/
namespace K12
open PySem PySem.Spec PyProof.Rows L2 VB BM
section
variable {P : Program} {w : World} {K : PySem.W.Frag} {mg : Str → Option Value} {base : Heap} {f : Addr} {fd : FuncData}
theorem kl_tbs {i : Nat} (h : i < 6) : Value.ref (Kl K i) ∈ tbsR K := List.mem_append_right _ (List.mem_map.mpr ⟨i, List.mem_range.mpr h, rfl⟩)
theorem eq_rec {H : Hp} {a b : Addr} {r r' : Rc} {Q : VK} (ra : RecAt K H a r) (ga : Good r) (rb : RecAt K H b r') (gb : Good r') (q : ∀ H', Evl.Ex H H' → Q (.bl (decide (r = r'))) H') : rEqO (Kl K) 6 (tbsR K) (spEqR K) (.ref a) (.ref b) H Q := by
  obtain ⟨dx, t, ea, oa⟩ := id ra
  obtain ⟨dy, t', eb, ob⟩ := id rb
  exact ⟨r.ix, a, dx, _, _, ix_lt r, rfl, ea, .ins eb, kl_tbs (ix_lt r'), a, .ref b, r, some r', rfl, rfl, ra, ga, ⟨b, rfl, rb, gb⟩, fun H' e => ⟨_, rfl, q H' e⟩⟩
theorem ne_rec {H : Hp} {a b : Addr} {r r' : Rc} {Q : VK} (ra : RecAt K H a r) (ga : Good r) (rb : RecAt K H b r') (gb : Good r') (q : ∀ H', Evl.Ex H H' → Q (.bl (!decide (r = r'))) H') : rNeO (Kl K) 6 (tbsR K) (spEqR K) (.ref a) (.ref b) H Q := by
  obtain ⟨dx, t, ea, oa⟩ := id ra
  obtain ⟨dy, t', eb, ob⟩ := id rb
  exact ⟨r.ix, a, dx, _, _, ix_lt r, rfl, ea, .ins eb, kl_tbs (ix_lt r'), a, .ref b, r, some r', rfl, rfl, ra, ga, ⟨b, rfl, rb, gb⟩, fun H' e => ⟨_, rfl, q H' e⟩⟩
abbrev EqR (P : Program) (w : World) (K : PySem.W.Frag) (mg : Str → Option Value) (base : Heap) : Prop := ∀ i, i < 6 → EqC P w K mg base 4 (Kl K i) (tbsR K) (spEqR K i)
theorem pr_mono {α β : Type} {R S : α → β → Prop} (k : ∀ x y, R x y → S x y) : ∀ {xs : List α} {ys : List β}, Paired R xs ys → Paired S xs ys
  | _, _, .nil => .nil
  | _, _, .cons h t => .cons (k _ _ h) (pr_mono k t)
theorem pr_app {α β : Type} {R : α → β → Prop} : ∀ {xs xs' : List α} {ys ys' : List β}, Paired R xs ys → Paired R xs' ys' → Paired R (xs ++ xs') (ys ++ ys')
  | _, _, _, _, .nil, h => h
  | _, _, _, _, .cons h t, k => .cons h (pr_app t k)
abbrev RowsA (H : Hp) (ls : List Addr) (cs : List Rc) : Prop := Paired (fun l r => RowAt H l r ∧ Good r) ls cs
abbrev RecsA (K : PySem.W.Frag) (H : Hp) (as : List Addr) (cs : List Rc) : Prop := Paired (fun a r => RecAt K H a r) as cs
theorem box_tup {H : Hp} {bx : Addr} {c : Int} (B : Box H bx c) : ∀ xs, H bx ≠ some (.tup xs) := fun xs z => by
  obtain ⟨_, _, _, _, hb, _⟩ := B
  rw [hb] at z
  cases z
theorem RecAt.xb {H H' : Hp} {bx a : Addr} {c : Int} {r : Rc} (h : RecAt K H a r) (B : Box H bx c) (e : Exb bx H H') : RecAt K H' a r := by
  obtain ⟨dx, t, ha, ho⟩ := h
  have n : a ≠ bx := fun z => by obtain ⟨_, _, _, _, hb, _⟩ := B; rw [z, hb] at ha; cases ha
  exact ⟨dx, t, e _ _ n ha, ho.xb (box_tup B) e⟩
theorem OcT.mu {H : Hp} {D : Addr} {o : HO} {t : V} {r : Rc} {ys : List V} (h : OcT H t r) (hD : H D = some (.lst ys)) : OcT (upd H D o) t r := by
  cases r with
  | chunk d a o n ix os u =>
    obtain ⟨p, h1, h2⟩ := h
    exact ⟨p, h1, by rw [upd_ne (fun z => by rw [z, hD] at h2; cases h2)]; exact h2⟩
  | _ => trivial
theorem RowAt.mu {H : Hp} {D l : Addr} {o : HO} {r : Rc} {ys : List Addr} (h : RowAt H l r) (hD : H D = some (.lst (ys.map V.ref))) : RowAt (upd H D o) l r := by
  obtain ⟨t, hl, ho⟩ := h
  refine ⟨t, ?_, ho.mu hD⟩
  rw [upd_ne (fun z => ?_)]
  · exact hl
  · rw [z, hD] at hl
    have e := HO.lst.inj (Option.some.inj hl)
    have h0 : (rowV t r)[0]? = some (.str (clE.getD r.ix "")) := by cases r <;> rfl
    rw [← e] at h0
    obtain ⟨x, _, ex⟩ := map_at h0
    cases ex
theorem RecAt.mu {H : Hp} {D a : Addr} {o : HO} {r : Rc} {ys : List Addr} (h : RecAt K H a r) (hD : H D = some (.lst (ys.map V.ref))) : RecAt K (upd H D o) a r := by
  obtain ⟨dx, t, ha, ho⟩ := h
  refine ⟨dx, t, ?_, ho.mu hD⟩
  rw [upd_ne (fun z => by rw [z, hD] at ha; cases ha)]
  exact ha
theorem RowsA.ex {H H' : Hp} {ls : List Addr} {cs : List Rc} (h : RowsA H ls cs) (e : Evl.Ex H H') : RowsA H' ls cs := pr_mono (fun _ _ h => ⟨h.1.ex e, h.2⟩) h
theorem RowsA.xb {H H' : Hp} {ls : List Addr} {cs : List Rc} {bx : Addr} {c : Int} (h : RowsA H ls cs) (B : Box H bx c) (e : Exb bx H H') : RowsA H' ls cs := pr_mono (fun _ _ h => ⟨h.1.xb B e, h.2⟩) h
theorem RowsA.mu {H : Hp} {D : Addr} {o : HO} {ls : List Addr} {cs : List Rc} {ys : List Addr} (h : RowsA H ls cs) (hD : H D = some (.lst (ys.map V.ref))) : RowsA (upd H D o) ls cs := pr_mono (fun _ _ h => ⟨h.1.mu hD, h.2⟩) h
theorem RecsA.xb {H H' : Hp} {ls : List Addr} {cs : List Rc} {bx : Addr} {c : Int} (h : RecsA K H ls cs) (B : Box H bx c) (e : Exb bx H H') : RecsA K H' ls cs := pr_mono (fun _ _ h => h.xb B e) h
theorem RecsA.mu {H : Hp} {D : Addr} {o : HO} {ls : List Addr} {cs : List Rc} {ys : List Addr} (h : RecsA K H ls cs) (hD : H D = some (.lst (ys.map V.ref))) : RecsA K (upd H D o) ls cs := pr_mono (fun _ _ h => h.mu hD) h
abbrev g21 : List Value → List Value → List Value := fun _ us => [us.getD 1 .none, us.getD 0 .none]
abbrev g21V : List V → List V → List V := fun _ ws => [ws.getD 1 .non, ws.getD 0 .non]
theorem lst_shaped (xs : List Int) : SeqAt.shaped (.list (xs.map .int)) = true := by
  unfold SeqAt.shaped
  rw [Bool.and_eq_true]
  exact ⟨by simp [PyData.canLay0, lay_ints], by simp [PyData.depth, dep_ints]⟩
theorem ne_same {a b : Addr} {xs : List Int} {H : Hp} {Q : VK} (ha : H a = some (.lst (IV xs))) (hb : H b = some (.lst (IV xs))) (q : Q (.bl false) H) : rNeU K (.ref a) (.ref b) H Q := by
  refine .inr ⟨.list (xs.map .int), .list (xs.map .int), .lst (SqL.of ha) (dp_ints _), .lst (SqL.of hb) (dp_ints _), lst_shaped _, lst_shaped _, ?_⟩
  rw [PyData.eqv, ev_ints, decide_eq_true rfl]
  exact q
theorem rp_eq {A B : TE} {T : Str} {σ : List (Option V)} {H : Hp} {Q : VK} (hT : T.length ≤ sizeLine) (hA : ∀ Q' : VK, (∀ (v : V) (H1 : Hp) (bs : List Addr) (d : Nat), Evl.Ex H H1 → Shw H1 v T bs d → d ≤ 60 → Q' v H1) → A σ H Q')
    (hB : ∀ H1, Evl.Ex H H1 → ∀ Q' : VK, (∀ (v : V) (H2 : Hp) (bs : List Addr) (d : Nat), Evl.Ex H1 H2 → Shw H2 v T bs d → d ≤ 60 → Q' v H2) → B σ H1 Q') (q : ∀ H', Evl.Ex H H' → Q (.bl true) H') :
    tOp (rEqU K) (tCB rReprS (tCons A tNil)) (tCB rReprS (tCons B tNil)) σ H Q := by
  refine hA _ fun v H1 bs d e1 s1 d1 => ⟨v, T, bs, d, rfl, s1, d1, hT, hB H1 e1 _ fun v2 H2 bs2 d2 e2 s2 dd2 => ⟨v2, T, bs2, d2, rfl, s2, dd2, hT, .inl ⟨rfl, ?_⟩⟩⟩
  rw [decide_eq_true rfl]
  exact q H2 (e1.trans e2)
theorem RowAt.mi {H : Hp} {D l : Addr} {o : HO} {r : Rc} {ys : List Int} (h : RowAt H l r) (hD : H D = some (.lst (IV ys))) : RowAt (upd H D o) l r := by
  obtain ⟨t, hl, ho⟩ := h
  refine ⟨t, ?_, ho.mu hD⟩
  rw [upd_ne (fun z => ?_)]
  · exact hl
  · rw [z, hD] at hl
    have e := HO.lst.inj (Option.some.inj hl)
    have h0 : (rowV t r)[0]? = some (.str (clE.getD r.ix "")) := by cases r <;> rfl
    rw [← e] at h0
    obtain ⟨x, _, ex⟩ := map_at h0
    cases ex
theorem RecAt.mi {H : Hp} {D a : Addr} {o : HO} {r : Rc} {ys : List V} (h : RecAt K H a r) (hD : H D = some (.lst ys)) : RecAt K (upd H D o) a r := by
  obtain ⟨dx, t, ha, ho⟩ := h
  refine ⟨dx, t, ?_, ho.mu hD⟩
  rw [upd_ne (fun z => by rw [z, hD] at ha; cases ha)]
  exact ha
/-- what is due, as a row -/
def DueAt (H : Hp) (cs : List Nat) (v : V) : Prop := (v = .non ∧ ¬ ∃ r, Due cs r) ∨ ∃ r l, v = .ref l ∧ Due cs r ∧ RowAt H l r
/-- what is read, as a record -/
def ThAt (K : PySem.W.Frag) (H : Hp) (cs : List Nat) (v : V) : Prop := (v = .non ∧ ¬ ∃ r, Due cs r) ∨ ∃ r a, v = .ref a ∧ Due cs r ∧ RecAt K H a r
theorem rd_of {l : Addr} {cs : List Nat} {H : Hp} {Q : VK} (hl : H l = some (.lst (IN cs))) (h30 : O30 cs) (q : ∀ due H1, Evl.Ex H H1 → DueAt H1 cs due → Q due H1) : spRd [.ref l] H Q E0 :=
  ⟨l, cs, rfl, hl, h30, fun n H1 e => q .non H1 e (.inl ⟨rfl, n⟩), fun r d l' H1 e ra => q (.ref l') H1 e (.inr ⟨r, l', rfl, d, ra⟩)⟩
theorem read_of {p : Addr} {t : Bool} {cs : List Nat} {H : Hp} {Q : VK} (S : Sv t K H p (IN cs)) (ht : t = true → H p = some (.tup (IN cs))) (h30 : O30 cs) (q : ∀ th H1, Evl.Ex H H1 → ThAt K H1 cs th → Q th H1) : spRead K [.ref p] H Q E0 :=
  ⟨p, t, cs, rfl, S, ht, h30, fun n H1 e => q .non H1 e (.inl ⟨rfl, n⟩), fun r d a H1 e ra => q (.ref a) H1 e (.inr ⟨r, a, rfl, d, ra⟩)⟩
theorem Due.uq {cs : List Nat} {r r' : Rc} (h : Due cs r) (h' : Due cs r') : r = r' := Option.some.inj (h.1.symm.trans h'.1)
abbrev rrC (K : PySem.W.Frag) : TS := (tSeq
                  (tIfS
                    (tOr
                      (tTest
                        (tOp (rNeU K) (tCB rReprS (tCons (tCall (spTold K) [] E0 (tCons (tVar 5) tNil)) tNil))
                          (tCB rReprS (tCons (tVar 2) tNil))))
                      (tTest
                        (tOp (rNeU K) (tCB rReprS (tCons (tCall (spWr K) [] E0 (tCons (tVar 5) tNil)) tNil))
                          (tCB rReprS (tCons (tCB (rTupU K) (tCons (tVar 1) tNil)) tNil)))))
                    (tRet (tC (V.bl false))) tNext)
                  (tRet
                    (tAndV
                      (tCB
                        (fun xs H Q => (∃ i, xs = [V.int i] ∧ Q (V.bl (i != 0)) H) ∨ ∃ k, xs = [V.bl k] ∧ Q (V.bl k) H)
                        (tCons
                          (tOp (rEqO (Kl K) 6 (tbsR K) (spEqR K)) (tVar 5)
                            (tCall (spMade K) [] E0 (tCons (tVar 2) tNil)))
                          tNil))
                      (tOp (rEqU K)
                        (tCB rReprS
                          (tCons
                            (tCall (spTold K) [] E0
                              (tCons (tCall (spRead K) [] E0 (tCons (tCB (rTupU K) (tCons (tVar 1) tNil)) tNil)) tNil))
                            tNil))
                        (tCB rReprS (tCons (tVar 2) tNil))))))
abbrev rrB (K : PySem.W.Frag) : TS := (tSeq
          (tIfS (tTest (tOp (rNeU K) (tVar 4) (tCB (rListU K) (tCons (tVar 1) tNil)))) (tRet (tC (V.bl false))) tNext)
          (tSeq
            (tIfS (tTest (tOp (fun x y H Q => y = V.non ∧ Q (V.bl (decide (x = V.non))) H) (tVar 2) (tC V.non)))
              (tRet (tOp (fun x y H Q => y = V.non ∧ Q (V.bl (decide (x = V.non))) H) (tVar 5) (tC V.non))) tNext)
            (tSeq
              (tAsg
                (tTup
                  (tCons (tOp (rI0 fun i j => V.int (i - j)) (tC (V.int 255)) (tOp (rIx K) (tVar 4) (tC (V.int 10))))
                    (tCons (tOp (rI0 fun i j => V.int (i - j)) (tC (V.int 255)) (tOp (rIx K) (tVar 4) (tC (V.int 25))))
                      tNil)))
                (gTup K 2
                  (gCons (gSub (tVar 4) (tC (V.int 10)) rSetL) (gCons (gSub (tVar 4) (tC (V.int 25)) rSetL) gNil))))
              (tSeq
                (tDrop
                  (tBM K
                    "list" rAppend (tVar 4) (tCons (tC (V.int 1)) tNil)))
                (rrC K)))))
theorem rr_c {D : Ends} {Q : VK} {bx l hd a l' : Addr} {way : Int} {cs : List Nat} {r : Rc} {H : Hp} (eD : D.rt = Q) (hl : H l = some (.lst (IN cs))) (h30 : O30 cs) (d : Due cs r) (ra : RecAt K H a r) (rl : RowAt H l' r) (q : ∀ H', Evl.Ex H H' → Q (.bl true) H') :
    rrC K D [some (.ref bx), some (.ref l), some (.ref l'), some (.int way), some (.ref hd), some (.ref a)] H := by
  subst eD
  have g := d.2.1
  obtain ⟨_, _, s0, d0, z0⟩ := row_shw rl g
  have eo : IN cs = IV (octs r) := by rw [d.2.2]
  refine rp_ne z0 (fun Q' k => ⟨_, rfl, a, r, rfl, ra, fun l2 H2 e2 rl2 => ?_⟩) (fun H1 e1 Q' k => ⟨_, rfl, ?_⟩) fun H3 e3 => ?_
  · obtain ⟨bs, dd, s, dz, _⟩ := row_shw rl2 g
    exact k _ _ bs dd e2 s dz
  · obtain ⟨bs, dd, s, dz, _⟩ := row_shw (rl.ex e1) g
    exact k _ _ bs dd (Evl.Ex.refl _) s dz
  obtain ⟨T, hT, hz⟩ : ∃ T, T = tupleText ((IV (octs r)).map txV) ∧ T.length ≤ sizeLine := ⟨_, rfl, Nat.le_trans (len_flat (fun x hx => by
    obtain ⟨i, hi, rfl⟩ := List.mem_map.mp hx
    have := octs_bd g i hi
    exact tx_i this.1 this.2) (by rw [iv_len]; exact octs_len g)).2 (by decide)⟩
  refine iteF (rp_ne (T := T) hz (fun Q' k => ⟨_, rfl, a, r, rfl, g, ra.ex e3, fun p H2 e2 h2 => ?_⟩) (fun H1 e1 Q' k => ⟨_, rfl, l, _, rfl, .inl ⟨SqL.of ((e3.trans e1) _ _ hl), fun p np => ?_⟩⟩) fun H4 e4 => iteF ?_)
  · obtain ⟨bs, dd, s, dz, _⟩ := octs_shw h2 g
    rw [← hT] at s
    exact k _ _ bs dd e2 s dz
  · obtain ⟨bs, dd, s, dz, _⟩ := octs_shw (H := upd H1 p (.tup (IN cs))) (p := p) (r := r) (by rw [upd_same, eo]) g
    rw [← hT] at s
    exact k _ _ bs dd (Evl.Ex.new np) s dz
  have E4 := e3.trans e4
  refine ⟨_, rfl, _, rfl, l', r, rfl, rl.ex E4, g, fun b H5 e5 rb => eq_rec (ra.ex (E4.trans e5)) g rb g fun H6 e6 => .inr ⟨_, rfl, _, rfl, ?_⟩⟩
  rw [decide_eq_true rfl]
  have E6 := E4.trans (e5.trans e6)
  refine iteT (rp_eq z0 (fun Q' k => ⟨_, rfl, l, _, rfl, .inl ⟨SqL.of (E6 _ _ hl), fun p np => ?_⟩⟩) (fun H1 e1 Q' k => ⟨_, rfl, ?_⟩) fun H7 e7 => q H7 (E6.trans e7))
  · refine read_of (t := true) (Sv.tup upd_same) (fun _ => upd_same) h30 fun th H1 e1 ht => ?_
    rcases ht with ⟨_, n⟩ | ⟨r', a', rfl, d', ra'⟩
    · exact absurd ⟨r, d⟩ n
    · cases d.uq d'
      refine ⟨a', r, rfl, ra', fun l2 H2 e2 rl2 => ?_⟩
      obtain ⟨bs, dd, s, dz, _⟩ := row_shw rl2 g
      exact k _ _ bs dd ((Evl.Ex.new np).trans (e1.trans e2)) s dz
  · obtain ⟨bs, dd, s, dz, _⟩ := row_shw (rl.ex (E6.trans e1)) g
    exact k _ _ bs dd (Evl.Ex.refl _) s dz
theorem rr_b {D : Ends} {Q : VK} {bx l hd : Addr} {due th : V} {way : Int} {n : Int} {cs : List Nat} {H0 H : Hp} (eD : D.rt = Q) (hl : H l = some (.lst (IN cs))) (lh : l ≠ hd) (hh : H hd = some (.lst (IN cs))) (hdb : hd ≠ bx) (h0 : H0 hd = none) (h30 : O30 cs) (B : Box H bx n) (e : Exb bx H0 H) (dd : DueAt H cs due) (tt : ThAt K H cs th) (q : ∀ H', Exb bx H0 H' → Box H' bx n → Q (.bl true) H') :
    rrB K D [some (.ref bx), some (.ref l), some due, some (.int way), some (.ref hd), some th] H := by
  subst eD
  refine ⟨_, rfl, _, rfl, l, _, rfl, .inl (SqL.of hl), fun c nc => ne_same ((Evl.Ex.new nc) _ _ hh) upd_same ⟨_, rfl, iteF ?_⟩⟩
  have yc := Evl.Ex.new (o := .lst (IN cs)) nc
  generalize upd H c (.lst (IN cs)) = H1 at yc ⊢
  have hl1 := yc _ _ hl
  have hh1 := yc _ _ hh
  have B1 := B.ex yc
  have E1 := e.trans (Exb.of yc)
  rcases dd with ⟨rfl, no⟩ | ⟨r, l', rfl, d, rl⟩
  · rcases tt with ⟨rfl, _⟩ | ⟨r, _, _, d, _⟩
    · exact ⟨_, rfl, rfl, _, rfl, iteT ⟨_, rfl, rfl, q H1 E1 B1⟩⟩
    · exact absurd ⟨r, d⟩ no
  rcases tt with ⟨_, no⟩ | ⟨r', a, rfl, d', ra⟩
  · exact absurd ⟨r, d⟩ no
  cases d.uq d'
  have rl1 := rl.ex yc
  have ra1 := ra.ex yc
  obtain ⟨xs, exs⟩ : ∃ xs, xs = cs.map Int.ofNat := ⟨_, rfl⟩
  have lx : xs.length = 30 := by rw [exs, List.length_map, h30.1]
  have hh1 : H1 hd = some (.lst (IV xs)) := by rw [hh1, exs]
  obtain ⟨x, hx, mx⟩ := iv_at (xs := xs) (j := 10) (by omega)
  obtain ⟨z, hz, mz⟩ := iv_at (xs := xs) (j := 25) (by omega)
  refine ⟨_, rfl, rfl, _, rfl, iteF ⟨_, rfl, Sv.ix (x := .non) (Sv.lst hh1) hx ⟨_, _, rfl, rfl, _, rfl, Sv.ix (x := .non) (Sv.lst hh1) hz ⟨_, _, rfl, rfl, by show 2 ≤ sizeLine; decide, fun t nt => ⟨t, _, rfl, SqT.of upd_same, rfl, _, _, rfl, ?_⟩⟩⟩⟩⟩
  have yt := Evl.Ex.new (o := .tup [V.int (255 - x), .int (255 - z)]) nt
  have hh2 := yt _ _ hh1
  have hl2 := yt _ _ hl1
  have B2 := B1.ex yt
  have E2 := E1.trans (Exb.of yt)
  have rl2 := rl1.ex yt
  have ra2 := ra1.ex yt
  generalize upd H1 t (.tup [V.int (255 - x), .int (255 - z)]) = H2 at yt hh2 hl2 B2 E2 rl2 ra2 ⊢
  refine ⟨_, rfl, set_x (j := 10) hh2 (by omega) ⟨_, _, rfl, _, rfl, set_x (j := 25) upd_same (by rw [List.length_set]; omega) ⟨rfl, ?_⟩⟩⟩
  have rl3 := rl2.mi (o := .lst (IV (xs.set 10 (255 - x)))) hh2
  have ra3 := ra2.mi (o := .lst (IV (xs.set 10 (255 - x)))) hh2
  have h3 := upd_same (H := H2) (a := hd) (o := .lst (IV (xs.set 10 (255 - x))))
  have hl3 : (upd H2 hd (.lst (IV (xs.set 10 (255 - x))))) l = some (.lst (IN cs)) := by rw [upd_ne lh]; exact hl2
  have B3 := box_mut (o := .lst (IV (xs.set 10 (255 - x)))) B2 hdb
  have E3 := exb_mut (o := .lst (IV (xs.set 10 (255 - x)))) E2 h0
  generalize upd H2 hd (.lst (IV (xs.set 10 (255 - x)))) = H3 at rl3 ra3 h3 hl3 B3 E3 ⊢
  have rl4 := rl3.mi (o := .lst (IV ((xs.set 10 (255 - x)).set 25 (255 - z)))) h3
  have ra4 := ra3.mi (o := .lst (IV ((xs.set 10 (255 - x)).set 25 (255 - z)))) h3
  have h4 := upd_same (H := H3) (a := hd) (o := .lst (IV ((xs.set 10 (255 - x)).set 25 (255 - z))))
  have hl4 : (upd H3 hd (.lst (IV ((xs.set 10 (255 - x)).set 25 (255 - z))))) l = some (.lst (IN cs)) := by rw [upd_ne lh]; exact hl3
  have B4 := box_mut (o := .lst (IV ((xs.set 10 (255 - x)).set 25 (255 - z)))) B3 hdb
  have E4 := exb_mut (o := .lst (IV ((xs.set 10 (255 - x)).set 25 (255 - z)))) E3 h0
  generalize upd H3 hd (.lst (IV ((xs.set 10 (255 - x)).set 25 (255 - z)))) = H4 at rl4 ra4 h4 hl4 B4 E4 ⊢
  refine ⟨_, rfl, .inl ⟨rfl, _, SqL.of h4⟩, hd, _, _, rfl, rfl, h4, by rw [iv_len, List.length_set, List.length_set, lx]; decide, ?_⟩
  have rl5 := rl4.mi (o := .lst (IV ((xs.set 10 (255 - x)).set 25 (255 - z)) ++ [V.int 1])) h4
  have ra5 := ra4.mi (o := .lst (IV ((xs.set 10 (255 - x)).set 25 (255 - z)) ++ [V.int 1])) h4
  have hl5 : (upd H4 hd (.lst (IV ((xs.set 10 (255 - x)).set 25 (255 - z)) ++ [V.int 1]))) l = some (.lst (IN cs)) := by rw [upd_ne lh]; exact hl4
  have B5 := box_mut (o := .lst (IV ((xs.set 10 (255 - x)).set 25 (255 - z)) ++ [V.int 1])) B4 hdb
  have E5 := exb_mut (o := .lst (IV ((xs.set 10 (255 - x)).set 25 (255 - z)) ++ [V.int 1])) E4 h0
  exact rr_c rfl hl5 h30 d ra5 rl5 fun H' e' => q H' (E5.trans (Exb.of e')) (B5.ex e')
def spRdR : Sp := fun vs H Q _ => ∃ (bx l : Addr) (n : Int) (cs : List Nat), vs = [.ref bx, .ref l] ∧ H l = some (.lst (IN cs)) ∧ l ≠ bx ∧ O30 cs ∧ Box H bx n ∧ n < 99990000 ∧
  ∀ (H' : Hp), Exb bx H H' → Box H' bx (n + 1) → Q (.bl true) H'
theorem ok_rdR (T : Txt K mg) (hd : base.NoDigits) (EE : EqR P w K mg base) (F : FnP K "_law_read_right" s__law_read_right f fd) (C__law_read : Cal P w K mg base CX0 3 "_law_read" ["_law_octets_here"] spRd) (C__law_take : Cal P w K mg base CX0 1 "_law_take" ["_law_box_here", "_law_many"] spTake)
    (C_read_record : Cal P w K mg base CX0 12 "read_record" ["data"] (spRead K)) (CK_read_record_0_data : CalK P w K mg base CX0 12 "read_record" ["data"] 0 ["data"] g1 g1V (spRead K)) (C__law_told : Cal P w K mg base CX0 1 "_law_told" ["_law_thing"] (spTold K)) (C_written : Cal P w K mg base CX0 3 "written" ["record"] (spWr K)) (C__law_made : Cal P w K mg base CX0 9 "_law_made" ["_law_row"] (spMade K)) :
    Fg P w K mg base CX0 13 f fd ["_law_box_here", "_law_octets_here"] spRdR := by
  refine fg_of F sc__law_read_right (fun vs H Q E h => ?_) (fun cdv A outer s H vs Q E hr h => ⟨_, (PSs.nox (pss_cons (ps_par (i := 2) (j := 3) rfl sc__law_read_right.nd rfl rfl (by decide) rfl rfl (pa_cons (pe_cal C__law_read hr.le pass0 (pa_cons (pv 1) pa_nil)) (pa_cons (pe_cal C__law_take hr.le pass0 (pa_cons (pv 0) (pa_cons pe_int pa_nil))) pa_nil)) (by rfl))
  (pss_cons (ps_set (i := 4) sc__law_read_right.nd rfl (by first | exact Or.inl rfl | exact Or.inr rfl) (pe_callTy (u_list (K := K)) (by rfl) T.f_list (by decide +kernel) (pa_cons (pv 1) pa_nil)))
  (pss_cons (ps_if (pt_cmpR (u_eq (K := K) hr) (pv 3) pe_int (nomark _))
  (pss_one (ps_set (i := 5) sc__law_read_right.nd rfl (by first | exact Or.inl rfl | exact Or.inr rfl) (pe_cal C_read_record hr.le pass0 (pa_cons (pe_callTy (u_tup (K := K)) (by rfl) T.f_tuple (by decide +kernel) (pa_cons (pv 1) pa_nil)) pa_nil)))) (pss_one (ps_set (i := 5) sc__law_read_right.nd rfl (by first | exact Or.inl rfl | exact Or.inr rfl) (pe_ifExp (pt_cmpR (u_eq (K := K) hr) (pv 3) pe_int (nomark _)) (pe_calk CK_read_record_0_data hr.le pass0 (pk_cons (pv 4) pk_nil)) (pe_cal C_read_record hr.le pass0 (pa_cons (pv 4) pa_nil))))))
  (pss_cons (ps_if (pt_cmpR (u_ne (K := K) hr) (pv 4) (pe_callTy (u_list (K := K)) (by rfl) T.f_list (by decide +kernel) (pa_cons (pv 1) pa_nil)) (nomark _))
  (pss_one (ps_ret pe_bl)) pss_nil)
  (pss_cons (ps_if (pt_cmpR op_isN (pv 2) pe_non (nomark _))
  (pss_one (ps_ret (pe_cmpR op_isN (pv 5) pe_non (nomark _)))) pss_nil)
  (pss_cons (ps_asg (pe_tup (pa_cons (pe_op op_sub pe_int (pe_ix (u_ix (K := K)) (pv 4) pe_int (fun _ _ => rfl))) (pa_cons (pe_op op_sub pe_int (pe_ix (u_ix (K := K)) (pv 4) pe_int (fun _ _ => rfl))) pa_nil))) (pg_tupU (K := K) (n := 2) rfl (pgs_cons (pg_sub (pv 4) pe_int set_list) (pgs_cons (pg_sub (pv 4) pe_int set_list) pgs_nil))))
  (pss_cons (ps_expr (pe_bm PySem.F.plainAttrs_list PySem.F.slot_list_append PySem.F.type_list_append mt_append (pv 4) (pa_cons pe_int pa_nil)))
  (pss_cons (ps_if (PW.pt (pw_or (pt_cmpR (u_ne (K := K) hr) (pe_callB (call_reprS hr hd) (by rfl) T.f_repr (by decide +kernel) (pa_cons (pe_cal C__law_told hr.le pass0 (pa_cons (pv 5) pa_nil)) pa_nil)) (pe_callB (call_reprS hr hd) (by rfl) T.f_repr (by decide +kernel) (pa_cons (pv 2) pa_nil)) (nomark _)) (pw_or1 (pt_cmpR (u_ne (K := K) hr) (pe_callB (call_reprS hr hd) (by rfl) T.f_repr (by decide +kernel) (pa_cons (pe_cal C_written hr.le pass0 (pa_cons (pv 5) pa_nil)) pa_nil)) (pe_callB (call_reprS hr hd) (by rfl) T.f_repr (by decide +kernel) (pa_cons (pe_callTy (u_tup (K := K)) (by rfl) T.f_tuple (by decide +kernel) (pa_cons (pv 1) pa_nil)) pa_nil)) (nomark _)))))
  (pss_one (ps_ret pe_bl)) pss_nil)
  (pss_one (ps_ret (pe_and (pe_callTy call_bool1 (by rfl) T.f_bool (by decide +kernel) (pa_cons (pe_cmpR (op_eqO (n := 6) (Cl := Kl K) (tbs := tbsR K) (sp := spEqR K) hr.le EE) (pv 5) (pe_cal C__law_made hr.le pass0 (pa_cons (pv 2) pa_nil)) (nomark _)) pa_nil)) (pe_one (pe_cmpR (u_eq (K := K) hr) (pe_callB (call_reprS hr hd) (by rfl) T.f_repr (by decide +kernel) (pa_cons (pe_cal C__law_told hr.le pass0 (pa_cons (pe_cal C_read_record hr.le pass0 (pa_cons (pe_callTy (u_tup (K := K)) (by rfl) T.f_tuple (by decide +kernel) (pa_cons (pv 1) pa_nil)) pa_nil)) pa_nil)) pa_nil)) (pe_callB (call_reprS hr hd) (by rfl) T.f_repr (by decide +kernel) (pa_cons (pv 2) pa_nil)) (nomark _))))))))))))))), ?_⟩)
  · obtain ⟨bx, l, n, cs, rfl, _⟩ := h
    rfl
  · obtain ⟨bx, l, n, cs, rfl, hl, lb, h30, B, hn, q⟩ := h
    refine ⟨_, rfl, rd_of hl h30 fun due H1 e1 dd => ?_⟩
    have B1 := B.ex e1
    refine ⟨_, rfl, bx, 3, n, rfl, B1, by decide, by decide, by omega, fun way H2 w0 w3 e2 B2 => ⟨_, _, rfl, ?_⟩⟩
    have hl2 := e2 _ _ lb (e1 _ _ hl)
    have dd2 : DueAt H2 cs due := by
      rcases dd with h | ⟨r, l', h1, h2, h3⟩
      · exact .inl h
      · exact .inr ⟨r, l', h1, h2, h3.xb B1 e2⟩
    refine ⟨_, rfl, l, _, rfl, .inl (SqL.of hl2), fun hd nh => ?_⟩
    have y := Evl.Ex.new (o := .lst (IN cs)) nh
    have hdb := B2.at nh
    have nH : H hd = none := by
      cases h : H hd with
      | none => rfl
      | some o => rw [e2 _ _ hdb (e1 _ _ h)] at nh; cases nh
    have lh : l ≠ hd := fun z => by rw [← z, hl2] at nh; cases nh
    have hh := upd_same (H := H2) (a := hd) (o := .lst (IN cs))
    have hl3 := y _ _ hl2
    have B3 := B2.ex y
    have E3 := ((Exb.of e1).trans e2).trans (Exb.of y)
    have dd3 : DueAt (upd H2 hd (.lst (IN cs))) cs due := by
      rcases dd2 with h | ⟨r, l', h1, h2, h3⟩
      · exact .inl h
      · exact .inr ⟨r, l', h1, h2, h3.ex y⟩
    generalize upd H2 hd (.lst (IN cs)) = H3 at y hh hl3 B3 E3 dd3 ⊢
    have main : ∀ (th : V) (H4 : Hp), Evl.Ex H3 H4 → ThAt K H4 cs th → rrB K { nx := fun x H' => Q V.non H', rt := Q } [some (.ref bx), some (.ref l), some due, some (.int way), some (.ref hd), some th] H4 := fun th H4 e4 tt => by
      refine rr_b (n := n + 1) rfl (e4 _ _ hl3) lh (e4 _ _ hh) hdb nH h30 (B3.ex e4) (E3.trans (Exb.of e4)) ?_ tt q
      rcases dd3 with h | ⟨r, l', h1, h2, h3⟩
      · exact .inl h
      · exact .inr ⟨r, l', h1, h2, h3.ex e4⟩
    refine ⟨_, rfl, .inl ⟨rfl, _, rfl, ?_⟩⟩
    refine ite2 (fun _ => ⟨_, rfl, l, _, rfl, .inl ⟨SqL.of hl3, fun p np => read_of (t := true) (Sv.tup upd_same) (fun _ => upd_same) h30 fun th H4 e4 tt => main th H4 ((Evl.Ex.new np).trans e4) tt⟩⟩) (fun _ => ?_)
    refine ⟨_, rfl, .inl ⟨rfl, _, rfl, ?_⟩⟩
    exact ite2 (fun _ => ⟨_, rfl, rfl, rfl, read_of (t := false) (Sv.lst hh) (fun z => by cases z) h30 main⟩) (fun _ => ⟨_, rfl, read_of (t := false) (Sv.lst hh) (fun z => by cases z) h30 main⟩)
end
end K12
/-! moved records are right -/
namespace K12
open PySem PySem.Spec PyProof.Rows L2 VB BM
section
variable {P : Program} {w : World} {K : PySem.W.Frag} {mg : Str → Option Value} {base : Heap} {f : Addr} {fd : FuncData}
theorem row_01 {t : V} {r : Rc} (h : 2 ≤ r.ix) : atI (rowV t r) 0 = some (.str (clE.getD r.ix "")) ∧ atI (rowV t r) 1 = some (.int r.dd) := by
  cases r with
  | head => exact absurd (show 2 ≤ 0 from h) (by decide)
  | sl => exact absurd (show 2 ≤ 1 from h) (by decide)
  | _ => exact ⟨rfl, rfl⟩
theorem row_mvd {t : V} {r : Rc} (h : 2 ≤ r.ix) (u : Int) : [V.str (clE.getD r.ix ""), .int r.dd, .int 0, .int 0] ++ cutV (rowV t r) (some 4) (some (-1)) ++ [.int u] = rowV t (mvd r u) := by
  cases r with
  | head => exact absurd (show 2 ≤ 0 from h) (by decide)
  | sl => exact absurd (show 2 ≤ 1 from h) (by decide)
  | _ => rfl
theorem mvd_mvd {r : Rc} (u v : Int) : mvd (mvd r u) v = mvd r v := by cases r <;> rfl
/-- a record and its row -/
def PrAt (K : PySem.W.Frag) (H : Hp) (p : Addr) : Prop := ∃ (a l : Addr) (r : Rc), H p = some (.tup [.ref a, .ref l]) ∧ RecAt K H a r ∧ RowAt H l r ∧ Good r
theorem PrAt.ex {H H' : Hp} {p : Addr} (h : PrAt K H p) (e : Evl.Ex H H') : PrAt K H' p := by
  obtain ⟨a, l, r, h1, h2, h3, h4⟩ := h
  exact ⟨a, l, r, e _ _ h1, h2.ex e, h3.ex e, h4⟩
theorem row_len5 {t : V} {r : Rc} (u : Int) : (rowV t (mvd r u)).length ≤ 20 := by cases r <;> simp [mvd, rowV]
theorem told_T {σ : List (Option V)} {i : Nat} {a : Addr} {r : Rc} {H : Hp} {Q' : VK} (hs : σ[i]? = some (some (.ref a))) (ra : RecAt K H a r) (g : Good r) (k : ∀ (v : V) (H1 : Hp) (bs : List Addr) (d : Nat), Evl.Ex H H1 → Shw H1 v (listText (rowT r)) bs d → d ≤ 60 → Q' v H1) : tCall (spTold K) [] E0 (tCons (tVar i) tNil) σ H Q' := by
  refine ⟨_, hs, a, r, rfl, ra, fun l2 H2 e2 rl2 => ?_⟩
  obtain ⟨bs, dd, s, dz, _⟩ := row_shw rl2 g
  exact k _ _ bs dd e2 s dz
theorem row_T {σ : List (Option V)} {i : Nat} {l : Addr} {r : Rc} {H : Hp} {Q' : VK} (hs : σ[i]? = some (some (.ref l))) (rl : RowAt H l r) (g : Good r) (k : ∀ (v : V) (H1 : Hp) (bs : List Addr) (d : Nat), Evl.Ex H H1 → Shw H1 v (listText (rowT r)) bs d → d ≤ 60 → Q' v H1) : tVar i σ H Q' := by
  obtain ⟨bs, dd, s, dz, _⟩ := row_shw rl g
  exact ⟨_, hs, k _ _ bs dd (Evl.Ex.refl _) s dz⟩
theorem row_z {H : Hp} {l : Addr} {r : Rc} (rl : RowAt H l r) (g : Good r) : (listText (rowT r)).length ≤ sizeLine := by
  obtain ⟨_, _, _, _, z⟩ := row_shw rl g
  exact z
theorem octs_z {r : Rc} (g : Good r) : (tupleText ((IV (octs r)).map txV)).length ≤ sizeLine := Nat.le_trans (len_flat (fun x hx => by
    obtain ⟨i, hi, rfl⟩ := List.mem_map.mp hx
    have := octs_bd g i hi
    exact tx_i this.1 this.2) (by rw [iv_len]; exact octs_len g)).2 (by decide)
def spMvR (K : PySem.W.Frag) : Sp := fun vs H Q _ => ∃ (bx a l : Addr) (n : Int) (r : Rc), vs = [.ref bx, .ref a, .ref l] ∧ 2 ≤ r.ix ∧ RecAt K H a r ∧ RowAt H l r ∧ Good r ∧ Box H bx n ∧ n < 30000000 ∧
  ∀ (H' : Hp), Exb bx H H' → Box H' bx (n + 6) → Q (.bl true) H'
theorem ok_mvR (T : Txt K mg) (hd : base.NoDigits) (EE : EqR P w K mg base) (F : FnP K "_law_moved_right" s__law_moved_right f fd) (C__law_until : Cal P w K mg base CX0 3 "_law_until" ["_law_box_here", "_law_place"] spUnt)
    (C_moved : Cal P w K mg base CX0 10 "moved" ["record", "until"] (spMoved K)) (CK_moved_0_until_record : CalK P w K mg base CX0 10 "moved" ["record", "until"] 0 ["until", "record"] g21 g21V (spMoved K)) (C__law_told : Cal P w K mg base CX0 1 "_law_told" ["_law_thing"] (spTold K)) (C_written : Cal P w K mg base CX0 3 "written" ["record"] (spWr K)) (C__law_made : Cal P w K mg base CX0 9 "_law_made" ["_law_row"] (spMade K)) (C__law_octets : Cal P w K mg base CX0 2 "_law_octets" ["_law_row"] spLOct) :
    Fg P w K mg base CX0 11 f fd ["_law_box_here", "_law_thing", "_law_row"] (spMvR K) := by
  refine fg_of F sc__law_moved_right (fun vs H Q E h => ?_) (fun cdv A outer s H vs Q E hr h => ⟨_, (PSs.nox (pss_cons (ps_set (i := 3) sc__law_moved_right.nd rfl (by first | exact Or.inl rfl | exact Or.inr rfl) (pe_lst (pa_cons (pe_cal C__law_until hr.le pass0 (pa_cons (pv 0) (pa_cons (pe_lst (pa_cons (pe_ix (u_ix (K := K)) (pv 2) pe_int (fun _ _ => rfl)) (pa_cons pe_int (pa_cons pe_int pa_nil)))) pa_nil))) (pa_cons (pe_cal C__law_until hr.le pass0 (pa_cons (pv 0) (pa_cons (pe_lst (pa_cons (pe_ix (u_ix (K := K)) (pv 2) pe_int (fun _ _ => rfl)) (pa_cons pe_int (pa_cons pe_int pa_nil)))) pa_nil))) pa_nil))))
  (pss_cons (ps_setLc (i := 4) (own := [("_law_until_here", 10)]) rfl sc__law_moved_right.nd rfl rfl (sw_true rfl rfl rfl (by decide +kernel)) (pi_seq (K := K) (pv 3)) (blkOk_by (own := [("_law_until_here", 10)]) (N := ["_law_box_here", "_law_thing", "_law_row", "_law_untils", "_law_rows", "_law_first", "_law_other", "_law_pairs", "_law_told_here", "_law_due", "_law_until_here"]) (sc := defScope s__law_moved_right) (by decide +kernel)) (fun _ _ _ _ _ => (pg_name (i := 10) sc__law_moved_right.nd rfl (by first | exact Or.inl rfl | exact Or.inr rfl))) (fun _ _ _ _ _ => pts_nil) (fun _ _ _ _ _ => (pe_op (u_add (K := K)) (pe_op (u_add (K := K)) (pe_lst (pa_cons (pe_ix (u_ix (K := K)) (pv 2) pe_int (fun _ _ => rfl)) (pa_cons (pe_ix (u_ix (K := K)) (pv 2) pe_int (fun _ _ => rfl)) (pa_cons pe_int (pa_cons pe_int pa_nil))))) (pe_slice (u_sl (K := K)) (pv 2) (po_some pe_int) (po_some (pe_un un_neg pe_int)))) (pe_lst (pa_cons (pv 10) pa_nil)))))
  (pss_cons (ps_par (i := 5) (j := 6) rfl sc__law_moved_right.nd rfl rfl (by decide) rfl rfl (pa_cons (pe_cal C_moved hr.le pass0 (pa_cons (pv 1) (pa_cons (pe_ix (u_ix (K := K)) (pv 3) pe_int (fun _ _ => rfl)) pa_nil))) (pa_cons (pe_calk CK_moved_0_until_record hr.le pass0 (pk_cons (pe_ix (u_ix (K := K)) (pv 3) pe_int (fun _ _ => rfl)) (pk_cons (pv 1) pk_nil))) pa_nil)) (by rfl))
  (pss_cons (ps_set (i := 7) sc__law_moved_right.nd rfl (by first | exact Or.inl rfl | exact Or.inr rfl) (pe_lst (pa_cons (pe_tup (pa_cons (pv 5) (pa_cons (pe_ix (u_ix (K := K)) (pv 4) pe_int (fun _ _ => rfl)) pa_nil))) (pa_cons (pe_tup (pa_cons (pv 6) (pa_cons (pe_ix (u_ix (K := K)) (pv 4) pe_int (fun _ _ => rfl)) pa_nil))) (pa_cons (pe_tup (pa_cons (pe_cal C_moved hr.le pass0 (pa_cons (pv 5) (pa_cons (pe_ix (u_ix (K := K)) (pv 3) pe_int (fun _ _ => rfl)) pa_nil))) (pa_cons (pe_ix (u_ix (K := K)) (pv 4) pe_int (fun _ _ => rfl)) pa_nil))) (pa_cons (pe_tup (pa_cons (pe_cal C_moved hr.le pass0 (pa_cons (pv 6) (pa_cons (pe_ix (u_ix (K := K)) (pv 3) pe_int (fun _ _ => rfl)) pa_nil))) (pa_cons (pe_ix (u_ix (K := K)) (pv 4) pe_int (fun _ _ => rfl)) pa_nil))) pa_nil))))))
  (pss_cons (ps_for PassesOwn.never rfl (pi_seq (K := K) (pv 7)) (pg_tupU (K := K) (n := 2) rfl (pgs_cons (pg_name (i := 8) sc__law_moved_right.nd rfl (by first | exact Or.inl rfl | exact Or.inr rfl)) (pgs_cons (pg_name (i := 9) sc__law_moved_right.nd rfl (by first | exact Or.inl rfl | exact Or.inr rfl)) pgs_nil)))
  (pss_one (ps_if (PW.pt (pw_or (pt_cmpR (u_ne (K := K) hr) (pe_callB (call_reprS hr hd) (by rfl) T.f_repr (by decide +kernel) (pa_cons (pe_cal C__law_told hr.le pass0 (pa_cons (pv 8) pa_nil)) pa_nil)) (pe_callB (call_reprS hr hd) (by rfl) T.f_repr (by decide +kernel) (pa_cons (pv 9) pa_nil)) (nomark _)) (pw_or1 (pt_not (pt_tru (K := K) (pe_callTy call_bool1 (by rfl) T.f_bool (by decide +kernel) (pa_cons (pe_cmpR (op_eqO (n := 6) (Cl := Kl K) (tbs := tbsR K) (sp := spEqR K) hr.le EE) (pv 8) (pe_cal C__law_made hr.le pass0 (pa_cons (pv 9) pa_nil)) (nomark _)) pa_nil)) (by intro _; rfl))))))
  (pss_one (ps_ret pe_bl)) pss_nil)))
  (pss_one (ps_ret (pe_and (pe_cmpR (u_eq (K := K) hr) (pe_callB (call_reprS hr hd) (by rfl) T.f_repr (by decide +kernel) (pa_cons (pe_cal C__law_told hr.le pass0 (pa_cons (pv 1) pa_nil)) pa_nil)) (pe_callB (call_reprS hr hd) (by rfl) T.f_repr (by decide +kernel) (pa_cons (pv 2) pa_nil)) (nomark _)) (pe_one (pe_cmpR (u_eq (K := K) hr) (pe_callB (call_reprS hr hd) (by rfl) T.f_repr (by decide +kernel) (pa_cons (pe_cal C_written hr.le pass0 (pa_cons (pv 5) pa_nil)) pa_nil)) (pe_callB (call_reprS hr hd) (by rfl) T.f_repr (by decide +kernel) (pa_cons (pe_cal C__law_octets hr.le pass0 (pa_cons (pe_ix (u_ix (K := K)) (pv 4) pe_int (fun _ _ => rfl)) pa_nil)) pa_nil)) (nomark _)))))))))))), ?_⟩)
  · obtain ⟨bx, a, l, n, r, rfl, _⟩ := h
    rfl
  · obtain ⟨bx, a, l, n, r, rfl, h2, ra, rl, g, B, hn, q⟩ := h
    obtain ⟨t, hl, ho⟩ := id rl
    obtain ⟨at0', at1⟩ := row_01 (t := t) h2
    have dk := (dd_ok h2 g).1
    have lb : l ≠ bx := fun z => by
      obtain ⟨_, _, _, _, hb, _⟩ := id B
      rw [z, hb] at hl
      rw [← HO.lst.inj (Option.some.inj hl)] at at0'
      cases at0'
    refine ⟨_, rfl, _, rfl, Sv.ix (x := .non) (Sv.lst hl) at1 ⟨by show 3 ≤ sizeLine; decide, fun p np => ⟨bx, p, n, r.dd, 0, 0, rfl, upd_same, B.at np, dk.1, dk.2.1, by decide, B.ex (Evl.Ex.new np), by omega, fun u1 H1 hu1 e1 B1 => ?_⟩⟩⟩
    have E1 := (Exb.new np).trans e1
    have hl1 := E1 _ _ lb hl
    refine ⟨_, rfl, _, rfl, Sv.ix (x := .non) (Sv.lst hl1) at1 ⟨by show 3 ≤ sizeLine; decide, fun p' np' => ⟨bx, p', n + 3, r.dd, 0, 0, rfl, upd_same, B1.at np', dk.1, dk.2.1, by decide, B1.ex (Evl.Ex.new np'), by omega, fun u2 H2 hu2 e2 B2 => ⟨by show 2 ≤ sizeLine; decide, fun us nus => ?_⟩⟩⟩⟩
    have yu := Evl.Ex.new (o := .lst [V.int u1, .int u2]) nus
    have hus := upd_same (H := H2) (a := us) (o := .lst [V.int u1, .int u2])
    have E2 := (E1.trans ((Exb.new np').trans e2)).trans (Exb.of yu)
    have B3 : Box (upd H2 us (.lst [V.int u1, .int u2])) bx (n + 6) := (B2.ex yu).le (by omega)
    show gName 3 (V.ref us) _ (upd H2 us (.lst [V.int u1, .int u2])) _
    generalize upd H2 us (.lst [V.int u1, .int u2]) = H3 at yu hus E2 B3 ⊢
    have hl3 := E2 _ _ lb hl
    have rl3 := rl.xb B E2
    have ra3 := ra.xb B E2
    have ho3 := ho.xb (box_tup B) E2
    have fin : ∀ H', Evl.Ex H3 H' → Q (.bl true) H' := fun H' e => q H' (E2.trans (Exb.of e)) (B3.ex e)
    obtain ⟨m1, m2, _, _, _, _, m7, m8⟩ := mvd_f h2 g hu1
    obtain ⟨k1, k2, _, _, _, _, k7, k8⟩ := mvd_f h2 g hu2
    clear yu e2 np' e1 np B1 B2
    -- the rows
    refine seq_var (t := false) rfl (Sv.lst hus) fun J wk D hD => ?_
    have gd : ∀ (i : Nat) (u : Int), ([u1, u2] : List Int)[i]? = some u → Good (mvd r u) ∧ OcT H3 t (mvd r u) := fun i u hu => by
      match i, hu with
      | 0, hu => cases hu; exact ⟨m8, m7 _ _ ho3⟩
      | 1, hu => cases hu; exact ⟨k8, k7 _ _ ho3⟩
      | i + 2, hu => cases hu
    refine lc_it wk (fun i H' => i ≤ 2 ∧ ∃ ls : List Addr, ls.length = i ∧ Evl.Ex H3 H' ∧ H' D = some (.lst (ls.map V.ref)) ∧ RowsA H' ls ([mvd r u1, mvd r u2].take i)) ⟨by omega, [], rfl, Evl.Ex.new hD, upd_same, .nil⟩ (fun i H' _ h => by obtain ⟨_, ls, _, e, _⟩ := h; exact Sv.lst (e _ _ hus)) ?_ ?_
    · rintro i x G G' hi ⟨_, ls, ll, eG, hG, RG⟩ ⟨rfl, hx⟩
      refine ⟨rfl, ?_⟩
      obtain ⟨u, hu, rfl⟩ : ∃ u, ([u1, u2] : List Int)[i]? = some u ∧ V.int u = x := by
        match i, hx with
        | 0, hx => exact ⟨u1, rfl, Option.some.inj hx⟩
        | 1, hx => exact ⟨u2, rfl, Option.some.inj hx⟩
        | i + 2, hx => cases hx
      obtain ⟨gu, ou⟩ := gd i u hu
      have hlG := eG _ _ hl3
      refine ⟨_, rfl, Sv.ix (x := .non) (Sv.lst hlG) at0' ⟨_, rfl, Sv.ix (x := .non) (Sv.lst hlG) at1 ⟨by show 4 ≤ sizeLine; decide, fun p np => ?_⟩⟩⟩
      have y1 := Evl.Ex.new (o := .lst [V.str (clE.getD r.ix ""), .int r.dd, .int 0, .int 0]) np
      refine ⟨_, rfl, _, rfl, _, rfl, _, rfl, .inl ⟨l, _, rfl, SqL.of (y1 _ _ hlG), fun p2 np2 => ?_⟩⟩
      have y2 := Evl.Ex.new (o := .lst (cutV (rowV t r) (some 4) (some (-1)))) np2
      have lc9 : (cutV (rowV t r) (some 4) (some (-1))).length ≤ 90 := by
        have := row_len5 (t := t) (r := r) u
        rw [← row_mvd h2 u] at this
        simp only [List.length_append] at this
        have e4 : ([V.str (clE.getD r.ix ""), .int r.dd, .int 0, .int 0] : List V).length = 4 := rfl
        have e1 : ([V.int u] : List V).length = 1 := rfl
        omega
      refine cat_l (xs := [V.str (clE.getD r.ix ""), .int r.dd, .int 0, .int 0]) (y2 _ _ upd_same) upd_same (by show 4 + _ ≤ 1000; omega) fun p3 G3 n3 e3 h3 => ⟨_, rfl, by show 1 ≤ sizeLine; decide, fun p4 n4 => ?_⟩
      have y4 := Evl.Ex.new (o := .lst [V.int u]) n4
      refine cat_l (y4 _ _ h3) upd_same (by rw [List.length_append]; show 4 + _ + 1 ≤ 1000; omega) fun p5 G5 n5 e5 h5 => ?_
      rw [row_mvd h2 u] at h5
      have eg := ((y1.trans y2).trans e3).trans (y4.trans e5)
      have r5 : RowAt G5 p5 (mvd r u) := ⟨t, h5, ou.ex (eG.trans eg)⟩
      have hD5 := eg _ _ hG
      refine ⟨_, hD5, by rw [List.length_map, ll]; exact Evl.sz_lt (by have : i < 2 := hi; omega), hi, ls ++ [p5], by rw [List.length_append, ll]; rfl, Evl.Ex.mut (eG.trans eg) hD, by rw [upd_same, List.map_append]; rfl, ?_⟩
      rw [List.take_succ, show ([mvd r u1, mvd r u2] : List Rc)[i]? = some (mvd r u) from by
        match i, hu with
        | 0, hu => cases hu; rfl
        | 1, hu => cases hu; rfl
        | i + 2, hu => cases hu]
      exact pr_app ((RG.ex eg).mu hD5) (.cons ⟨r5.mu hD5, gu⟩ .nil)
    rintro H4 ⟨_, ls, ll, e4, h4, R4⟩
    have ll : ls.length = 2 := ll
    obtain ⟨l1, l2, rfl⟩ : ∃ l1 l2, ls = [l1, l2] := by
      match ls, ll with
      | [a, b], _ => exact ⟨a, b, rfl⟩
    obtain ⟨q1, q2⟩ : RowAt H4 l1 (mvd r u1) ∧ RowAt H4 l2 (mvd r u2) := by
      cases R4 with
      | cons a b => cases b with
        | cons c d => exact ⟨a.1, c.1⟩
    have us4 := e4 _ _ hus
    have ra4 := ra3.ex e4
    clear R4 gd wk
    refine ⟨_, rfl, ?_⟩
    have ux : ∀ {H' : Hp} {Q' : VK} {σ : List (Option V)}, Evl.Ex H4 H' → σ[3]? = some (some (.ref us)) → Q' (.int u1) H' → tOp (rIx K) (tVar 3) (tC (V.int 0)) σ H' Q' := fun e hs q' => ⟨_, hs, Sv.ix (x := .non) (Sv.lst (e _ _ us4)) (v := .int u1) rfl q'⟩
    have uy : ∀ {H' : Hp} {Q' : VK} {σ : List (Option V)}, Evl.Ex H4 H' → σ[3]? = some (some (.ref us)) → Q' (.int u2) H' → tOp (rIx K) (tVar 3) (tC (V.int 1)) σ H' Q' := fun e hs q' => ⟨_, hs, Sv.ix (x := .non) (Sv.lst (e _ _ us4)) (v := .int u2) rfl q'⟩
    have rx : ∀ {H' : Hp} {Q' : VK} {σ : List (Option V)}, Evl.Ex H4 H' → σ[4]? = some (some (.ref D)) → Q' (.ref l1) H' → tOp (rIx K) (tVar 4) (tC (V.int 0)) σ H' Q' := fun e hs q' => ⟨_, hs, Sv.ix (x := .non) (Sv.lst (e _ _ h4)) (v := .ref l1) rfl q'⟩
    have ry : ∀ {H' : Hp} {Q' : VK} {σ : List (Option V)}, Evl.Ex H4 H' → σ[4]? = some (some (.ref D)) → Q' (.ref l2) H' → tOp (rIx K) (tVar 4) (tC (V.int 1)) σ H' Q' := fun e hs q' => ⟨_, hs, Sv.ix (x := .non) (Sv.lst (e _ _ h4)) (v := .ref l2) rfl q'⟩
    have dm : ∀ u, (mvd r u).dd = r.dd := fun u => by cases r <;> rfl
    have xm : ∀ u, 2 ≤ (mvd r u).ix := fun u => by cases r <;> first | exact h2 | (show 2 ≤ _; exact h2)
    have rf := Evl.Ex.refl H4
    refine ux rf rfl ⟨a, r, u1, rfl, h2, ra4, g, hu1, fun fa H5 e5 rfa => ?_⟩
    refine uy e5 rfl ⟨_, rfl, rfl, rfl, a, r, u2, rfl, h2, ra4.ex e5, g, hu2, fun oa H6 e6 roa => ⟨_, _, rfl, ?_⟩⟩
    have E6 := e5.trans e6
    have rfa6 := rfa.ex e6
    refine ⟨_, rfl, rx E6 rfl ⟨by show 2 ≤ sizeLine; decide, fun p1 n1 => ?_⟩⟩
    have y1 := Evl.Ex.new (o := .tup [V.ref fa, .ref l1]) n1
    have x1 : PrAt K (upd H6 p1 (.tup [V.ref fa, .ref l1])) p1 := ⟨fa, l1, _, upd_same, rfa6.ex y1, (q1.ex E6).ex y1, m8⟩
    refine ⟨_, rfl, ry (E6.trans y1) rfl ⟨by show 2 ≤ sizeLine; decide, fun p2 n2 => ?_⟩⟩
    generalize upd H6 p1 (.tup [V.ref fa, .ref l1]) = H7 at y1 x1 n2 ⊢
    have y2 := Evl.Ex.new (o := .tup [V.ref oa, .ref l2]) n2
    have x2 : PrAt K (upd H7 p2 (.tup [V.ref oa, .ref l2])) p2 := ⟨oa, l2, _, upd_same, (roa.ex y1).ex y2, ((q2.ex E6).ex y1).ex y2, k8⟩
    have x1' := x1.ex y2
    have E8 := E6.trans (y1.trans y2)
    have rfa8 := rfa6.ex (y1.trans y2)
    have roa8 := roa.ex (y1.trans y2)
    generalize upd H7 p2 (.tup [V.ref oa, .ref l2]) = H8 at y2 x2 x1' E8 rfa8 roa8 ⊢
    refine ⟨_, rfl, uy E8 rfl ⟨fa, mvd r u1, u2, rfl, xm _, rfa8, m8, by rw [dm]; exact hu2, fun ga H9 e9 rga => ?_⟩⟩
    rw [mvd_mvd] at rga
    refine ry (E8.trans e9) rfl ⟨by show 2 ≤ sizeLine; decide, fun p3 n3 => ?_⟩
    have y3 := Evl.Ex.new (o := .tup [V.ref ga, .ref l2]) n3
    have x3 : PrAt K (upd H9 p3 (.tup [V.ref ga, .ref l2])) p3 := ⟨ga, l2, _, upd_same, rga.ex y3, (q2.ex (E8.trans e9)).ex y3, k8⟩
    have E10 := E8.trans (e9.trans y3)
    have x12 := And.intro (x1'.ex (e9.trans y3)) (x2.ex (e9.trans y3))
    have rfa10 := rfa8.ex (e9.trans y3)
    have roa10 := roa8.ex (e9.trans y3)
    generalize upd H9 p3 (.tup [V.ref ga, .ref l2]) = H10 at y3 x3 x12 E10 rfa10 roa10 ⊢
    refine ⟨_, rfl, ux E10 rfl ⟨oa, mvd r u2, u1, rfl, xm _, roa10, k8, by rw [dm]; exact hu1, fun ha H11 e11 rha => ?_⟩⟩
    rw [mvd_mvd] at rha
    refine rx (E10.trans e11) rfl ⟨by show 2 ≤ sizeLine; decide, fun p4 n4 => ⟨by show 4 ≤ sizeLine; decide, fun ps nps => ?_⟩⟩
    have y4 := Evl.Ex.new (o := .tup [V.ref ha, .ref l1]) n4
    have x4 : PrAt K (upd H11 p4 (.tup [V.ref ha, .ref l1])) p4 := ⟨ha, l1, _, upd_same, rha.ex y4, (q1.ex (E10.trans e11)).ex y4, m8⟩
    have y5 := Evl.Ex.new (o := .lst [V.ref p1, .ref p2, .ref p3, .ref p4]) nps
    have e45 := e11.trans (y4.trans y5)
    have X1 := x12.1.ex e45
    have X2 := x12.2.ex e45
    have X3 := x3.ex e45
    have X4 := x4.ex y5
    have E12 := E10.trans e45
    have hps := upd_same (H := upd H11 p4 (.tup [V.ref ha, .ref l1])) (a := ps) (o := .lst [V.ref p1, .ref p2, .ref p3, .ref p4])
    have rfa12 := rfa10.ex e45
    show gName 7 (V.ref ps) _ (upd (upd H11 p4 (.tup [V.ref ha, .ref l1])) ps (.lst [V.ref p1, .ref p2, .ref p3, .ref p4])) _
    generalize upd (upd H11 p4 (.tup [V.ref ha, .ref l1])) ps (.lst [V.ref p1, .ref p2, .ref p3, .ref p4]) = H12 at X1 X2 X3 X4 E12 hps rfa12 ⊢
    have XX : ∀ v ∈ [V.ref p1, .ref p2, .ref p3, .ref p4], ∃ p, v = .ref p ∧ PrAt K H12 p := List.forall_mem_cons.mpr ⟨⟨_, rfl, X1⟩, List.forall_mem_cons.mpr ⟨⟨_, rfl, X2⟩, List.forall_mem_cons.mpr ⟨⟨_, rfl, X3⟩, List.forall_mem_cons.mpr ⟨⟨_, rfl, X4⟩, fun _ z => nomatch z⟩⟩⟩⟩
    clear y5 y4 e45 x4 x3 x12 y3 y2 y1 X1 X2 X3 X4 nps n4 n3 n2 n1
    refine seq_var (t := false) rfl (Sv.lst hps) fun J wk => ?_
    refine for_it wk (fun i σ H' => ∃ v8 v9 : Option V, σ = [some (.ref bx), some (.ref a), some (.ref l), some (.ref us), some (.ref D), some (.ref fa), some (.ref oa), some (.ref ps), v8, v9, none] ∧ Evl.Ex H12 H') ⟨_, _, rfl, Evl.Ex.refl _⟩ (fun i σ H' _ h => by obtain ⟨_, _, _, e⟩ := h; exact Sv.lst (e _ _ hps)) ?_ ?_
    · rintro i x σ G G' hi ⟨v8, v9, rfl, eG⟩ ⟨rfl, hx⟩
      obtain ⟨p, rfl, hp⟩ := XX x (List.mem_of_getElem? hx)
      obtain ⟨b, m, r', hp, rb, rm, g'⟩ := hp.ex eG
      refine ⟨p, _, rfl, SqT.of hp, rfl, _, _, rfl, _, _, rfl, rfl, ?_⟩
      refine rp_ne (row_z rm g') (fun Q' k => told_T rfl rb g' k) (fun H1 e1 Q' k => row_T rfl (rm.ex e1) g' k) fun G1 e1 => iteF ?_
      refine ⟨_, rfl, _, rfl, m, r', rfl, rm.ex e1, g', fun c G2 e2 rc => eq_rec (rb.ex (e1.trans e2)) g' rc g' fun G3 e3 => .inr ⟨_, rfl, _, rfl, ?_⟩⟩
      rw [decide_eq_true rfl]
      exact iteF ⟨_, _, rfl, (eG.trans e1).trans (e2.trans e3)⟩
    · rintro σ G ⟨v8, v9, rfl, eG⟩
      have EG := E12.trans eG
      have raG := ra4.ex EG
      have rlG := rl3.ex (e4.trans EG)
      refine rp_eq (row_z rlG g) (fun Q' k => told_T rfl raG g k) (fun H1 e1 Q' k => row_T rfl (rlG.ex e1) g k) fun G1 e1 => ⟨_, rfl, iteT ?_⟩
      refine rp_eq (octs_z m8) (fun Q' k => ⟨_, rfl, fa, _, rfl, m8, rfa12.ex (eG.trans e1), fun p H2 e2 h2 => ?_⟩) (fun H1 e2 Q' k => rx ((EG.trans e1).trans e2) rfl ⟨l1, _, rfl, q1.ex ((EG.trans e1).trans e2), m8, fun p H2 e3 h2 => ?_⟩) fun G2 e2 => fin G2 (e4.trans ((EG.trans e1).trans e2))
      · obtain ⟨bs, dd, s, dz, _⟩ := octs_shw h2 m8
        exact k _ _ bs dd e2 s dz
      · obtain ⟨bs, dd, s, dz, _⟩ := octs_shw h2 m8
        exact k _ _ bs dd e3 s dz
end
end K12
/-! the law -/
namespace K12
open PySem PySem.Spec PyProof.Rows L2 VB BM
section
variable {P : Program} {w : World} {K : PySem.W.Frag} {mg : Str → Option Value} {base : Heap} {f : Addr} {fd : FuncData}
theorem be_oct (n : Int) (c : Nat) : Oct (be n c) := fun x hx => by
  obtain ⟨i, _, rfl⟩ := List.mem_map.mp hx
  omega
theorem most_63 {s : Int} (h0 : 0 ≤ s) (h1 : s ≤ 96) : most s ≤ 63 := by
  have k : ∀ n : Nat, n ≤ 6 → (2 : Int) ^ n - 1 ≤ 63 := by decide
  exact k _ (by omega)
theorem oct1 {a : Int} (h : 0 ≤ a ∧ a ≤ 255) : Oct [a] := fun x hx => by rw [List.mem_singleton.mp hx]; exact h
theorem oct_cons {a : Int} {xs : List Int} (h : 0 ≤ a ∧ a ≤ 255) (k : Oct xs) : Oct (a :: xs) := List.forall_mem_cons.mpr ⟨h, k⟩
theorem codes_oct {x : Str} (h : Nm x) : Oct (codes x) := fun y hy => by
  obtain ⟨c, hc, rfl⟩ := List.mem_map.mp hy
  have := h.2.2 c hc
  show 0 ≤ (c : Int) ∧ (c : Int) ≤ 255
  omega
theorem facO_oct {r : Rc} (g : Good r) : Oct (facO r) ∧ (facO r).length ≤ 19 := by
  cases r with
  | head => exact ⟨fun _ z => (nomatch z), by show 0 ≤ 19; decide⟩
  | sl => exact ⟨fun _ z => (nomatch z), by show 0 ≤ 19; decide⟩
  | node d a o n wh s c u =>
    obtain ⟨L, h1, h2, h3, h4, h5, h6, h7, h8, h9⟩ := g
    have s96 : s ≤ 96 := by split at h6 <;> omega
    have := most_63 h5 s96
    exact ⟨oct_app (be_oct _ _) (oct_cons (by omega) (oct_cons (by omega) (oct1 (by omega)))), by show (be n 2 ++ [wh, s, c]).length ≤ 19; rw [List.length_append, be_len]; show 2 + 3 ≤ 19; decide⟩
  | name d a o dr nm n u =>
    obtain ⟨L, h1, h2, hn, h4, h5, h6, h7⟩ := g
    have n8 := hn.2.1
    refine ⟨oct_app (oct_app (be_oct _ _) (be_oct _ _)) (oct_cons ⟨by omega, by omega⟩ (codes_oct hn)), ?_⟩
    show (be dr 2 ++ be n 2 ++ ((nm.cps.size : Int) :: codes nm)).length ≤ 19
    rw [List.length_append, List.length_append, be_len, be_len, List.length_cons, codes_len]
    omega
  | chunk d a o n ix os u =>
    obtain ⟨L, h1, h2, h3, h4, go, gl, h7⟩ := g
    refine ⟨oct_app (oct_app (be_oct _ _) (oct1 (by omega))) go, ?_⟩
    show (be n 2 ++ [ix] ++ os).length ≤ 19
    rw [List.length_append, List.length_append, be_len, gl]
    show 2 + 1 + 16 ≤ 19
    decide
  | keep d a o nm b u =>
    obtain ⟨L, hn, h7⟩ := g
    have n8 := hn.2.1
    refine ⟨oct_app (oct1 (by split <;> omega)) (oct_cons ⟨by omega, by omega⟩ (codes_oct hn)), ?_⟩
    show ([if b then 1 else 0] ++ ((nm.cps.size : Int) :: codes nm)).length ≤ 19
    rw [List.length_append]
    show 1 + ((codes nm).length + 1) ≤ 19
    rw [codes_len]
    omega
theorem pad_oct {c : Nat} {l : List Int} (h : Oct l) : Oct (pad c l) := oct_app h fun x hx => by
  rw [List.eq_of_mem_replicate hx]
  decide
theorem pad_len {c : Nat} {l : List Int} (h : l.length ≤ c) : (pad c l).length = c := by
  unfold pad
  rw [List.length_append, List.length_replicate]
  omega
theorem octs_30 {r : Rc} (g : Good r) : Oct (octs r) ∧ (octs r).length = 30 := by
  have tree : 2 ≤ r.ix → Oct (octs r) ∧ (octs r).length = 30 := fun h2 => by
    rw [octs_tree h2]
    have d := (dd_ok h2 g).1
    have f := facO_oct g
    have i6 : r.ix ≤ 5 := by have := ix_lt r; omega
    refine ⟨oct_app (pad_oct (oct_app (oct_app (oct_app (oct1 (by unfold kdO; omega)) (be_oct _ _)) (oct_cons ⟨?_, ?_⟩ (oct1 ⟨?_, ?_⟩))) f.1)) (be_oct _ _), ?_⟩
    · have := d.2.2.1; omega
    · have := d.2.2.2.1; omega
    · have h := d.2.2.2.2.1; have := d.2.2.1; split at h <;> omega
    · have := d.2.2.2.2.2; omega
    · rw [List.length_append, be_len, pad_len]
      rw [List.length_append, List.length_append, List.length_append, be_len]
      show 1 + 4 + 2 + _ ≤ 26
      omega
  cases r with
  | head seq tail b =>
    refine ⟨pad_oct (oct_app (oct_app (oct1 (by split <;> omega)) (be_oct _ _)) (be_oct _ _)), pad_len ?_⟩
    rw [List.length_append, List.length_append, be_len, be_len]
    show 1 + 4 + 4 ≤ 30
    decide
  | sl tail count =>
    obtain ⟨g1, g2, g3, g4⟩ := g
    refine ⟨pad_oct (oct_app (oct_app (oct1 (by omega)) (be_oct _ _)) (oct1 (by omega))), pad_len ?_⟩
    rw [List.length_append, List.length_append, be_len]
    show 1 + 4 + 1 ≤ 30
    decide
  | node => exact tree (by show 2 ≤ 2; decide)
  | name => exact tree (by show 2 ≤ 3; decide)
  | chunk => exact tree (by show 2 ≤ 4; decide)
  | keep => exact tree (by show 2 ≤ 5; decide)
theorem in_cl : ∀ i, i < 6 → inV (V.str (clE.getD i "")) [V.str "Head", V.str "Seal"] = decide (i < 2) := by decide +kernel
theorem eq_same {a b : Addr} {xs : List Int} {H : Hp} {Q : VK} (ha : H a = some (.lst (IV xs))) (hb : H b = some (.lst (IV xs))) (q : Q (.bl true) H) : rEqU K (.ref a) (.ref b) H Q := by
  refine .inr ⟨.list (xs.map .int), .list (xs.map .int), .lst (SqL.of ha) (dp_ints _), .lst (SqL.of hb) (dp_ints _), lst_shaped _, lst_shaped _, ?_⟩
  rw [PyData.eqv, ev_ints, decide_eq_true rfl]
  exact q
theorem at_map {as : List Addr} {j : Nat} {a : Addr} (h : as[j]? = some a) : atI (as.map V.ref) (j : Int) = some (.ref a) := atI_nat (by rw [List.getElem?_map, h]; rfl)
theorem recs_of {H : Hp} {as ls : List Addr} {cs : List Rc} (ra : RecsA K H as cs) (rl : RowsA H ls cs) {i : Nat} (hi : i < cs.length) : ∃ a l r, as[i]? = some a ∧ ls[i]? = some l ∧ RecAt K H a r ∧ RowAt H l r ∧ Good r := by
  have la := paired_len ra
  have ll := paired_len rl
  have ha : as[i]? = some as[i] := List.getElem?_eq_getElem (by omega)
  have hl : ls[i]? = some ls[i] := List.getElem?_eq_getElem (by omega)
  obtain ⟨r, hr, h3⟩ := paired_at ra ha
  obtain ⟨r', hr', h4, h5⟩ := paired_at rl hl
  rw [hr] at hr'
  cases hr'
  exact ⟨_, _, r, ha, hl, h3, h4, h5⟩
/-- the rows and the records of them -/
structure Two (K : PySem.W.Frag) (H : Hp) (rs ts : Addr) (ls as : List Addr) (cs : List Rc) : Prop where
  hr : H rs = some (.lst (ls.map V.ref))
  ht : H ts = some (.lst (as.map V.ref))
  rr : RowsA H ls cs
  aa : RecsA K H as cs
  ll : ls.length = 4
theorem Two.xb {H H' : Hp} {bx rs ts : Addr} {c : Int} {ls as : List Addr} {cs : List Rc} (t : Two K H rs ts ls as cs) (B : Box H bx c) (e : Exb bx H H') : Two K H' rs ts ls as cs := by
  have nb : ∀ (a : Addr) (xs : List Addr), H a = some (.lst (xs.map V.ref)) → a ≠ bx := fun a xs h z => by
    obtain ⟨_, _, _, _, hb, _⟩ := id B
    rw [z, hb] at h
    have := HO.lst.inj (Option.some.inj h)
    cases xs with
    | nil => cases this
    | cons x xs => cases this
  exact ⟨e _ _ (nb _ _ t.hr) t.hr, e _ _ (nb _ _ t.ht) t.ht, t.rr.xb B e, t.aa.xb B e, t.ll⟩
theorem Two.at {H : Hp} {rs ts : Addr} {ls as : List Addr} {cs : List Rc} (t : Two K H rs ts ls as cs) {j : Nat} (hj : j < 4) : ∃ l a r, ls[j]? = some l ∧ as[j]? = some a ∧ RowAt H l r ∧ RecAt K H a r ∧ Good r := by
  have c4 : cs.length = 4 := by rw [← paired_len t.rr, t.ll]
  obtain ⟨a, l, r, h1, h2, h4, h5, h6⟩ := recs_of t.aa t.rr (i := j) (by omega)
  exact ⟨l, a, r, h2, h1, h5, h4, h6⟩
abbrev lrB3 (K : PySem.W.Frag) : TS := (tSeq
                    (tIfS
                      (tOr
                        (tTest
                          (tOp (rNeU K) (tVar 5)
                            (tCB (rListU K)
                              (tCons (tCall spLOct [] E0 (tCons (tOp (rIx K) (tVar 2) (tVar 7)) tNil)) tNil))))
                        (tNot (VB.tTru K (tCall spRdR [] E0 (tCons (tVar 0) (tCons (tVar 5) tNil))))))
                      (tRet (tC (V.bl false))) tNext)
                    (tFor (iRng1 (tCons (tC (V.int 7)) tNil)) (gName 6)
                      (tIfS
                        (tNot
                          (VB.tTru K
                            (tCall spRdR [] E0
                              (tCons (tVar 0)
                                (tCons (tCall spSpoilt [] E0 (tCons (tVar 0) (tCons (tVar 5) tNil))) tNil)))))
                        (tRet (tC (V.bl false))) tNext)))
abbrev lrB2 (K : PySem.W.Frag) : TS := (tSeq
                  (tAsg
                    (tCB (rListU K) (tCons (tCall (spWr K) [] E0 (tCons (tOp (rIx K) (tVar 3) (tVar 7)) tNil)) tNil))
                    (gName 5))
 (lrB3 K))
abbrev lrB (K : PySem.W.Frag) : TS := (tSeq
                    (tIfS
                      (tAnd
                        (tTest
                          (tOp (rIn K true) (tOp (rIx K) (tOp (rIx K) (tVar 2) (tVar 7)) (tC (V.int 0)))
                            (tLst
                              (tCons (tC (V.str ("Head" : Str)))
                                (tCons (tC (V.str ("Seal" : Str))) tNil)))))
                        (tNot
                          (VB.tTru K
                            (tCall (spMvR K) [] E0
                              (tCons (tVar 0)
                                (tCons (tOp (rIx K) (tVar 3) (tVar 7))
                                  (tCons (tOp (rIx K) (tVar 2) (tVar 7)) tNil)))))))
                      (tRet (tC (V.bl false))) tNext)
                (lrB2 K))
abbrev lrT (K : PySem.W.Frag) : TS := (tSeq
            (tFor (iSeq K (tVar 4)) (gName 7) (lrB K))
            (tRet
              (tOp (rEqU K)
                (tLc (iRng1 (tCons (tC (V.int 4)) tNil)) (gName 7)
                  (tTest
                    (tOp (rNeU K)
                      (tCB rReprS (tCons (tCall (spTold K) [] E0 (tCons (tOp (rIx K) (tVar 3) (tVar 7)) tNil)) tNil))
                      (tCB rReprS (tCons (tOp (rIx K) (tVar 2) (tVar 7)) tNil))))
                  (tVar 7) (List.map (fun x : Str × Nat => x.snd) [(("_law_k" : Str), 7)]))
                (tLst tNil))))
theorem lr_b {D : Ends} {bx rs ts od : Addr} {b0 : Int} {n : Int} {j : Nat} {ls as : List Addr} {cs : List Rc} {H : Hp} {v5 v6 : Option V} (TW : Two K H rs ts ls as cs) (B : Box H bx n) (hn : n < 20000000) (hj : j < 4) (q : ∀ (w5 w6 : Option V) H', Exb bx H H' → Box H' bx (n + 714) → D.nx [some (.ref bx), some (.int b0), some (.ref rs), some (.ref ts), some (.ref od), w5, w6, some (.int (j : Int)), none] H') :
    lrB K D [some (.ref bx), some (.int b0), some (.ref rs), some (.ref ts), some (.ref od), v5, v6, some (.int (j : Int)), none] H := by
  obtain ⟨l, a, r, hl, ha, rl, ra, g⟩ := TW.at hj
  obtain ⟨t, hrow, ho⟩ := id rl
  have h0 : atI (rowV t r) 0 = some (.str (clE.getD r.ix "")) := by cases r <;> rfl
  obtain ⟨o30, ol⟩ := octs_30 g
  obtain ⟨c30, eI⟩ := o30_of o30 ol
  have rest : ∀ H1, Exb bx H H1 → Box H1 bx (n + 6) → lrB2 K D [some (.ref bx), some (.int b0), some (.ref rs), some (.ref ts), some (.ref od), v5, v6, some (.int (j : Int)), none] H1 := fun H1 e1 B1 => by
    have T1 := TW.xb B e1
    have ra1 := ra.xb B e1
    have rl1 := rl.xb B e1
    refine ⟨_, rfl, _, rfl, Sv.ix (x := .non) (Sv.lst T1.ht) (at_map ha) ⟨a, r, rfl, g, ra1, fun p H2 e2 h2 => ⟨p, _, rfl, .inr (SqT.of h2), fun o5 n5 => ?_⟩⟩⟩
    have y := Evl.Ex.new (o := .lst (IV (octs r))) n5
    have h5 := upd_same (H := H2) (a := o5) (o := .lst (IV (octs r)))
    have ob5 := (B1.ex e2).at n5
    have E3 := e2.trans y
    show lrB3 K D [some (.ref bx), some (.int b0), some (.ref rs), some (.ref ts), some (.ref od), some (.ref o5), v6, some (.int (j : Int)), none] (upd H2 o5 (.lst (IV (octs r))))
    generalize upd H2 o5 (.lst (IV (octs r))) = H3 at y h5 E3 ⊢
    have T3 := T1.xb B1 (Exb.of E3)
    have rl3 := rl1.ex E3
    have B3 := B1.ex E3
    refine ⟨_, rfl, _, rfl, _, rfl, Sv.ix (x := .non) (Sv.lst T3.hr) (at_map hl) ⟨l, r, rfl, rl3, g, fun p4 H4 e4 h4 => ⟨p4, _, rfl, .inr (SqT.of h4), fun c nc => ne_same ((e4.trans (Evl.Ex.new nc)) _ _ h5) upd_same ⟨_, rfl, iteF ?_⟩⟩⟩⟩
    have y5 := Evl.Ex.new (o := .lst (IV (octs r))) nc
    have E5 := e4.trans y5
    generalize upd H4 c (.lst (IV (octs r))) = H5 at y5 E5 ⊢
    have h55 := E5 _ _ h5
    rw [eI] at h55
    refine ⟨_, rfl, _, rfl, bx, o5, _, _, rfl, h55, ob5, c30, B3.ex E5, by omega, fun H6 e6 B6 => ⟨true, rfl, iteF ?_⟩⟩
    have h66 := e6 _ _ ob5 h55
    have EE := ((e1.trans (Exb.of E3)).trans (Exb.of E5)).trans e6
    refine ⟨(7 : Int), rfl, by decide, by decide, for_range (lo := 0) (n := 7) (fun i σ H' => i ≤ 7 ∧ Exb bx H6 H' ∧ Box H' bx (n + 7 + 101 * (i : Int)) ∧ ∃ w6 : Option V, σ = [some (.ref bx), some (.int b0), some (.ref rs), some (.ref ts), some (.ref od), some (.ref o5), w6, some (.int (j : Int)), none]) ⟨by omega, fun _ _ _ h => h, B6.to _, _, rfl⟩ ?_ ?_⟩
    · rintro i σ G hi ⟨_, eG, BG, w6, rfl⟩
      refine ⟨_, rfl, _, rfl, _, rfl, bx, o5, _, _, rfl, eG _ _ ob5 h66, ob5, c30, BG, by omega, fun l' ds G1 e7 B7 h7 lb7 o7 => ⟨bx, l', _, ds, rfl, h7, lb7, o7, B7, by omega, fun G2 e8 B8 => ⟨true, rfl, iteF ?_⟩⟩⟩
      exact ⟨by omega, eG.trans (e7.trans e8), B8.to _, _, rfl⟩
    · rintro σ G ⟨_, eG, BG, w6, rfl⟩
      exact q _ _ G (EE.trans eG) (BG.to _ (by show n + 7 + 101 * ((7 : Nat) : Int) ≤ n + 714; omega))
  refine ⟨_, rfl, _, rfl, Sv.ix (x := .non) (Sv.lst TW.hr) (at_map hl) (Sv.ix (x := .non) (Sv.lst hrow) h0 ⟨by show 2 ≤ sizeLine; decide, fun p np => ?_⟩)⟩
  refine ⟨p, _, rfl, .inl (SqL.of upd_same), rfl, rfl, _, rfl, ?_⟩
  have y := Evl.Ex.new (o := .lst [V.str "Head", .str "Seal"]) np
  have T1 := TW.xb B (Exb.of y)
  have ra1 := ra.ex y
  have rl1 := rl.ex y
  have B1 := B.ex y
  have e1 : Exb bx H (upd H p (.lst [V.str "Head", .str "Seal"])) := Exb.of y
  show if (!inV (V.str (clE.getD r.ix "")) [V.str "Head", V.str "Seal"]) = true then _ else _
  rw [in_cl r.ix (ix_lt r)]
  by_cases h2 : 2 ≤ r.ix
  · rw [decide_eq_false (show ¬ r.ix < 2 by omega)]
    refine iteT ⟨_, rfl, _, rfl, _, rfl, Sv.ix (x := .non) (Sv.lst T1.ht) (at_map ha) ⟨_, rfl, _, rfl, Sv.ix (x := .non) (Sv.lst T1.hr) (at_map hl) ⟨bx, a, l, n, r, rfl, h2, ra1, rl1, g, B1, by omega, fun H' e' B' => ⟨true, rfl, iteF (rest H' (e1.trans e') B')⟩⟩⟩⟩
  · rw [decide_eq_true (show r.ix < 2 by omega)]
    exact iteF (iteF (rest _ e1 (B1.to _)))
theorem lr_t {D : Ends} {Q : VK} {bx rs ts od : Addr} {b0 : Int} {n : Int} {os : List Int} {ls as : List Addr} {cs : List Rc} {H : Hp} (eD : D.rt = Q) (TW : Two K H rs ts ls as cs) (B : Box H bx n) (hn : n < 10000000) (ob : od ≠ bx) (hod : H od = some (.lst (IV os))) (hos : ∀ x ∈ os, 0 ≤ x ∧ x < 4) (lo : os.length = 4) (q : ∀ H', Exb bx H H' → Q (.bl true) H') :
    lrT K D [some (.ref bx), some (.int b0), some (.ref rs), some (.ref ts), some (.ref od), none, none, none, none] H := by
  subst eD
  refine seq_var (t := false) rfl (Sv.lst hod) fun J wk => ?_
  rw [iv_len, lo] at wk
  refine for_it wk (fun i σ H' => i ≤ 4 ∧ ∃ v5 v6 v7 : Option V, σ = [some (.ref bx), some (.int b0), some (.ref rs), some (.ref ts), some (.ref od), v5, v6, v7, none] ∧ Exb bx H H' ∧ Box H' bx (n + 714 * (i : Int))) ⟨by omega, _, _, _, rfl, fun _ _ _ h => h, B.to _⟩ (fun i σ H' _ h => by obtain ⟨_, _, _, _, _, e, _⟩ := h; exact Sv.lst (e _ _ ob hod)) ?_ ?_
  · rintro i x σ G G' hi ⟨_, v5, v6, v7, rfl, eG, BG⟩ ⟨rfl, hx⟩
    obtain ⟨k, hk', rfl⟩ := iv_get hx
    obtain ⟨k0, k4⟩ := hos k (List.mem_of_getElem? hk')
    obtain ⟨j, rfl⟩ : ∃ j : Nat, k = (j : Int) := ⟨k.toNat, by omega⟩
    refine lr_b (TW.xb B eG) BG (by omega) (by omega) fun w5 w6 H' e B' => ⟨by omega, w5, w6, _, rfl, eG.trans e, B'.to _⟩
  · rintro σ G ⟨_, v5, v6, v7, rfl, eG, BG⟩
    have TG := TW.xb B eG
    have BG' := BG
    refine ⟨(4 : Int), rfl, by decide, by decide, fun L hL => ?_⟩
    refine lc_range (lo := 0) (n := 4) (fun i H' => i ≤ 4 ∧ Evl.Ex G H' ∧ H' L = some (.lst (IV []))) ⟨by omega, Evl.Ex.new hL, upd_same⟩ ?_ ?_
    · rintro i G1 hi ⟨_, e1, h1⟩
      have T1 := TG.xb BG (Exb.of e1)
      obtain ⟨l, a, r, hl, ha, rl, ra, g⟩ := T1.at hi
      have ez : (0 : Int) + (i : Int) = (i : Int) := Int.zero_add _
      rw [ez]
      refine ⟨rfl, rp_ne (row_z rl g) ?_ ?_ ?_⟩
      · intro Q' k
        refine ⟨_, rfl, _, rfl, Sv.ix (x := .non) (Sv.lst T1.ht) (at_map ha) ⟨a, r, rfl, ra, fun l2 H2 e2 rl2 => ?_⟩⟩
        obtain ⟨bs, dd, s, dz, _⟩ := row_shw rl2 g
        exact k _ _ bs dd e2 s dz
      · intro H2 e2 Q' k
        refine ⟨_, rfl, _, rfl, Sv.ix (x := .non) (Sv.lst (e2 _ _ T1.hr)) (at_map hl) ?_⟩
        obtain ⟨bs, dd, s, dz, _⟩ := row_shw (rl.ex e2) g
        exact k _ _ bs dd (Evl.Ex.refl _) s dz
      · exact fun H' e' => iteF ⟨by omega, e1.trans e', e' _ _ h1⟩
    · rintro G1 ⟨_, e1, h1⟩
      refine ⟨by show 0 ≤ sizeLine; decide, fun m nm => eq_same (xs := []) ((Evl.Ex.new nm) _ _ h1) upd_same (q _ (eG.trans (Exb.of (e1.trans (Evl.Ex.new nm)))))⟩
def spRight : Sp := fun vs H Q _ => ∃ bx : Addr, vs = [.ref bx] ∧ Box H bx 0 ∧ ∀ H', Exb bx H H' → Q (.bl true) H'
theorem ok_right (T : Txt K mg) (hd : base.NoDigits) (F : FnP K "_law_right" s__law_right f fd) (C__law_take : Cal P w K mg base CX0 1 "_law_take" ["_law_box_here", "_law_many"] spTake) (C__law_drawn : Cal P w K mg base CX0 4 "_law_drawn" ["_law_box_here", "_law_kind"] spDrw) (C__law_made : Cal P w K mg base CX0 9 "_law_made" ["_law_row"] (spMade K))
    (C__law_moved_right : Cal P w K mg base CX0 11 "_law_moved_right" ["_law_box_here", "_law_thing", "_law_row"] (spMvR K)) (C_written : Cal P w K mg base CX0 3 "written" ["record"] (spWr K)) (C__law_octets : Cal P w K mg base CX0 2 "_law_octets" ["_law_row"] spLOct) (C__law_read_right : Cal P w K mg base CX0 13 "_law_read_right" ["_law_box_here", "_law_octets_here"] spRdR)
    (C__law_spoilt : Cal P w K mg base CX0 3 "_law_spoilt" ["_law_box_here", "_law_octets_here"] spSpoilt) (C__law_told : Cal P w K mg base CX0 1 "_law_told" ["_law_thing"] (spTold K)) :
    Fg P w K mg base CX0 14 f fd ["_law_box_here"] spRight := by
  refine fg_of F sc__law_right (fun vs H Q E h => ?_) (fun cdv A outer s H vs Q E hr h => ⟨_, (PSs.nox (pss_cons (ps_set (i := 1) sc__law_right.nd rfl (by first | exact Or.inl rfl | exact Or.inr rfl) (pe_cal C__law_take hr.le pass0 (pa_cons (pv 0) (pa_cons pe_int pa_nil))))
  (pss_cons (ps_set (i := 2) sc__law_right.nd rfl (by first | exact Or.inl rfl | exact Or.inr rfl) (pe_lc (own := [("_law_k", 7)]) rfl sc__law_right.nd (pi_seq (K := K) (pe_lst (pa_cons pe_int (pa_cons pe_int (pa_cons pe_int (pa_cons pe_int pa_nil)))))) (blkOk_by (own := [("_law_k", 7)]) (N := ["_law_box_here", "_law_base", "_law_rows", "_law_things", "_law_order", "_law_octets_here", "_law_turn", "_law_k", "_law_row"]) (sc := defScope s__law_right) (by decide +kernel)) (fun _ _ _ _ _ => (pg_name (i := 7) sc__law_right.nd rfl (by first | exact Or.inl rfl | exact Or.inr rfl))) (fun _ _ _ _ _ => pts_nil) (fun _ _ _ _ _ => (pe_cal C__law_drawn hr.le pass0 (pa_cons (pv 0) (pa_cons (pe_op u_mod (pe_callTy call_int1 (by rfl) T.f_int (by decide +kernel) (pa_cons (pe_op (u_add (K := K)) (pv 1) (pv 7)) pa_nil)) pe_int) pa_nil))))))
  (pss_cons (ps_set (i := 3) sc__law_right.nd rfl (by first | exact Or.inl rfl | exact Or.inr rfl) (pe_lc (own := [("_law_row", 8)]) rfl sc__law_right.nd (pi_seq (K := K) (pv 2)) (blkOk_by (own := [("_law_row", 8)]) (N := ["_law_box_here", "_law_base", "_law_rows", "_law_things", "_law_order", "_law_octets_here", "_law_turn", "_law_k", "_law_row"]) (sc := defScope s__law_right) (by decide +kernel)) (fun _ _ _ _ _ => (pg_name (i := 8) sc__law_right.nd rfl (by first | exact Or.inl rfl | exact Or.inr rfl))) (fun _ _ _ _ _ => pts_nil) (fun _ _ _ _ _ => (pe_cal C__law_made hr.le pass0 (pa_cons (pv 8) pa_nil)))))
  (pss_cons (ps_set (i := 4) sc__law_right.nd rfl (by first | exact Or.inl rfl | exact Or.inr rfl) (pe_ifExp (pt_cmpR (u_eq (K := K) hr) (pe_cal C__law_take hr.le pass0 (pa_cons (pv 0) (pa_cons pe_int pa_nil))) pe_int (nomark _)) (pe_lst (pa_cons pe_int (pa_cons pe_int (pa_cons pe_int (pa_cons pe_int pa_nil))))) (pe_lst (pa_cons pe_int (pa_cons pe_int (pa_cons pe_int (pa_cons pe_int pa_nil)))))))
  (pss_cons (ps_for PassesOwn.never rfl (pi_seq (K := K) (pv 4)) (pg_name (i := 7) sc__law_right.nd rfl (by first | exact Or.inl rfl | exact Or.inr rfl))
  (pss_cons (ps_if (PW.pt (pw_and (pt_cmpR (u_notin (K := K)) (pe_ix (u_ix (K := K)) (pe_ix (u_ix (K := K)) (pv 2) (pv 7) (fun _ _ => rfl)) pe_int (fun _ _ => rfl)) (pe_lst (pa_cons pe_str (pa_cons pe_str pa_nil))) (by rfl)) (pw_and1 (pt_not (pt_tru (K := K) (pe_cal C__law_moved_right hr.le pass0 (pa_cons (pv 0) (pa_cons (pe_ix (u_ix (K := K)) (pv 3) (pv 7) (fun _ _ => rfl)) (pa_cons (pe_ix (u_ix (K := K)) (pv 2) (pv 7) (fun _ _ => rfl)) pa_nil)))) (by intro _; rfl))))))
  (pss_one (ps_ret pe_bl)) pss_nil)
  (pss_cons (ps_set (i := 5) sc__law_right.nd rfl (by first | exact Or.inl rfl | exact Or.inr rfl) (pe_callTy (u_list (K := K)) (by rfl) T.f_list (by decide +kernel) (pa_cons (pe_cal C_written hr.le pass0 (pa_cons (pe_ix (u_ix (K := K)) (pv 3) (pv 7) (fun _ _ => rfl)) pa_nil)) pa_nil)))
  (pss_cons (ps_if (PW.pt (pw_or (pt_cmpR (u_ne (K := K) hr) (pv 5) (pe_callTy (u_list (K := K)) (by rfl) T.f_list (by decide +kernel) (pa_cons (pe_cal C__law_octets hr.le pass0 (pa_cons (pe_ix (u_ix (K := K)) (pv 2) (pv 7) (fun _ _ => rfl)) pa_nil)) pa_nil)) (nomark _)) (pw_or1 (pt_not (pt_tru (K := K) (pe_cal C__law_read_right hr.le pass0 (pa_cons (pv 0) (pa_cons (pv 5) pa_nil))) (by intro _; rfl))))))
  (pss_one (ps_ret pe_bl)) pss_nil)
  (pss_one (ps_for PassesOwn.never rfl (pi_range1 rfl T.f_range (pa_cons pe_int pa_nil)) (pg_name (i := 6) sc__law_right.nd rfl (by first | exact Or.inl rfl | exact Or.inr rfl))
  (pss_one (ps_if (pt_not (pt_tru (K := K) (pe_cal C__law_read_right hr.le pass0 (pa_cons (pv 0) (pa_cons (pe_cal C__law_spoilt hr.le pass0 (pa_cons (pv 0) (pa_cons (pv 5) pa_nil))) pa_nil))) (by intro _; rfl)))
  (pss_one (ps_ret pe_bl)) pss_nil))))))))
  (pss_one (ps_ret (pe_cmpR (u_eq (K := K) hr) (pe_lc (own := [("_law_k", 7)]) rfl sc__law_right.nd (pi_range1 rfl T.f_range (pa_cons pe_int pa_nil)) (blkOk_by (own := [("_law_k", 7)]) (N := ["_law_box_here", "_law_base", "_law_rows", "_law_things", "_law_order", "_law_octets_here", "_law_turn", "_law_k", "_law_row"]) (sc := defScope s__law_right) (by decide +kernel)) (fun _ _ _ _ _ => (pg_name (i := 7) sc__law_right.nd rfl (by first | exact Or.inl rfl | exact Or.inr rfl))) (fun _ _ _ _ _ => (pts_one (pt_cmpR (u_ne (K := K) hr) (pe_callB (call_reprS hr hd) (by rfl) T.f_repr (by decide +kernel) (pa_cons (pe_cal C__law_told hr.le pass0 (pa_cons (pe_ix (u_ix (K := K)) (pv 3) (pv 7) (fun _ _ => rfl)) pa_nil)) pa_nil)) (pe_callB (call_reprS hr hd) (by rfl) T.f_repr (by decide +kernel) (pa_cons (pe_ix (u_ix (K := K)) (pv 2) (pv 7) (fun _ _ => rfl)) pa_nil)) (nomark _)))) (fun _ _ _ _ _ => (pv 7))) (pe_lst pa_nil) (nomark _)))))))))), ?_⟩)
  · obtain ⟨bx, rfl, _⟩ := h
    rfl
  · obtain ⟨bx, rfl, B, q⟩ := h
    refine ⟨_, rfl, bx, 6, 0, rfl, B, by decide, by decide, by decide, fun b0 H1 _ _ e1 B1 => ?_⟩
    refine .inl ⟨by show 4 ≤ sizeLine; decide, fun kp nk => ⟨kp, rfl, ⟨_, SqL.of upd_same⟩, ?_⟩⟩
    have yk := Evl.Ex.new (o := .lst [V.int 0, .int 1, .int 3, .int 5]) nk
    have hk : (upd H1 kp (.lst [V.int 0, .int 1, .int 3, .int 5])) kp = some (.lst (IV [0, 1, 3, 5])) := upd_same
    have kbx := B1.at nk
    have B3 : Box (upd H1 kp (.lst [V.int 0, .int 1, .int 3, .int 5])) bx 1 := (B1.ex yk).to 1
    have e3 : Exb bx H (upd H1 kp (.lst [V.int 0, .int 1, .int 3, .int 5])) := e1.trans (Exb.of yk)
    intro D hD
    generalize upd H1 kp (.lst [V.int 0, .int 1, .int 3, .int 5]) = H3 at hk B3 e3 hD ⊢
    have Db := B3.at hD
    refine lc_it walk_list (fun i H' => i ≤ 4 ∧ ∃ (ls : List Addr) (cs : List Rc), ls.length = i ∧ Exb bx H3 H' ∧ Box H' bx (1 + 60 * (i : Int)) ∧ H' D = some (.lst (ls.map V.ref)) ∧ RowsA H' ls cs) ⟨by omega, [], [], rfl, Exb.new hD, by rw [show (1 : Int) + 60 * ((0 : Nat) : Int) = 1 by omega]; exact B3.ex (Evl.Ex.new hD), upd_same, .nil⟩ (fun i H' _ h => by obtain ⟨_, ls, cs, _, e, _⟩ := h; exact SqL.of (e _ _ kbx hk)) ?_ ?_
    · rintro i x G G' hi ⟨_, ls, cs, ll, eG, BG, hG, RG⟩ ⟨rfl, hx⟩
      refine ⟨rfl, ?_⟩
      obtain ⟨k, hk', rfl⟩ := iv_get hx
      have nz : (0 : Int) < 6 := by decide
      refine ⟨_, rfl, _, rfl, _, rfl, .inl ⟨_, _, rfl, rfl, .inl ⟨_, rfl, _, _, rfl, rfl, nz, bx, _, (b0 + k) % 6, rfl, Int.emod_nonneg _ (by decide), by have := Int.emod_lt_of_pos (b0 + k) nz; omega, BG, by have : i < 4 := hi; omega, fun l r G1 ex hg hR e1 B1 => ?_⟩⟩⟩
      have hG1 := e1 _ _ Db hG
      refine ⟨_, hG1, by rw [List.length_map, ll]; exact Evl.sz_lt (by have : i < 4 := hi; omega), hi, ls ++ [l], cs ++ [r], by rw [List.length_append, ll]; rfl, exb_mut (eG.trans e1) hD, ?_, by rw [upd_same, List.map_append]; rfl, pr_app ((RG.xb BG e1).mu hG1) (.cons ⟨hR.mu hG1, hg⟩ .nil)⟩
      rw [show (1 : Int) + 60 * ((i + 1 : Nat) : Int) = 1 + 60 * (i : Int) + 60 by omega]
      exact box_mut B1 Db
    rintro H4 ⟨_, ls, cs, ll, e4, B4, h4, R4⟩
    have ll : ls.length = 4 := ll
    have B4 : Box H4 bx 241 := B4.to 241 (by show (1 : Int) + 60 * 4 ≤ 241; decide)
    have E4 := e3.trans e4
    have lc := paired_len R4
    -- the records
    refine seq_var (t := false) rfl (Sv.lst h4) fun J2 wk2 D2 hD2 => ?_
    have hl4 : (ls.map V.ref).length = 4 := by rw [List.length_map, ll]
    rw [hl4] at wk2
    have Db2 := B4.at hD2
    refine lc_it wk2 (fun i H' => i ≤ 4 ∧ ∃ as : List Addr, as.length = i ∧ Evl.Ex H4 H' ∧ H' D2 = some (.lst (as.map V.ref)) ∧ RecsA K H' as (cs.take i)) ⟨by omega, [], rfl, Evl.Ex.new hD2, upd_same, .nil⟩ (fun i H' _ h => by obtain ⟨_, ms, _, e, _⟩ := h; exact Sv.lst (e _ _ h4)) ?_ ?_
    · rintro i x G G' hi ⟨_, as, la, eG, hG, RG⟩ ⟨rfl, hx⟩
      refine ⟨rfl, ?_⟩
      obtain ⟨l, hl, rfl⟩ := map_at hx
      obtain ⟨r, hr', hR, hg⟩ := paired_at R4 hl
      refine ⟨_, rfl, l, r, rfl, hR.ex eG, hg, fun a G1 e1 ra => ?_⟩
      have hG1 := e1 _ _ hG
      refine ⟨_, hG1, by rw [List.length_map, la]; exact Evl.sz_lt (by have : i < 4 := hi; omega), hi, as ++ [a], by rw [List.length_append, la]; rfl, Evl.Ex.mut (eG.trans e1) hD2, by rw [upd_same, List.map_append]; rfl, ?_⟩
      rw [List.take_succ, hr']
      exact pr_app (RecsA.mu (pr_mono (fun _ _ h => h.ex e1) RG) hG1) (.cons (ra.mu hG1) .nil)
    rintro H5 ⟨_, as, la, e5, h5, R5⟩
    have e44 : cs.take 4 = cs := List.take_of_length_le (by omega)
    rw [e44] at R5
    have TW : Two K H5 D D2 ls as cs := ⟨e5 _ _ h4, h5, R4.ex e5, R5, ll⟩
    have B5 := B4.ex e5
    have E5 := E4.trans (Exb.of e5)
    refine ⟨_, rfl, bx, 2, _, rfl, B5, by decide, by decide, by decide, fun z H6 _ _ e6 B6 => .inl ⟨rfl, _, rfl, ?_⟩⟩
    have TW6 := TW.xb B5 e6
    have E6 := E5.trans e6
    have rest : ∀ (od : Addr) (os : List Int) (H7 : Hp), Evl.Ex H6 H7 → od ≠ bx → H7 od = some (.lst (IV os)) → (∀ x ∈ os, 0 ≤ x ∧ x < 4) → os.length = 4 → lrT K { nx := fun x H' => Q V.non H', rt := Q } [some (.ref bx), some (.int b0), some (.ref D), some (.ref D2), some (.ref od), none, none, none, none] H7 := by
      intro od os H7 e7 ob hod hos lo
      exact lr_t (n := 242) rfl (TW6.xb B6 (Exb.of e7)) (B6.ex e7) (by decide) ob hod hos lo fun H' e => q H' ((E6.trans (Exb.of e7)).trans e)
    refine ite2 (fun _ => ?_) (fun _ => ?_)
    · exact ⟨by show 4 ≤ sizeLine; decide, fun od nod => rest od [0, 1, 2, 3] _ (Evl.Ex.new nod) (B6.at nod) upd_same (by decide) rfl⟩
    · exact ⟨by show 4 ≤ sizeLine; decide, fun od nod => rest od [2, 0, 3, 1] _ (Evl.Ex.new nod) (B6.at nod) upd_same (by decide) rfl⟩
end
end K12
/-! the whole law -/
namespace K12
open PySem PySem.Spec PyProof.Rows L2 VB BM
section
variable {P : Program} {w : World} {K : PySem.W.Frag} {mg : Str → Option Value} {base : Heap} {f : Addr} {fd : FuncData}
def spLaw (K : PySem.W.Frag) : Sp := fun vs H Q _ => ∃ (a : Addr) (ns : List Int), vs = [.ref a] ∧ SqL K H a (ns.map V.int) ∧ ns.length ≤ 63 ∧ RV (.bl true) H Q
theorem ok_law (T : Txt K mg) (F : FnP K "law" s_law f fd) (C__law_right : Cal P w K mg base CX0 14 "_law_right" ["_law_box_here"] spRight) (C__law_box : Cal P w K mg base CX0 1 "_law_box" ["_law_great"] spBox) (C__law_cell : Cal P w K mg base CX0 1 "_law_cell" ["_law_script", "_law_k"] (spCell K)) : Fg P w K mg base CX0 15 f fd ["_law_script"] (spLaw K) := by
  refine fg_of F sc_law (fun vs H Q E h => ?_) (fun cdv A outer s H vs Q E hr h => ⟨_, (PSs.nox (pss_cons (ps_for PassesOwn.never rfl (pi_range1 rfl T.f_range (pa_cons (pe_callB (call_max2 rfl) (by rfl) T.f_max (by decide +kernel) (pa_cons pe_int (pa_cons (pe_callB (call_min2 rfl) (by rfl) T.f_min (by decide +kernel) (pa_cons pe_int (pa_cons (pe_callB (u_len (K := K)) (by rfl) T.f_len (by decide +kernel) (pa_cons (pv 0) pa_nil)) pa_nil))) pa_nil))) pa_nil)) (pg_name (i := 1) sc_law.nd rfl (by first | exact Or.inl rfl | exact Or.inr rfl))
  (pss_one (ps_if (pt_not (pt_tru (K := K) (pe_cal C__law_right hr.le pass0 (pa_cons (pe_cal C__law_box hr.le pass0 (pa_cons (pe_cal C__law_cell hr.le pass0 (pa_cons (pv 0) (pa_cons (pv 1) pa_nil))) pa_nil)) pa_nil)) (by intro _; rfl)))
  (pss_one (ps_ret pe_bl)) pss_nil)))
  (pss_one (ps_ret pe_bl)))), ?_⟩)
  · obtain ⟨a, ns, rfl, _⟩ := h
    rfl
  · obtain ⟨a, ns, rfl, S, hn, q⟩ := h
    refine ⟨_, rfl, _, _, rfl, .inl ⟨_, S, rfl⟩, _, _, rfl, _, _, rfl, ?_⟩
    obtain ⟨t, ht, t2⟩ : ∃ t : Nat, (if (2 : Int) < (if ((ns.map V.int).length : Int) < 4 then ((ns.map V.int).length : Int) else 4) then (if ((ns.map V.int).length : Int) < 4 then ((ns.map V.int).length : Int) else 4) else 2) = (t : Int) ∧ t ≤ 4 := by
      refine ⟨(if (2 : Int) < (if ((ns.map V.int).length : Int) < 4 then ((ns.map V.int).length : Int) else 4) then (if ((ns.map V.int).length : Int) < 4 then ((ns.map V.int).length : Int) else 4) else 2).toNat, ?_, ?_⟩
      · split <;> split <;> omega
      · split <;> split <;> omega
    rw [ht]
    refine ⟨(t : Int), rfl, by omega, by omega, ?_⟩
    have tt : ((t : Int)).toNat = t := by omega
    rw [tt]
    refine for_range (lo := 0) (n := t) (fun i σ H' => i ≤ t ∧ Evl.Ex H H' ∧ ∃ v1 : Option V, σ = [some (.ref a), v1]) ⟨by omega, Evl.Ex.refl _, _, rfl⟩ ?_ ?_
    · rintro i σ H3 hi ⟨_, e3, v1, rfl⟩
      have ez : (0 : Int) + (i : Int) = (i : Int) := Int.zero_add _
      rw [ez]
      refine ⟨_, rfl, _, rfl, a, ns, (i : Int), rfl, Evl.ex_l e3 S, by omega, by omega, by omega, fun g H4 e4 => ⟨g, rfl, fun bx H5 n5 e5 B => ?_⟩⟩
      have E5 := (e3.trans e4).trans e5
      have nH : H bx = none := Evl.fresh_back (e3.trans e4) n5
      refine ⟨bx, rfl, B, fun H6 x6 => ⟨true, rfl, iteF ?_⟩⟩
      exact ⟨by omega, ex_b E5 nH x6, _, rfl⟩
    · rintro σ H3 ⟨_, e3, v1, rfl⟩
      exact q H3 e3
end
end K12
/-! what the end needs -/
namespace K12
open PySem PySem.Spec PyProof.Rows L2 VB BM
section
variable {P : Program} {w : World} {K : PySem.W.Frag} {mg : Str → Option Value} {base : Heap} {x qual : Str} {params : Arguments} {body : List Stmt} {scope : Scope} {f : Addr} {fd : FuncData} {ps ks : List Str} {v : V}
/-- every parameter is written, the last one has a default -/
theorem binds_full (F : FunD K x qual params body scope [v] [] f fd) (h : ∀ (T : Addr) (kV doc pm : Value) (an : Option Addr) (cdv ct : Value) (us its : List Value), us.length = ps.length → its.length = 1 →
      ∃ k, bindArgs (PySem.W.fnOf x qual params body scope (.ref T) kV doc pm an cdv ct) ⟨us, []⟩ = seqItems? (.ref T) >>= k ∧ k (some its.toArray) = pure (ps.zip (us ++ its.drop 1))) : Binds K fd ps [] := by
  obtain ⟨ds, r, b⟩ := F.binds1 (ps := ps) ps.length 1 (by simp) (by simp) h
  cases r
  exact b
theorem vals_at : ∀ {vs : List V} {us : List Value}, Vals vs us → ∀ i : Nat, (vs[i]? = none ∧ us[i]? = none) ∨ ∃ a b, vs[i]? = some a ∧ us[i]? = some b ∧ RelV a b
  | _, _, .nil, i => .inl ⟨rfl, rfl⟩
  | _, _, .cons r t, 0 => .inr ⟨_, _, rfl, rfl, r⟩
  | _, _, .cons r t, i + 1 => vals_at t i
theorem vals_fm {zs : List V} {ws : List Value} (r : Vals zs ws) : ∀ idx : List Nat, Vals (idx.filterMap fun i => zs[i]?) (idx.filterMap fun i => ws[i]?)
  | [] => .nil
  | i :: idx => by
    rcases vals_at r i with ⟨h1, h2⟩ | ⟨a, b, h1, h2, h3⟩
    · rw [List.filterMap_cons_none h1, List.filterMap_cons_none h2]
      exact vals_fm r idx
    · rw [List.filterMap_cons_some h1, List.filterMap_cons_some h2]
      exact .cons h3 (vals_fm r idx)
structure RkB (K : PySem.W.Frag) : Prop where
  ins : ∀ i, i < 6 → InsC K (Kl K i)
  kit : ∀ i j, i < 6 → j < 6 → PySem.W.kitOne K (.ref (Kl K i)) (.ref (Kl K j)) = some (decide (i = j))
  kitB : ∀ t ∈ tys, ∀ j, j < 6 → PySem.W.kitOne K t (.ref (Kl K j)) = some false
  ne : ∀ i, i < 6 → PySem.W.findIn K (.ref (Kl K i)) "__ne__" = some (some (.builtin "object.__ne__"))
  ob : ∀ i, i < 6 → PySem.W.subIn K (.ref (Kl K i)) (.type "object") = some true
  bk : ∀ i, i < 6 → ∀ t ∈ tys, PySem.W.subIn K (.ref (Kl K i)) t = some false
  nf : ∀ i, i < 6 → ∀ t ∈ tbsR K, PySem.W.notFirst K (Kl K i) t = true
theorem rkB_ok (h : rkB K = true) : RkB K := by
  have g : ∀ i, i < 6 → _ := fun i hi => List.all_eq_true.mp h i (List.mem_range.mpr hi)
  refine ⟨fun i hi => ?_, fun i j hi hj => ?_, fun t ht j hj => ?_, fun i hi => ?_, fun i hi => ?_, fun i hi t ht => ?_, fun i hi t ht => ?_⟩
  · exact insB_ok (Bool.and_eq_true_iff.mp (g i hi)).1
  · have a := (Bool.and_eq_true_iff.mp (Bool.and_eq_true_iff.mp (g i hi)).2).1
    exact of_decide_eq_true (List.all_eq_true.mp a j (List.mem_range.mpr hj))
  · have a := (Bool.and_eq_true_iff.mp (Bool.and_eq_true_iff.mp (Bool.and_eq_true_iff.mp (g j hj)).2).2).1
    exact of_decide_eq_true (List.all_eq_true.mp a t ht)
  · exact of_decide_eq_true (Bool.and_eq_true_iff.mp (Bool.and_eq_true_iff.mp (Bool.and_eq_true_iff.mp (Bool.and_eq_true_iff.mp (g i hi)).2).2).2).1
  · exact of_decide_eq_true (Bool.and_eq_true_iff.mp (Bool.and_eq_true_iff.mp (Bool.and_eq_true_iff.mp (Bool.and_eq_true_iff.mp (Bool.and_eq_true_iff.mp (g i hi)).2).2).2).2).1
  · have a := (Bool.and_eq_true_iff.mp (Bool.and_eq_true_iff.mp (Bool.and_eq_true_iff.mp (Bool.and_eq_true_iff.mp (Bool.and_eq_true_iff.mp (Bool.and_eq_true_iff.mp (g i hi)).2).2).2).2).2).1
    exact of_decide_eq_true (List.all_eq_true.mp a t ht)
  · have a := (Bool.and_eq_true_iff.mp (Bool.and_eq_true_iff.mp (Bool.and_eq_true_iff.mp (Bool.and_eq_true_iff.mp (Bool.and_eq_true_iff.mp (Bool.and_eq_true_iff.mp (g i hi)).2).2).2).2).2).2
    exact List.all_eq_true.mp a t ht
theorem six {p : Nat → Prop} (h0 : p 0) (h1 : p 1) (h2 : p 2) (h3 : p 3) (h4 : p 4) (h5 : p 5) : ∀ i, i < 6 → p i
  | 0, _ => h0
  | 1, _ => h1
  | 2, _ => h2
  | 3, _ => h3
  | 4, _ => h4
  | 5, _ => h5
  | n + 6, h => absurd h (by omega)
theorem four26 {p : Nat → Prop} (h2 : p 2) (h3 : p 3) (h4 : p 4) (h5 : p 5) : ∀ i, 2 ≤ i ∧ i < 6 → p i
  | 0, h => absurd h.1 (by omega)
  | 1, h => absurd h.1 (by omega)
  | 2, _ => h2
  | 3, _ => h3
  | 4, _ => h4
  | 5, _ => h5
  | n + 6, h => absurd h.2 (by omega)
theorem eqc_of {i : Nat} (B : RkB K) (hi : i < 6) {f : Addr} {fd : FuncData} (M : Meth K (Kl K i) "__eq__" f) (G : Fg P w K mg base CX0 4 f fd ["self", "other"] (spEqR K i)) (b : Binds K fd ["self", "other"] []) : EqC P w K mg base 4 (Kl K i) (tbsR K) (spEqR K i) :=
  ⟨⟨f, fd, G, M.at_, M.fn, b⟩, B.ne i hi, B.ob i hi, B.bk i hi, B.nf i hi⟩
theorem fkD_of {fal : List He.Fa} {fnl : List He.DefD} {ts : List He.Tab} (c : He.SaysT fal fnl ts w K) (i : Nat) (ht : ts[i]? = some fkT) (h : He.valsB K (He.ga K "FACT_KINDS") fkV = true) : FkD K w := by
  obtain ⟨es, n, k⟩ := c.tab i ht
  have go : ∀ q ∈ fkV, KDct K w (He.ga K "FACT_KINDS") q.1 (q.2.v K) := fun q hq => by
    obtain ⟨u, h1, h2⟩ := He.valsB_ok h hq
    exact ⟨es, n, u, k.at_, k.lit, h1, h2⟩
  intro i hi
  match i, hi with
  | 0, _ => exact go _ (List.mem_cons_self ..)
  | 1, _ => exact go _ (List.mem_cons_of_mem _ (List.mem_cons_self ..))
  | 2, _ => exact go _ (List.mem_cons_of_mem _ (List.mem_cons_of_mem _ (List.mem_cons_self ..)))
  | 3, _ => exact go _ (List.mem_cons_of_mem _ (List.mem_cons_of_mem _ (List.mem_cons_of_mem _ (List.mem_cons_self ..))))
end
end K12
namespace K12
open PySem PySem.Spec PyProof.Rows L2 VB
theorem sc_InvalidOctets____init__ : FnScope ["self", "given"] ["self", "given"] (defScope s_InvalidOctets____init__) := ⟨rfl, rfl, rfl, by decide +kernel, rfl, by decide +kernel, by decide +kernel⟩
theorem sc_InvalidNumber____init__ : FnScope ["self", "given"] ["self", "given"] (defScope s_InvalidNumber____init__) := ⟨rfl, rfl, rfl, by decide +kernel, rfl, by decide +kernel, by decide +kernel⟩
theorem sc_InvalidData____init__ : FnScope ["self", "given"] ["self", "given"] (defScope s_InvalidData____init__) := ⟨rfl, rfl, rfl, by decide +kernel, rfl, by decide +kernel, by decide +kernel⟩
theorem sc_InvalidRecord____init__ : FnScope ["self", "given"] ["self", "given"] (defScope s_InvalidRecord____init__) := ⟨rfl, rfl, rfl, by decide +kernel, rfl, by decide +kernel, by decide +kernel⟩
theorem sc_InvalidName____init__ : FnScope ["self", "given"] ["self", "given"] (defScope s_InvalidName____init__) := ⟨rfl, rfl, rfl, by decide +kernel, rfl, by decide +kernel, by decide +kernel⟩
end K12
namespace K12
open PySem PySem.Spec PyProof.Rows L2 VB BM
section
variable {P : Program} {w : World} {K : PySem.W.Frag} {mg : Str → Option Value} {base : Heap} {f : Addr} {fd : FuncData}
theorem ini_InvalidOctets (F : FnM K "__init__" "InvalidOctets.__init__" s_InvalidOctets____init__ f fd) : FnOk P w K mg base CX0 1 f fd ["self", "given"] (spInit K "given") := by
  refine F.ok sc_InvalidOctets____init__ (fun vs H Q E h => ?_) (fun cdv A outer s H vs Q E hr h => ⟨_, pss_one (ps_ost (pv 0) (pv 1)), ?_⟩)
  · obtain ⟨a, C, y, rfl, _⟩ := h
    rfl
  · obtain ⟨a, C, y, rfl, T, no, ea, q⟩ := h
    exact ⟨_, rfl, _, rfl, a, C, rfl, T, no, .inl ⟨ea, fun dx n ne => q dx n ne⟩⟩
theorem ini_InvalidNumber (F : FnM K "__init__" "InvalidNumber.__init__" s_InvalidNumber____init__ f fd) : FnOk P w K mg base CX0 1 f fd ["self", "given"] (spInit K "given") := by
  refine F.ok sc_InvalidNumber____init__ (fun vs H Q E h => ?_) (fun cdv A outer s H vs Q E hr h => ⟨_, pss_one (ps_ost (pv 0) (pv 1)), ?_⟩)
  · obtain ⟨a, C, y, rfl, _⟩ := h
    rfl
  · obtain ⟨a, C, y, rfl, T, no, ea, q⟩ := h
    exact ⟨_, rfl, _, rfl, a, C, rfl, T, no, .inl ⟨ea, fun dx n ne => q dx n ne⟩⟩
theorem ini_InvalidData (F : FnM K "__init__" "InvalidData.__init__" s_InvalidData____init__ f fd) : FnOk P w K mg base CX0 1 f fd ["self", "given"] (spInit K "given") := by
  refine F.ok sc_InvalidData____init__ (fun vs H Q E h => ?_) (fun cdv A outer s H vs Q E hr h => ⟨_, pss_one (ps_ost (pv 0) (pv 1)), ?_⟩)
  · obtain ⟨a, C, y, rfl, _⟩ := h
    rfl
  · obtain ⟨a, C, y, rfl, T, no, ea, q⟩ := h
    exact ⟨_, rfl, _, rfl, a, C, rfl, T, no, .inl ⟨ea, fun dx n ne => q dx n ne⟩⟩
theorem ini_InvalidRecord (F : FnM K "__init__" "InvalidRecord.__init__" s_InvalidRecord____init__ f fd) : FnOk P w K mg base CX0 1 f fd ["self", "given"] (spInit K "given") := by
  refine F.ok sc_InvalidRecord____init__ (fun vs H Q E h => ?_) (fun cdv A outer s H vs Q E hr h => ⟨_, pss_one (ps_ost (pv 0) (pv 1)), ?_⟩)
  · obtain ⟨a, C, y, rfl, _⟩ := h
    rfl
  · obtain ⟨a, C, y, rfl, T, no, ea, q⟩ := h
    exact ⟨_, rfl, _, rfl, a, C, rfl, T, no, .inl ⟨ea, fun dx n ne => q dx n ne⟩⟩
theorem ini_InvalidName (F : FnM K "__init__" "InvalidName.__init__" s_InvalidName____init__ f fd) : FnOk P w K mg base CX0 1 f fd ["self", "given"] (spInit K "given") := by
  refine F.ok sc_InvalidName____init__ (fun vs H Q E h => ?_) (fun cdv A outer s H vs Q E hr h => ⟨_, pss_one (ps_ost (pv 0) (pv 1)), ?_⟩)
  · obtain ⟨a, C, y, rfl, _⟩ := h
    rfl
  · obtain ⟨a, C, y, rfl, T, no, ea, q⟩ := h
    exact ⟨_, rfl, _, rfl, a, C, rfl, T, no, .inl ⟨ea, fun dx n ne => q dx n ne⟩⟩
end
end K12
set_option maxHeartbeats 0
namespace K12
open PySem PySem.Spec PyProof.Rows L2 VB
theorem facts {P : Program} {w : World} {K : PySem.W.Frag} {h : Heap} {mg : Str → Option Value} {f : Addr} (X : K.In h) (G : h.Ns mainGlobals mg) (hfa : mg ("law" : Str) = some (.ref f)) (cx : He.SaysX fal fnl [fkT] [] exB w h K) :
    ∃ fd : FuncData, (∀ (s : Shared) (v : Value), BindsTo s fd ⟨[v], []⟩ [("_law_script", v)]) ∧ ∀ base : Heap, K.In base → base.Ns mainGlobals mg → base.NoDigits → Fg P w K mg base CX0 15 f fd ["_law_script"] (spLaw K) := by
  have c := cx.t.d
  have cm := cx.more
  have cj0 := (He.ba cm).1
  have cm := (He.ba cm).2
  have cj1 := (He.ba cm).1
  have cm := (He.ba cm).2
  have cj2 := (He.ba cm).1
  have cm := (He.ba cm).2
  have cj3 := (He.ba cm).1
  have cm := (He.ba cm).2
  have cj4 := (He.ba cm).1
  have cm := (He.ba cm).2
  have cj5 := cm
  have RB := rkB_ok (show rkB K = true from cj0)
  have FD := fkD_of cx.t 0 rfl cj1
  obtain ⟨fd__law_take, F__law_take⟩ := c.def_ 0 (d := d__law_take) rfl
  obtain ⟨fd__law_number, F__law_number⟩ := c.def_ 1 (d := d__law_number) rfl
  obtain ⟨fd__law_until, F__law_until⟩ := c.def_ 2 (d := d__law_until) rfl
  obtain ⟨fd__law_letters, F__law_letters⟩ := c.def_ 3 (d := d__law_letters) rfl
  obtain ⟨fd__law_octet, F__law_octet⟩ := c.def_ 4 (d := d__law_octet) rfl
  obtain ⟨fd__law_drawn, F__law_drawn⟩ := c.def_ 5 (d := d__law_drawn) rfl
  obtain ⟨fd_is_int_from, F_is_int_from⟩ := c.def_ 6 (d := d_is_int_from) rfl
  obtain ⟨fd__check_number, F__check_number⟩ := c.def_ 7 (d := d__check_number) rfl
  obtain ⟨fd__check_flag, F__check_flag⟩ := c.def_ 8 (d := d__check_flag) rfl
  obtain ⟨fd__check_stamp, F__check_stamp⟩ := c.def_ 9 (d := d__check_stamp) rfl
  obtain ⟨fd__check_until, F__check_until⟩ := c.def_ 10 (d := d__check_until) rfl
  obtain ⟨fd_chunk_count, F_chunk_count⟩ := c.def_ 11 (d := d_chunk_count) rfl
  obtain ⟨fd_is_name, F_is_name⟩ := c.def_ 12 (d := d_is_name) rfl
  obtain ⟨fd__check_name, F__check_name⟩ := c.def_ 13 (d := d__check_name) rfl
  obtain ⟨fd_is_list, F_is_list⟩ := c.def_ 14 (d := d_is_list) rfl
  obtain ⟨fd_is_octets, F_is_octets⟩ := c.def_ 15 (d := d_is_octets) rfl
  obtain ⟨fd_is_octets_of, F_is_octets_of⟩ := c.def_ 16 (d := d_is_octets_of) rfl
  obtain ⟨fd__law_made, F__law_made⟩ := c.def_ 17 (d := d__law_made) rfl
  obtain ⟨fd__head_parts, F__head_parts⟩ := c.def_ 18 (d := d__head_parts) rfl
  obtain ⟨fd__parts, F__parts⟩ := c.def_ 19 (d := d__parts) rfl
  obtain ⟨fd_is_tree_record, F_is_tree_record⟩ := c.def_ 20 (d := d_is_tree_record) rfl
  obtain ⟨fd_record_of, F_record_of⟩ := c.def_ 21 (d := d_record_of) rfl
  obtain ⟨fd_moved, F_moved⟩ := c.def_ 22 (d := d_moved) rfl
  obtain ⟨fd__law_told, F__law_told⟩ := c.def_ 23 (d := d__law_told) rfl
  obtain ⟨fd_octets_telling, F_octets_telling⟩ := c.def_ 24 (d := d_octets_telling) rfl
  obtain ⟨fd__filled, F__filled⟩ := c.def_ 25 (d := d__filled) rfl
  obtain ⟨fd__octets_of_name, F__octets_of_name⟩ := c.def_ 26 (d := d__octets_of_name) rfl
  obtain ⟨fd__octets_of_fact, F__octets_of_fact⟩ := c.def_ 27 (d := d__octets_of_fact) rfl
  obtain ⟨fd_written, F_written⟩ := c.def_ 28 (d := d_written) rfl
  obtain ⟨fd__law_digits, F__law_digits⟩ := c.def_ 29 (d := d__law_digits) rfl
  obtain ⟨fd__law_octets, F__law_octets⟩ := c.def_ 30 (d := d__law_octets) rfl
  obtain ⟨fd__law_moved_right, F__law_moved_right⟩ := c.def_ 31 (d := d__law_moved_right) rfl
  obtain ⟨fd__law_value, F__law_value⟩ := c.def_ 32 (d := d__law_value) rfl
  obtain ⟨fd__law_word, F__law_word⟩ := c.def_ 33 (d := d__law_word) rfl
  obtain ⟨fd__law_good, F__law_good⟩ := c.def_ 34 (d := d__law_good) rfl
  obtain ⟨fd__law_read, F__law_read⟩ := c.def_ 35 (d := d__law_read) rfl
  obtain ⟨fd_number_told_by, F_number_told_by⟩ := c.def_ 36 (d := d_number_told_by) rfl
  obtain ⟨fd__seeming_letter, F__seeming_letter⟩ := c.def_ 37 (d := d__seeming_letter) rfl
  obtain ⟨fd__seeming_name, F__seeming_name⟩ := c.def_ 38 (d := d__seeming_name) rfl
  obtain ⟨fd__seeming_fact, F__seeming_fact⟩ := c.def_ 39 (d := d__seeming_fact) rfl
  obtain ⟨fd__seeming_record, F__seeming_record⟩ := c.def_ 40 (d := d__seeming_record) rfl
  obtain ⟨fd_record_told_by, F_record_told_by⟩ := c.def_ 41 (d := d_record_told_by) rfl
  obtain ⟨fd_read_record, F_read_record⟩ := c.def_ 42 (d := d_read_record) rfl
  obtain ⟨fd__law_read_right, F__law_read_right⟩ := c.def_ 43 (d := d__law_read_right) rfl
  obtain ⟨fd__law_field, F__law_field⟩ := c.def_ 44 (d := d__law_field) rfl
  obtain ⟨fd__law_spoilt, F__law_spoilt⟩ := c.def_ 45 (d := d__law_spoilt) rfl
  obtain ⟨fd__law_right, F__law_right⟩ := c.def_ 46 (d := d__law_right) rfl
  obtain ⟨fd__law_box, F__law_box⟩ := c.def_ 47 (d := d__law_box) rfl
  obtain ⟨fd__law_cell, F__law_cell⟩ := c.def_ 48 (d := d__law_cell) rfl
  obtain ⟨fd_law, F_law⟩ := c.def_ 49 (d := d_law) rfl
  obtain ⟨fd_Head____init__, F_Head____init__⟩ := c.def_ 50 (d := d_Head____init__) rfl
  obtain ⟨fd_Seal____init__, F_Seal____init__⟩ := c.def_ 51 (d := d_Seal____init__) rfl
  obtain ⟨fd_Node____init__, F_Node____init__⟩ := c.def_ 52 (d := d_Node____init__) rfl
  obtain ⟨fd_Name____init__, F_Name____init__⟩ := c.def_ 53 (d := d_Name____init__) rfl
  obtain ⟨fd_Chunk____init__, F_Chunk____init__⟩ := c.def_ 54 (d := d_Chunk____init__) rfl
  obtain ⟨fd_Keep____init__, F_Keep____init__⟩ := c.def_ 55 (d := d_Keep____init__) rfl
  obtain ⟨fd_Head____eq__, F_Head____eq__⟩ := c.def_ 56 (d := d_Head____eq__) rfl
  obtain ⟨fd_Seal____eq__, F_Seal____eq__⟩ := c.def_ 57 (d := d_Seal____eq__) rfl
  obtain ⟨fd_Node__fact, F_Node__fact⟩ := c.def_ 58 (d := d_Node__fact) rfl
  obtain ⟨fd_Name__fact, F_Name__fact⟩ := c.def_ 59 (d := d_Name__fact) rfl
  obtain ⟨fd_Chunk__fact, F_Chunk__fact⟩ := c.def_ 60 (d := d_Chunk__fact) rfl
  obtain ⟨fd_Keep__fact, F_Keep__fact⟩ := c.def_ 61 (d := d_Keep__fact) rfl
  obtain ⟨fd_Node____eq__, F_Node____eq__⟩ := c.def_ 62 (d := d_Node____eq__) rfl
  obtain ⟨fd_Name____eq__, F_Name____eq__⟩ := c.def_ 63 (d := d_Name____eq__) rfl
  obtain ⟨fd_Chunk____eq__, F_Chunk____eq__⟩ := c.def_ 64 (d := d_Chunk____eq__) rfl
  obtain ⟨fd_Keep____eq__, F_Keep____eq__⟩ := c.def_ 65 (d := d_Keep____eq__) rfl
  obtain ⟨fd_InvalidNumber____init__, F_InvalidNumber____init__⟩ := c.def_ 66 (d := d_InvalidNumber____init__) rfl
  obtain ⟨fd_InvalidName____init__, F_InvalidName____init__⟩ := c.def_ 67 (d := d_InvalidName____init__) rfl
  have g__law_take := He.glo_ok X G (c.fact 0 (f := .glo "_law_take") rfl)
  have g__law_number := He.glo_ok X G (c.fact 1 (f := .glo "_law_number") rfl)
  have g__law_until := He.glo_ok X G (c.fact 2 (f := .glo "_law_until") rfl)
  have g__law_letters := He.glo_ok X G (c.fact 3 (f := .glo "_law_letters") rfl)
  have g__law_octet := He.glo_ok X G (c.fact 4 (f := .glo "_law_octet") rfl)
  have g__law_drawn := He.glo_ok X G (c.fact 5 (f := .glo "_law_drawn") rfl)
  have g_is_int_from := He.glo_ok X G (c.fact 6 (f := .glo "is_int_from") rfl)
  have g__check_number := He.glo_ok X G (c.fact 7 (f := .glo "_check_number") rfl)
  have g__check_flag := He.glo_ok X G (c.fact 8 (f := .glo "_check_flag") rfl)
  have g__check_stamp := He.glo_ok X G (c.fact 9 (f := .glo "_check_stamp") rfl)
  have g__check_until := He.glo_ok X G (c.fact 10 (f := .glo "_check_until") rfl)
  have g_chunk_count := He.glo_ok X G (c.fact 11 (f := .glo "chunk_count") rfl)
  have g_is_name := He.glo_ok X G (c.fact 12 (f := .glo "is_name") rfl)
  have g__check_name := He.glo_ok X G (c.fact 13 (f := .glo "_check_name") rfl)
  have g_is_list := He.glo_ok X G (c.fact 14 (f := .glo "is_list") rfl)
  have g_is_octets := He.glo_ok X G (c.fact 15 (f := .glo "is_octets") rfl)
  have g_is_octets_of := He.glo_ok X G (c.fact 16 (f := .glo "is_octets_of") rfl)
  have g__law_made := He.glo_ok X G (c.fact 17 (f := .glo "_law_made") rfl)
  have g__head_parts := He.glo_ok X G (c.fact 18 (f := .glo "_head_parts") rfl)
  have g__parts := He.glo_ok X G (c.fact 19 (f := .glo "_parts") rfl)
  have g_is_tree_record := He.glo_ok X G (c.fact 20 (f := .glo "is_tree_record") rfl)
  have g_record_of := He.glo_ok X G (c.fact 21 (f := .glo "record_of") rfl)
  have g_moved := He.glo_ok X G (c.fact 22 (f := .glo "moved") rfl)
  have g__law_told := He.glo_ok X G (c.fact 23 (f := .glo "_law_told") rfl)
  have g_octets_telling := He.glo_ok X G (c.fact 24 (f := .glo "octets_telling") rfl)
  have g__filled := He.glo_ok X G (c.fact 25 (f := .glo "_filled") rfl)
  have g__octets_of_name := He.glo_ok X G (c.fact 26 (f := .glo "_octets_of_name") rfl)
  have g__octets_of_fact := He.glo_ok X G (c.fact 27 (f := .glo "_octets_of_fact") rfl)
  have g_written := He.glo_ok X G (c.fact 28 (f := .glo "written") rfl)
  have g__law_digits := He.glo_ok X G (c.fact 29 (f := .glo "_law_digits") rfl)
  have g__law_octets := He.glo_ok X G (c.fact 30 (f := .glo "_law_octets") rfl)
  have g__law_moved_right := He.glo_ok X G (c.fact 31 (f := .glo "_law_moved_right") rfl)
  have g__law_value := He.glo_ok X G (c.fact 32 (f := .glo "_law_value") rfl)
  have g__law_word := He.glo_ok X G (c.fact 33 (f := .glo "_law_word") rfl)
  have g__law_good := He.glo_ok X G (c.fact 34 (f := .glo "_law_good") rfl)
  have g__law_read := He.glo_ok X G (c.fact 35 (f := .glo "_law_read") rfl)
  have g_number_told_by := He.glo_ok X G (c.fact 36 (f := .glo "number_told_by") rfl)
  have g__seeming_letter := He.glo_ok X G (c.fact 37 (f := .glo "_seeming_letter") rfl)
  have g__seeming_name := He.glo_ok X G (c.fact 38 (f := .glo "_seeming_name") rfl)
  have g__seeming_fact := He.glo_ok X G (c.fact 39 (f := .glo "_seeming_fact") rfl)
  have g__seeming_record := He.glo_ok X G (c.fact 40 (f := .glo "_seeming_record") rfl)
  have g_record_told_by := He.glo_ok X G (c.fact 41 (f := .glo "record_told_by") rfl)
  have g_read_record := He.glo_ok X G (c.fact 42 (f := .glo "read_record") rfl)
  have g__law_read_right := He.glo_ok X G (c.fact 43 (f := .glo "_law_read_right") rfl)
  have g__law_field := He.glo_ok X G (c.fact 44 (f := .glo "_law_field") rfl)
  have g__law_spoilt := He.glo_ok X G (c.fact 45 (f := .glo "_law_spoilt") rfl)
  have g__law_right := He.glo_ok X G (c.fact 46 (f := .glo "_law_right") rfl)
  have g__law_box := He.glo_ok X G (c.fact 47 (f := .glo "_law_box") rfl)
  have g__law_cell := He.glo_ok X G (c.fact 48 (f := .glo "_law_cell") rfl)
  have g_law := He.glo_ok X G (c.fact 49 (f := .glo "law") rfl)
  have T : Txt K mg := ⟨He.free_ok X G (c.fact 50 (f := .free "abs") rfl), He.free_ok X G (c.fact 51 (f := .free "all") rfl), He.free_ok X G (c.fact 52 (f := .free "bool") rfl), He.free_ok X G (c.fact 53 (f := .free "int") rfl), He.free_ok X G (c.fact 54 (f := .free "isinstance") rfl), He.free_ok X G (c.fact 55 (f := .free "len") rfl), He.free_ok X G (c.fact 56 (f := .free "list") rfl), He.free_ok X G (c.fact 57 (f := .free "max") rfl), He.free_ok X G (c.fact 58 (f := .free "min") rfl), He.free_ok X G (c.fact 59 (f := .free "ord") rfl), He.free_ok X G (c.fact 60 (f := .free "range") rfl), He.free_ok X G (c.fact 61 (f := .free "repr") rfl), He.free_ok X G (c.fact 62 (f := .free "reversed") rfl), He.free_ok X G (c.fact 63 (f := .free "str") rfl), He.free_ok X G (c.fact 64 (f := .free "sum") rfl), He.free_ok X G (c.fact 65 (f := .free "tuple") rfl), He.int_ok X G (c.fact 66 (f := .int "CHUNK_OCTETS" 16) rfl), He.int_ok X G (c.fact 67 (f := .int "CLEANING_KIND" 2) rfl), He.glo_ok X G (c.fact 68 (f := .glo "Chunk") rfl), He.int_ok X G (c.fact 69 (f := .int "DATA_OCTETS" 30) rfl), He.int_ok X G (c.fact 70 (f := .int "DIRECTORY" 2) rfl), He.glo_ok X G (c.fact 71 (f := .glo "FACT_KINDS") rfl), He.int_ok X G (c.fact 72 (f := .int "FACT_PLACE" 7) rfl), He.int_ok X G (c.fact 73 (f := .int "FILE" 1) rfl), He.int_ok X G (c.fact 74 (f := .int "FIRST_LETTER" 97) rfl), He.int_ok X G (c.fact 75 (f := .int "GONE" 0) rfl), He.int_ok X G (c.fact 76 (f := .int "HEAD_KIND" 1) rfl), He.glo_ok X G (c.fact 77 (f := .glo "Head") rfl), He.glo_ok X G (c.fact 78 (f := .glo "Keep") rfl), He.str_ok X G (c.fact 79 (f := .str "LETTERS" "abcdefghijklmnopqrstuvwxyz") rfl), He.int_ok X G (c.fact 80 (f := .int "MOST_CHUNKS" 6) rfl), He.int_ok X G (c.fact 81 (f := .int "MOST_ID" 65535) rfl), He.int_ok X G (c.fact 82 (f := .int "MOST_LETTERS" 8) rfl), He.int_ok X G (c.fact 83 (f := .int "MOST_MOVED" 14) rfl), He.int_ok X G (c.fact 84 (f := .int "MOST_NUMBER" 4294967295) rfl), He.int_ok X G (c.fact 85 (f := .int "MOST_RECORDS" 6) rfl), He.int_ok X G (c.fact 86 (f := .int "MOST_SIZE" 96) rfl), He.int_ok X G (c.fact 87 (f := .int "NO_NODE" 0) rfl), He.glo_ok X G (c.fact 88 (f := .glo "Name") rfl), He.glo_ok X G (c.fact 89 (f := .glo "Node") rfl), He.int_ok X G (c.fact 90 (f := .int "ROOT" 1) rfl), He.int_ok X G (c.fact 91 (f := .int "SEAL_KIND" 3) rfl), He.glo_ok X G (c.fact 92 (f := .glo "Seal") rfl), He.int_ok X G (c.fact 93 (f := .int "UNTIL_PLACE" 26) rfl)⟩
  have gl_Head := He.glo_ok X G (c.fact 94 (f := .glo "Head") rfl)
  have kc_Head : Cls K (Kl K 0) := He.cls_ok (c.fact 95 (f := .cls "Head") rfl)
  have na_Head : ∀ f ∈ fnE.getD 0 [], NoAttr K (Kl K 0) f := by
    intro f hf
    simp only [List.getD_cons_zero, List.getD_cons_succ, List.mem_cons, List.not_mem_nil, or_false] at hf
    rcases hf with rfl | rfl | rfl
    · exact He.noat_ok (c.fact 97 (f := .noat "Head" "seq") rfl)
    · exact He.noat_ok (c.fact 98 (f := .noat "Head" "tail") rfl)
    · exact He.noat_ok (c.fact 99 (f := .noat "Head" "is_cleaning") rfl)
  have gl_Seal := He.glo_ok X G (c.fact 100 (f := .glo "Seal") rfl)
  have kc_Seal : Cls K (Kl K 1) := He.cls_ok (c.fact 101 (f := .cls "Seal") rfl)
  have na_Seal : ∀ f ∈ fnE.getD 1 [], NoAttr K (Kl K 1) f := by
    intro f hf
    simp only [List.getD_cons_zero, List.getD_cons_succ, List.mem_cons, List.not_mem_nil, or_false] at hf
    rcases hf with rfl | rfl
    · exact He.noat_ok (c.fact 103 (f := .noat "Seal" "tail") rfl)
    · exact He.noat_ok (c.fact 104 (f := .noat "Seal" "count") rfl)
  have gl_Node := He.glo_ok X G (c.fact 105 (f := .glo "Node") rfl)
  have kc_Node : Cls K (Kl K 2) := He.cls_ok (c.fact 106 (f := .cls "Node") rfl)
  have na_Node : ∀ f ∈ fnE.getD 2 [], NoAttr K (Kl K 2) f := by
    intro f hf
    simp only [List.getD_cons_zero, List.getD_cons_succ, List.mem_cons, List.not_mem_nil, or_false] at hf
    rcases hf with rfl | rfl | rfl | rfl | rfl | rfl | rfl | rfl
    · exact He.noat_ok (c.fact 108 (f := .noat "Node" "deed") rfl)
    · exact He.noat_ok (c.fact 109 (f := .noat "Node" "at") rfl)
    · exact He.noat_ok (c.fact 110 (f := .noat "Node" "of") rfl)
    · exact He.noat_ok (c.fact 111 (f := .noat "Node" "node") rfl)
    · exact He.noat_ok (c.fact 112 (f := .noat "Node" "what") rfl)
    · exact He.noat_ok (c.fact 113 (f := .noat "Node" "size") rfl)
    · exact He.noat_ok (c.fact 114 (f := .noat "Node" "chunks") rfl)
    · exact He.noat_ok (c.fact 115 (f := .noat "Node" "until") rfl)
  have gl_Name := He.glo_ok X G (c.fact 116 (f := .glo "Name") rfl)
  have kc_Name : Cls K (Kl K 3) := He.cls_ok (c.fact 117 (f := .cls "Name") rfl)
  have na_Name : ∀ f ∈ fnE.getD 3 [], NoAttr K (Kl K 3) f := by
    intro f hf
    simp only [List.getD_cons_zero, List.getD_cons_succ, List.mem_cons, List.not_mem_nil, or_false] at hf
    rcases hf with rfl | rfl | rfl | rfl | rfl | rfl | rfl
    · exact He.noat_ok (c.fact 119 (f := .noat "Name" "deed") rfl)
    · exact He.noat_ok (c.fact 120 (f := .noat "Name" "at") rfl)
    · exact He.noat_ok (c.fact 121 (f := .noat "Name" "of") rfl)
    · exact He.noat_ok (c.fact 122 (f := .noat "Name" "directory") rfl)
    · exact He.noat_ok (c.fact 123 (f := .noat "Name" "name") rfl)
    · exact He.noat_ok (c.fact 124 (f := .noat "Name" "node") rfl)
    · exact He.noat_ok (c.fact 125 (f := .noat "Name" "until") rfl)
  have gl_Chunk := He.glo_ok X G (c.fact 126 (f := .glo "Chunk") rfl)
  have kc_Chunk : Cls K (Kl K 4) := He.cls_ok (c.fact 127 (f := .cls "Chunk") rfl)
  have na_Chunk : ∀ f ∈ fnE.getD 4 [], NoAttr K (Kl K 4) f := by
    intro f hf
    simp only [List.getD_cons_zero, List.getD_cons_succ, List.mem_cons, List.not_mem_nil, or_false] at hf
    rcases hf with rfl | rfl | rfl | rfl | rfl | rfl | rfl
    · exact He.noat_ok (c.fact 129 (f := .noat "Chunk" "deed") rfl)
    · exact He.noat_ok (c.fact 130 (f := .noat "Chunk" "at") rfl)
    · exact He.noat_ok (c.fact 131 (f := .noat "Chunk" "of") rfl)
    · exact He.noat_ok (c.fact 132 (f := .noat "Chunk" "node") rfl)
    · exact He.noat_ok (c.fact 133 (f := .noat "Chunk" "index") rfl)
    · exact He.noat_ok (c.fact 134 (f := .noat "Chunk" "octets") rfl)
    · exact He.noat_ok (c.fact 135 (f := .noat "Chunk" "until") rfl)
  have gl_Keep := He.glo_ok X G (c.fact 136 (f := .glo "Keep") rfl)
  have kc_Keep : Cls K (Kl K 5) := He.cls_ok (c.fact 137 (f := .cls "Keep") rfl)
  have na_Keep : ∀ f ∈ fnE.getD 5 [], NoAttr K (Kl K 5) f := by
    intro f hf
    simp only [List.getD_cons_zero, List.getD_cons_succ, List.mem_cons, List.not_mem_nil, or_false] at hf
    rcases hf with rfl | rfl | rfl | rfl | rfl | rfl
    · exact He.noat_ok (c.fact 139 (f := .noat "Keep" "deed") rfl)
    · exact He.noat_ok (c.fact 140 (f := .noat "Keep" "at") rfl)
    · exact He.noat_ok (c.fact 141 (f := .noat "Keep" "of") rfl)
    · exact He.noat_ok (c.fact 142 (f := .noat "Keep" "name") rfl)
    · exact He.noat_ok (c.fact 143 (f := .noat "Keep" "is_kept") rfl)
    · exact He.noat_ok (c.fact 144 (f := .noat "Keep" "until") rfl)
  have R : Rk K := ⟨six kc_Head kc_Seal kc_Node kc_Name kc_Chunk kc_Keep, six na_Head na_Seal na_Node na_Name na_Chunk na_Keep, RB.ins, RB.kit, RB.kitB⟩
  have gInvalidNumber := He.glo_ok X G (c.fact 155 (f := .glo "InvalidNumber") rfl)
  obtain ⟨errInvalidNumber, _⟩ := errB_ok (show errB K "InvalidNumber" "given" = true from cj2) gInvalidNumber
  have xN := of_decide_eq_true cj4
  have gInvalidName := He.glo_ok X G (c.fact 156 (f := .glo "InvalidName") rfl)
  obtain ⟨errInvalidName, _⟩ := errB_ok (show errB K "InvalidName" "given" = true from cj3) gInvalidName
  have xM := of_decide_eq_true cj5
  cases hfa.symm.trans g_law
  have b := FunD.bindsA (ps := ["_law_script"]) F_law fun _ _ _ _ _ _ us hl => match us, hl with | [_], _ => rfl
  refine ⟨fd_law, fun s v => b s [v] rfl, fun base _ _ hd => ?_⟩
  have E_InvalidNumber : MkE P w K mg base "InvalidNumber" "given" (He.ga K "InvalidNumber") (He.ma K (He.ga K "InvalidNumber") "__init__") := ⟨errInvalidNumber, fd_InvalidNumber____init__, ini_InvalidNumber F_InvalidNumber____init__, F_InvalidNumber____init__.bindsN fun _ _ _ _ _ _ us hl => match us, hl with | [_, _], _ => rfl⟩
  have E_InvalidName : MkE P w K mg base "InvalidName" "given" (He.ga K "InvalidName") (He.ma K (He.ga K "InvalidName") "__init__") := ⟨errInvalidName, fd_InvalidName____init__, ini_InvalidName F_InvalidName____init__, F_InvalidName____init__.bindsN fun _ _ _ _ _ _ us hl => match us, hl with | [_, _], _ => rfl⟩
  have G__law_take : Fg P w K mg base CX0 1 _ fd__law_take ["_law_box_here", "_law_many"] spTake := ok_take (F := F__law_take) (T := T)
  have C__law_take_1 : Cal P w K mg base CX0 1 "_law_take" ["_law_box_here", "_law_many"] spTake := ⟨_, fd__law_take, G__law_take.le (by omega), g__law_take, F__law_take.kp, F__law_take.bindsN fun _ _ _ _ _ _ us hl => match us, hl with | [_, _], _ => rfl⟩
  have G__law_number : Fg P w K mg base CX0 2 _ fd__law_number ["_law_box_here", "_law_least", "_law_most"] spNum := ok_num (F := F__law_number) (T := T) (C__law_take := C__law_take_1)
  have C__law_number_2 : Cal P w K mg base CX0 2 "_law_number" ["_law_box_here", "_law_least", "_law_most"] spNum := ⟨_, fd__law_number, G__law_number.le (by omega), g__law_number, F__law_number.kp, F__law_number.bindsN fun _ _ _ _ _ _ us hl => match us, hl with | [_, _, _], _ => rfl⟩
  have G__law_until : Fg P w K mg base CX0 3 _ fd__law_until ["_law_box_here", "_law_place"] spUnt := ok_until (F := F__law_until) (T := T) (C__law_take := C__law_take_1) (C__law_number := C__law_number_2)
  have G__law_letters : Fg P w K mg base CX0 2 _ fd__law_letters ["_law_box_here"] spLet := ok_letters (F := F__law_letters) (T := T) (C__law_take := C__law_take_1)
  have G__law_octet : Fg P w K mg base CX0 2 _ fd__law_octet ["_law_box_here"] spOct := ok_octet (F := F__law_octet) (T := T) (C__law_take := C__law_take_1)
  have C__law_until_3 : Cal P w K mg base CX0 3 "_law_until" ["_law_box_here", "_law_place"] spUnt := ⟨_, fd__law_until, G__law_until.le (by omega), g__law_until, F__law_until.kp, F__law_until.bindsN fun _ _ _ _ _ _ us hl => match us, hl with | [_, _], _ => rfl⟩
  have C__law_letters_2 : Cal P w K mg base CX0 2 "_law_letters" ["_law_box_here"] spLet := ⟨_, fd__law_letters, G__law_letters.le (by omega), g__law_letters, F__law_letters.kp, F__law_letters.bindsN fun _ _ _ _ _ _ us hl => match us, hl with | [_], _ => rfl⟩
  have C__law_octet_2 : Cal P w K mg base CX0 2 "_law_octet" ["_law_box_here"] spOct := ⟨_, fd__law_octet, G__law_octet.le (by omega), g__law_octet, F__law_octet.kp, F__law_octet.bindsN fun _ _ _ _ _ _ us hl => match us, hl with | [_], _ => rfl⟩
  have G__law_drawn : Fg P w K mg base CX0 4 _ fd__law_drawn ["_law_box_here", "_law_kind"] spDrw := ok_drawn (F := F__law_drawn) (T := T) (C__law_take := C__law_take_1) (C__law_number := C__law_number_2) (C__law_until := C__law_until_3) (C__law_letters := C__law_letters_2) (C__law_octet := C__law_octet_2)
  have G_is_int_from : Fg P w K mg base CX0 2 _ fd_is_int_from ["value", "least", "greatest"] (spIntFrom K) := ok_int_from (F := F_is_int_from) (T := T)
  have C_is_int_from_2 : Cal P w K mg base CX0 2 "is_int_from" ["value", "least", "greatest"] (spIntFrom K) := ⟨_, fd_is_int_from, G_is_int_from.le (by omega), g_is_int_from, F_is_int_from.kp, F_is_int_from.bindsN fun _ _ _ _ _ _ us hl => match us, hl with | [_, _, _], _ => rfl⟩
  have G__check_number : Fg P w K mg base (CX P w) 4 _ fd__check_number ["value", "least", "greatest"] (spChkN K) := ok_chkN (F := F__check_number) (T := T) (E_InvalidNumber := E_InvalidNumber) (C_is_int_from := C_is_int_from_2)
  have G__check_flag : Fg P w K mg base CX0 1 _ fd__check_flag ["value"] spChkF := ok_chkF (F := F__check_flag) (T := T)
  have C__check_number_4 : Cal P w K mg base (CX P w) 4 "_check_number" ["value", "least", "greatest"] (spChkN K) := ⟨_, fd__check_number, G__check_number.le (by omega), g__check_number, F__check_number.kp, F__check_number.bindsN fun _ _ _ _ _ _ us hl => match us, hl with | [_, _, _], _ => rfl⟩
  have C__check_flag_1 : Cal P w K mg base CX0 1 "_check_flag" ["value"] spChkF := ⟨_, fd__check_flag, G__check_flag.le (by omega), g__check_flag, F__check_flag.kp, F__check_flag.bindsN fun _ _ _ _ _ _ us hl => match us, hl with | [_], _ => rfl⟩
  have G_Head____init__ : Fg P w K mg base (CX P w) 7 _ fd_Head____init__ ["self", "seq", "tail", "is_cleaning"] (spIni K 0) := ini_head (F := F_Head____init__) (T := T) (R := R) (C__check_number := C__check_number_4) (C__check_flag := C__check_flag_1)
  have G_Seal____init__ : Fg P w K mg base (CX P w) 7 _ fd_Seal____init__ ["self", "tail", "count"] (spIni K 1) := ini_seal (F := F_Seal____init__) (T := T) (R := R) (C__check_number := C__check_number_4)
  have G__check_stamp : Fg P w K mg base (CX P w) 5 _ fd__check_stamp ["deed", "at", "of"] (spChkS K) := ok_chkS (F := F__check_stamp) (T := T) (C__check_number := C__check_number_4)
  have G__check_until : Fg P w K mg base (CX P w) 5 _ fd__check_until ["until", "deed", "of"] (spChkU K) := ok_chkU (F := F__check_until) (T := T) (C__check_number := C__check_number_4) (C_is_int_from := C_is_int_from_2)
  have G_chunk_count : Fg P w K mg base CX0 1 _ fd_chunk_count ["size"] spCount := ok_count (F := F_chunk_count) (T := T)
  have C__check_stamp_5 : Cal P w K mg base (CX P w) 5 "_check_stamp" ["deed", "at", "of"] (spChkS K) := ⟨_, fd__check_stamp, G__check_stamp.le (by omega), g__check_stamp, F__check_stamp.kp, F__check_stamp.bindsN fun _ _ _ _ _ _ us hl => match us, hl with | [_, _, _], _ => rfl⟩
  have C__check_until_5 : Cal P w K mg base (CX P w) 5 "_check_until" ["until", "deed", "of"] (spChkU K) := ⟨_, fd__check_until, G__check_until.le (by omega), g__check_until, F__check_until.kp, F__check_until.bindsN fun _ _ _ _ _ _ us hl => match us, hl with | [_, _, _], _ => rfl⟩
  have C_chunk_count_1 : Cal P w K mg base CX0 1 "chunk_count" ["size"] spCount := ⟨_, fd_chunk_count, G_chunk_count.le (by omega), g_chunk_count, F_chunk_count.kp, F_chunk_count.bindsN fun _ _ _ _ _ _ us hl => match us, hl with | [_], _ => rfl⟩
  have G_Node____init__ : Fg P w K mg base (CX P w) 7 _ fd_Node____init__ ["self", "deed", "at", "of", "node", "what", "size", "chunks", "until"] (spIni K 2) := ini_node (F := F_Node____init__) (T := T) (R := R) (C__check_number := C__check_number_4) (C__check_stamp := C__check_stamp_5) (C__check_until := C__check_until_5) (C_chunk_count := C_chunk_count_1)
  have G_is_name : Fg P w K mg base CX0 1 _ fd_is_name ["value"] (spName K) := ok_name (F := F_is_name) (T := T)
  have C_is_name_1 : Cal P w K mg base CX0 1 "is_name" ["value"] (spName K) := ⟨_, fd_is_name, G_is_name.le (by omega), g_is_name, F_is_name.kp, F_is_name.bindsN fun _ _ _ _ _ _ us hl => match us, hl with | [_], _ => rfl⟩
  have G__check_name : Fg P w K mg base (CX P w) 4 _ fd__check_name ["value"] (spChkNm K) := ok_chkNm (F := F__check_name) (T := T) (E_InvalidName := E_InvalidName) (C_is_name := C_is_name_1)
  have C__check_name_4 : Cal P w K mg base (CX P w) 4 "_check_name" ["value"] (spChkNm K) := ⟨_, fd__check_name, G__check_name.le (by omega), g__check_name, F__check_name.kp, F__check_name.bindsN fun _ _ _ _ _ _ us hl => match us, hl with | [_], _ => rfl⟩
  have G_Name____init__ : Fg P w K mg base (CX P w) 7 _ fd_Name____init__ ["self", "deed", "at", "of", "directory", "name", "node", "until"] (spIni K 3) := ini_name (F := F_Name____init__) (T := T) (R := R) (E_InvalidNumber := E_InvalidNumber) (C__check_number := C__check_number_4) (C__check_stamp := C__check_stamp_5) (C__check_until := C__check_until_5) (C__check_name := C__check_name_4)
  have G_is_list : Fg P w K mg base CX0 1 _ fd_is_list ["value"] (spIsList K) := ok_is_list (F := F_is_list) (T := T)
  have C_is_list_1 : Cal P w K mg base CX0 1 "is_list" ["value"] (spIsList K) := ⟨_, fd_is_list, G_is_list.le (by omega), g_is_list, F_is_list.kp, F_is_list.bindsN fun _ _ _ _ _ _ us hl => match us, hl with | [_], _ => rfl⟩
  have G_is_octets : Fg P w K mg base CX0 2 _ fd_is_octets ["value"] (spIsOct K) := ok_is_octets (F := F_is_octets) (T := T) (C_is_list := C_is_list_1)
  have C_is_octets_2 : Cal P w K mg base CX0 2 "is_octets" ["value"] (spIsOct K) := ⟨_, fd_is_octets, G_is_octets.le (by omega), g_is_octets, F_is_octets.kp, F_is_octets.bindsN fun _ _ _ _ _ _ us hl => match us, hl with | [_], _ => rfl⟩
  have G_is_octets_of : Fg P w K mg base CX0 3 _ fd_is_octets_of ["value", "count"] (spOctOf K) := ok_octets_of (F := F_is_octets_of) (T := T) (C_is_list := C_is_list_1) (C_is_octets := C_is_octets_2)
  have C_is_octets_of_3 : Cal P w K mg base CX0 3 "is_octets_of" ["value", "count"] (spOctOf K) := ⟨_, fd_is_octets_of, G_is_octets_of.le (by omega), g_is_octets_of, F_is_octets_of.kp, F_is_octets_of.bindsN fun _ _ _ _ _ _ us hl => match us, hl with | [_, _], _ => rfl⟩
  have G_Chunk____init__ : Fg P w K mg base (CX P w) 7 _ fd_Chunk____init__ ["self", "deed", "at", "of", "node", "index", "octets", "until"] (spIni K 4) := ini_chunk (F := F_Chunk____init__) (T := T) (R := R) (C__check_number := C__check_number_4) (C__check_stamp := C__check_stamp_5) (C__check_until := C__check_until_5) (C_is_octets_of := C_is_octets_of_3)
  have G_Keep____init__ : Fg P w K mg base (CX P w) 7 _ fd_Keep____init__ ["self", "deed", "at", "of", "name", "is_kept", "until"] (spIni K 5) := ini_keep (F := F_Keep____init__) (T := T) (R := R) (C__check_stamp := C__check_stamp_5) (C__check_until := C__check_until_5) (C__check_name := C__check_name_4) (C__check_flag := C__check_flag_1)
  have N_Head_7 : Mak P w K mg base (CX P w) 7 "Head" (Kl K 0) ["self", "seq", "tail", "is_cleaning"] (spIni K 0) := ⟨_, fd_Head____init__, G_Head____init__.le (by omega), He.mkr_ok (c.fact 96 (f := .mkr "Head") rfl), gl_Head, F_Head____init__.bindsN fun _ _ _ _ _ _ us hl => match us, hl with | [_, _, _, _], _ => rfl⟩
  have N_Seal_7 : Mak P w K mg base (CX P w) 7 "Seal" (Kl K 1) ["self", "tail", "count"] (spIni K 1) := ⟨_, fd_Seal____init__, G_Seal____init__.le (by omega), He.mkr_ok (c.fact 102 (f := .mkr "Seal") rfl), gl_Seal, F_Seal____init__.bindsN fun _ _ _ _ _ _ us hl => match us, hl with | [_, _, _], _ => rfl⟩
  have N_Node_7 : Mak P w K mg base (CX P w) 7 "Node" (Kl K 2) ["self", "deed", "at", "of", "node", "what", "size", "chunks", "until"] (spIni K 2) := ⟨_, fd_Node____init__, G_Node____init__.le (by omega), He.mkr_ok (c.fact 107 (f := .mkr "Node") rfl), gl_Node, binds_full F_Node____init__ fun _ _ _ _ _ _ _ us its hl hi => match us, its, hl, hi with | [_, _, _, _, _, _, _, _, _], [_], _, _ => ⟨_, rfl, rfl⟩⟩
  have N_Name_7 : Mak P w K mg base (CX P w) 7 "Name" (Kl K 3) ["self", "deed", "at", "of", "directory", "name", "node", "until"] (spIni K 3) := ⟨_, fd_Name____init__, G_Name____init__.le (by omega), He.mkr_ok (c.fact 118 (f := .mkr "Name") rfl), gl_Name, binds_full F_Name____init__ fun _ _ _ _ _ _ _ us its hl hi => match us, its, hl, hi with | [_, _, _, _, _, _, _, _], [_], _, _ => ⟨_, rfl, rfl⟩⟩
  have N_Chunk_7 : Mak P w K mg base (CX P w) 7 "Chunk" (Kl K 4) ["self", "deed", "at", "of", "node", "index", "octets", "until"] (spIni K 4) := ⟨_, fd_Chunk____init__, G_Chunk____init__.le (by omega), He.mkr_ok (c.fact 128 (f := .mkr "Chunk") rfl), gl_Chunk, binds_full F_Chunk____init__ fun _ _ _ _ _ _ _ us its hl hi => match us, its, hl, hi with | [_, _, _, _, _, _, _, _], [_], _, _ => ⟨_, rfl, rfl⟩⟩
  have N_Keep_7 : Mak P w K mg base (CX P w) 7 "Keep" (Kl K 5) ["self", "deed", "at", "of", "name", "is_kept", "until"] (spIni K 5) := ⟨_, fd_Keep____init__, G_Keep____init__.le (by omega), He.mkr_ok (c.fact 138 (f := .mkr "Keep") rfl), gl_Keep, binds_full F_Keep____init__ fun _ _ _ _ _ _ _ us its hl hi => match us, its, hl, hi with | [_, _, _, _, _, _, _], [_], _, _ => ⟨_, rfl, rfl⟩⟩
  have G__law_made : Fg P w K mg base CX0 9 _ fd__law_made ["_law_row"] (spMade K) := ok_made (F := F__law_made) (T := T) (N_Head := N_Head_7) (N_Seal := N_Seal_7) (N_Node := N_Node_7) (N_Name := N_Name_7) (N_Chunk := N_Chunk_7) (N_Keep := N_Keep_7)
  have G__head_parts : Fg P w K mg base CX0 1 _ fd__head_parts ["head"] (spHP K) := ok_hp (F := F__head_parts) (T := T) (R := R)
  have C__head_parts_1 : Cal P w K mg base CX0 1 "_head_parts" ["head"] (spHP K) := ⟨_, fd__head_parts, G__head_parts.le (by omega), g__head_parts, F__head_parts.kp, F__head_parts.bindsN fun _ _ _ _ _ _ us hl => match us, hl with | [_], _ => rfl⟩
  have G_Head____eq__ : Fg P w K mg base CX0 4 _ fd_Head____eq__ ["self", "other"] (spEqR K 0) := eq_head (F := F_Head____eq__) (T := T) (R := R) (C__head_parts := C__head_parts_1)
  have G_Seal____eq__ : Fg P w K mg base CX0 4 _ fd_Seal____eq__ ["self", "other"] (spEqR K 1) := eq_seal (F := F_Seal____eq__) (T := T) (R := R)
  have G_Node__fact : Fg P w K mg base CX0 1 _ fd_Node__fact ["self"] (spFact K 2) := fact_node (F := F_Node__fact) (T := T) (R := R)
  have G_Name__fact : Fg P w K mg base CX0 1 _ fd_Name__fact ["self"] (spFact K 3) := fact_name (F := F_Name__fact) (T := T) (R := R)
  have G_Chunk__fact : Fg P w K mg base CX0 1 _ fd_Chunk__fact ["self"] (spFact K 4) := fact_chunk (F := F_Chunk__fact) (T := T) (R := R)
  have G_Keep__fact : Fg P w K mg base CX0 1 _ fd_Keep__fact ["self"] (spFact K 5) := fact_keep (F := F_Keep__fact) (T := T) (R := R)
  have all_FctM : FctM P w K mg base := four26 ⟨_, fd_Node__fact, G_Node__fact.le (by omega), kc_Node, He.meth_ok (c.fact 147 (f := .meth "Node" "fact") rfl), F_Node__fact.bindsN fun _ _ _ _ _ _ us hl => match us, hl with | [_], _ => rfl⟩ ⟨_, fd_Name__fact, G_Name__fact.le (by omega), kc_Name, He.meth_ok (c.fact 148 (f := .meth "Name" "fact") rfl), F_Name__fact.bindsN fun _ _ _ _ _ _ us hl => match us, hl with | [_], _ => rfl⟩ ⟨_, fd_Chunk__fact, G_Chunk__fact.le (by omega), kc_Chunk, He.meth_ok (c.fact 149 (f := .meth "Chunk" "fact") rfl), F_Chunk__fact.bindsN fun _ _ _ _ _ _ us hl => match us, hl with | [_], _ => rfl⟩ ⟨_, fd_Keep__fact, G_Keep__fact.le (by omega), kc_Keep, He.meth_ok (c.fact 150 (f := .meth "Keep" "fact") rfl), F_Keep__fact.bindsN fun _ _ _ _ _ _ us hl => match us, hl with | [_], _ => rfl⟩
  have G__parts : Fg P w K mg base CX0 2 _ fd__parts ["record"] (spParts K) := ok_parts (F := F__parts) (T := T) (R := R) (M_fact := all_FctM)
  have C__parts_2 : Cal P w K mg base CX0 2 "_parts" ["record"] (spParts K) := ⟨_, fd__parts, G__parts.le (by omega), g__parts, F__parts.kp, F__parts.bindsN fun _ _ _ _ _ _ us hl => match us, hl with | [_], _ => rfl⟩
  have G_Node____eq__ : Fg P w K mg base CX0 4 _ fd_Node____eq__ ["self", "other"] (spEqR K 2) := eq_node (F := F_Node____eq__) (T := T) (R := R) (C__parts := C__parts_2)
  have G_Name____eq__ : Fg P w K mg base CX0 4 _ fd_Name____eq__ ["self", "other"] (spEqR K 3) := eq_name (F := F_Name____eq__) (T := T) (R := R) (C__parts := C__parts_2)
  have G_Chunk____eq__ : Fg P w K mg base CX0 4 _ fd_Chunk____eq__ ["self", "other"] (spEqR K 4) := eq_chunk (F := F_Chunk____eq__) (T := T) (R := R) (C__parts := C__parts_2)
  have G_Keep____eq__ : Fg P w K mg base CX0 4 _ fd_Keep____eq__ ["self", "other"] (spEqR K 5) := eq_keep (F := F_Keep____eq__) (T := T) (R := R) (C__parts := C__parts_2)
  have G_is_tree_record : Fg P w K mg base CX0 1 _ fd_is_tree_record ["value"] (spTree K) := ok_tree (F := F_is_tree_record) (T := T) (R := R)
  have G_record_of : Fg P w K mg base (CX P w) 9 _ fd_record_of ["fact", "deed", "at", "of", "until"] (spRecOf K) := ok_recOf (F := F_record_of) (T := T) (N_Node := N_Node_7) (N_Name := N_Name_7) (N_Chunk := N_Chunk_7) (N_Keep := N_Keep_7)
  have C_is_tree_record_1 : Cal P w K mg base CX0 1 "is_tree_record" ["value"] (spTree K) := ⟨_, fd_is_tree_record, G_is_tree_record.le (by omega), g_is_tree_record, F_is_tree_record.kp, F_is_tree_record.bindsN fun _ _ _ _ _ _ us hl => match us, hl with | [_], _ => rfl⟩
  have C_record_of_9 : Cal P w K mg base (CX P w) 9 "record_of" ["fact", "deed", "at", "of", "until"] (spRecOf K) := ⟨_, fd_record_of, G_record_of.le (by omega), g_record_of, F_record_of.kp, binds_full F_record_of fun _ _ _ _ _ _ _ us its hl hi => match us, its, hl, hi with | [_, _, _, _, _], [_], _, _ => ⟨_, rfl, rfl⟩⟩
  have G_moved : Fg P w K mg base CX0 10 _ fd_moved ["record", "until"] (spMoved K) := ok_moved (F := F_moved) (T := T) (R := R) (C_is_tree_record := C_is_tree_record_1) (C_record_of := C_record_of_9) (M_fact := all_FctM)
  have G__law_told : Fg P w K mg base CX0 1 _ fd__law_told ["_law_thing"] (spTold K) := ok_told (F := F__law_told) (T := T) (R := R)
  have G_octets_telling : Fg P w K mg base CX0 1 _ fd_octets_telling ["number", "count"] spTell := ok_tell (F := F_octets_telling) (T := T)
  have G__filled : Fg P w K mg base CX0 1 _ fd__filled ["octets", "count"] spFilled := ok_filled (F := F__filled) (T := T)
  have G__octets_of_name : Fg P w K mg base CX0 1 _ fd__octets_of_name ["name"] spNmO := ok_nmO (F := F__octets_of_name) (T := T)
  have C_octets_telling_1 : Cal P w K mg base CX0 1 "octets_telling" ["number", "count"] spTell := ⟨_, fd_octets_telling, G_octets_telling.le (by omega), g_octets_telling, F_octets_telling.kp, F_octets_telling.bindsN fun _ _ _ _ _ _ us hl => match us, hl with | [_, _], _ => rfl⟩
  have C__octets_of_name_1 : Cal P w K mg base CX0 1 "_octets_of_name" ["name"] spNmO := ⟨_, fd__octets_of_name, G__octets_of_name.le (by omega), g__octets_of_name, F__octets_of_name.kp, F__octets_of_name.bindsN fun _ _ _ _ _ _ us hl => match us, hl with | [_], _ => rfl⟩
  have G__octets_of_fact : Fg P w K mg base CX0 2 _ fd__octets_of_fact ["fact"] spFacO := ok_facO (F := F__octets_of_fact) (T := T) (C_octets_telling := C_octets_telling_1) (C__octets_of_name := C__octets_of_name_1)
  have C__filled_1 : Cal P w K mg base CX0 1 "_filled" ["octets", "count"] spFilled := ⟨_, fd__filled, G__filled.le (by omega), g__filled, F__filled.kp, F__filled.bindsN fun _ _ _ _ _ _ us hl => match us, hl with | [_, _], _ => rfl⟩
  have C__octets_of_fact_2 : Cal P w K mg base CX0 2 "_octets_of_fact" ["fact"] spFacO := ⟨_, fd__octets_of_fact, G__octets_of_fact.le (by omega), g__octets_of_fact, F__octets_of_fact.kp, F__octets_of_fact.bindsN fun _ _ _ _ _ _ us hl => match us, hl with | [_], _ => rfl⟩
  have G_written : Fg P w K mg base CX0 3 _ fd_written ["record"] (spWr K) := ok_wr (F := F_written) (T := T) (R := R) (FD := FD) (C_octets_telling := C_octets_telling_1) (C_is_tree_record := C_is_tree_record_1) (C__filled := C__filled_1) (C__octets_of_fact := C__octets_of_fact_2) (M_fact := all_FctM)
  have G__law_digits : Fg P w K mg base CX0 1 _ fd__law_digits ["_law_number_here", "_law_count"] spDig := ok_digits (F := F__law_digits) (T := T)
  have C__law_digits_1 : Cal P w K mg base CX0 1 "_law_digits" ["_law_number_here", "_law_count"] spDig := ⟨_, fd__law_digits, G__law_digits.le (by omega), g__law_digits, F__law_digits.kp, F__law_digits.bindsN fun _ _ _ _ _ _ us hl => match us, hl with | [_, _], _ => rfl⟩
  have G__law_octets : Fg P w K mg base CX0 2 _ fd__law_octets ["_law_row"] spLOct := ok_loct (F := F__law_octets) (T := T) (C__law_digits := C__law_digits_1)
  have all_EqR : EqR P w K mg base := six (eqc_of RB (by decide) (He.meth_ok (c.fact 145 (f := .meth "Head" "__eq__") rfl)) (G_Head____eq__.le (by omega)) (F_Head____eq__.bindsN fun _ _ _ _ _ _ us hl => match us, hl with | [_, _], _ => rfl)) (eqc_of RB (by decide) (He.meth_ok (c.fact 146 (f := .meth "Seal" "__eq__") rfl)) (G_Seal____eq__.le (by omega)) (F_Seal____eq__.bindsN fun _ _ _ _ _ _ us hl => match us, hl with | [_, _], _ => rfl)) (eqc_of RB (by decide) (He.meth_ok (c.fact 151 (f := .meth "Node" "__eq__") rfl)) (G_Node____eq__.le (by omega)) (F_Node____eq__.bindsN fun _ _ _ _ _ _ us hl => match us, hl with | [_, _], _ => rfl)) (eqc_of RB (by decide) (He.meth_ok (c.fact 152 (f := .meth "Name" "__eq__") rfl)) (G_Name____eq__.le (by omega)) (F_Name____eq__.bindsN fun _ _ _ _ _ _ us hl => match us, hl with | [_, _], _ => rfl)) (eqc_of RB (by decide) (He.meth_ok (c.fact 153 (f := .meth "Chunk" "__eq__") rfl)) (G_Chunk____eq__.le (by omega)) (F_Chunk____eq__.bindsN fun _ _ _ _ _ _ us hl => match us, hl with | [_, _], _ => rfl)) (eqc_of RB (by decide) (He.meth_ok (c.fact 154 (f := .meth "Keep" "__eq__") rfl)) (G_Keep____eq__.le (by omega)) (F_Keep____eq__.bindsN fun _ _ _ _ _ _ us hl => match us, hl with | [_, _], _ => rfl))
  have C_moved_10 : Cal P w K mg base CX0 10 "moved" ["record", "until"] (spMoved K) := ⟨_, fd_moved, G_moved.le (by omega), g_moved, F_moved.kp, F_moved.bindsN fun _ _ _ _ _ _ us hl => match us, hl with | [_, _], _ => rfl⟩
  have CK_moved_0_until_record_10 : CalK P w K mg base CX0 10 "moved" ["record", "until"] 0 ["until", "record"] g21 g21V (spMoved K) := ⟨_, fd_moved, G_moved.le (by omega), g_moved, F_moved.kp, kb_of F_moved (fun _ r => .cons (vals_getD r 1) (.cons (vals_getD r 0) (.nil))) fun _ _ _ _ _ _ us ws l1 l2 => match us, ws, l1, l2 with | [], [_, _], _, _ => rfl⟩
  have C__law_told_1 : Cal P w K mg base CX0 1 "_law_told" ["_law_thing"] (spTold K) := ⟨_, fd__law_told, G__law_told.le (by omega), g__law_told, F__law_told.kp, F__law_told.bindsN fun _ _ _ _ _ _ us hl => match us, hl with | [_], _ => rfl⟩
  have C_written_3 : Cal P w K mg base CX0 3 "written" ["record"] (spWr K) := ⟨_, fd_written, G_written.le (by omega), g_written, F_written.kp, F_written.bindsN fun _ _ _ _ _ _ us hl => match us, hl with | [_], _ => rfl⟩
  have C__law_made_9 : Cal P w K mg base CX0 9 "_law_made" ["_law_row"] (spMade K) := ⟨_, fd__law_made, G__law_made.le (by omega), g__law_made, F__law_made.kp, F__law_made.bindsN fun _ _ _ _ _ _ us hl => match us, hl with | [_], _ => rfl⟩
  have C__law_octets_2 : Cal P w K mg base CX0 2 "_law_octets" ["_law_row"] spLOct := ⟨_, fd__law_octets, G__law_octets.le (by omega), g__law_octets, F__law_octets.kp, F__law_octets.bindsN fun _ _ _ _ _ _ us hl => match us, hl with | [_], _ => rfl⟩
  have G__law_moved_right : Fg P w K mg base CX0 11 _ fd__law_moved_right ["_law_box_here", "_law_thing", "_law_row"] (spMvR K) := ok_mvR (F := F__law_moved_right) (T := T) (hd := hd) (EE := all_EqR) (C__law_until := C__law_until_3) (C_moved := C_moved_10) (CK_moved_0_until_record := CK_moved_0_until_record_10) (C__law_told := C__law_told_1) (C_written := C_written_3) (C__law_made := C__law_made_9) (C__law_octets := C__law_octets_2)
  have G__law_value : Fg P w K mg base CX0 1 _ fd__law_value ["_law_octets_here"] (spNumT K) := ok_value (F := F__law_value) (T := T)
  have G__law_word : Fg P w K mg base CX0 1 _ fd__law_word ["_law_octets_here", "_law_count"] spWord := ok_word (F := F__law_word) (T := T)
  have G__law_good : Fg P w K mg base CX0 1 _ fd__law_good ["_law_row"] spGd := ok_good (F := F__law_good) (T := T)
  have C__law_value_1 : Cal P w K mg base CX0 1 "_law_value" ["_law_octets_here"] (spNumT K) := ⟨_, fd__law_value, G__law_value.le (by omega), g__law_value, F__law_value.kp, F__law_value.bindsN fun _ _ _ _ _ _ us hl => match us, hl with | [_], _ => rfl⟩
  have C__law_word_1 : Cal P w K mg base CX0 1 "_law_word" ["_law_octets_here", "_law_count"] spWord := ⟨_, fd__law_word, G__law_word.le (by omega), g__law_word, F__law_word.kp, F__law_word.bindsN fun _ _ _ _ _ _ us hl => match us, hl with | [_, _], _ => rfl⟩
  have C__law_good_1 : Cal P w K mg base CX0 1 "_law_good" ["_law_row"] spGd := ⟨_, fd__law_good, G__law_good.le (by omega), g__law_good, F__law_good.kp, F__law_good.bindsN fun _ _ _ _ _ _ us hl => match us, hl with | [_], _ => rfl⟩
  have G__law_read : Fg P w K mg base CX0 3 _ fd__law_read ["_law_octets_here"] spRd := ok_rd (F := F__law_read) (T := T) (C__law_value := C__law_value_1) (C__law_word := C__law_word_1) (C__law_good := C__law_good_1) (C__law_octets := C__law_octets_2)
  have G_number_told_by : Fg P w K mg base CX0 1 _ fd_number_told_by ["octets"] (spNumT K) := ok_numT (F := F_number_told_by) (T := T)
  have G__seeming_letter : Fg P w K mg base CX0 1 _ fd__seeming_letter ["octet"] spLt := ok_lt (F := F__seeming_letter) (T := T)
  have C__seeming_letter_1 : Cal P w K mg base CX0 1 "_seeming_letter" ["octet"] spLt := ⟨_, fd__seeming_letter, G__seeming_letter.le (by omega), g__seeming_letter, F__seeming_letter.kp, F__seeming_letter.bindsN fun _ _ _ _ _ _ us hl => match us, hl with | [_], _ => rfl⟩
  have G__seeming_name : Fg P w K mg base CX0 2 _ fd__seeming_name ["octets"] spSN := ok_sn (F := F__seeming_name) (T := T) (C__seeming_letter := C__seeming_letter_1)
  have C_number_told_by_1 : Cal P w K mg base CX0 1 "number_told_by" ["octets"] (spNumT K) := ⟨_, fd_number_told_by, G_number_told_by.le (by omega), g_number_told_by, F_number_told_by.kp, F_number_told_by.bindsN fun _ _ _ _ _ _ us hl => match us, hl with | [_], _ => rfl⟩
  have C__seeming_name_2 : Cal P w K mg base CX0 2 "_seeming_name" ["octets"] spSN := ⟨_, fd__seeming_name, G__seeming_name.le (by omega), g__seeming_name, F__seeming_name.kp, F__seeming_name.bindsN fun _ _ _ _ _ _ us hl => match us, hl with | [_], _ => rfl⟩
  have G__seeming_fact : Fg P w K mg base CX0 3 _ fd__seeming_fact ["kind", "octets"] spSeemF := ok_seemF (F := F__seeming_fact) (T := T) (FD := FD) (C_number_told_by := C_number_told_by_1) (C__seeming_name := C__seeming_name_2)
  have C__seeming_fact_3 : Cal P w K mg base CX0 3 "_seeming_fact" ["kind", "octets"] spSeemF := ⟨_, fd__seeming_fact, G__seeming_fact.le (by omega), g__seeming_fact, F__seeming_fact.kp, F__seeming_fact.bindsN fun _ _ _ _ _ _ us hl => match us, hl with | [_, _], _ => rfl⟩
  have G__seeming_record : Fg P w K mg base (CX P w) 10 _ fd__seeming_record ["octets"] (spSeemR K) := ok_seemR (F := F__seeming_record) (T := T) (C_number_told_by := C_number_told_by_1) (C__seeming_fact := C__seeming_fact_3) (N_Head := N_Head_7) (N_Seal := N_Seal_7) (C_record_of := C_record_of_9)
  have C__seeming_record_10 : Cal P w K mg base (CX P w) 10 "_seeming_record" ["octets"] (spSeemR K) := ⟨_, fd__seeming_record, G__seeming_record.le (by omega), g__seeming_record, F__seeming_record.kp, F__seeming_record.bindsN fun _ _ _ _ _ _ us hl => match us, hl with | [_], _ => rfl⟩
  have G_record_told_by : Fg P w K mg base CX0 11 _ fd_record_told_by ["octets"] (spRecT K) := ok_recT (F := F_record_told_by) (T := T) (E_InvalidNumber := E_InvalidNumber) (E_InvalidName := E_InvalidName) (xN := xN) (xM := xM) (C__seeming_record := C__seeming_record_10) (C_written := C_written_3)
  have C_record_told_by_11 : Cal P w K mg base CX0 11 "record_told_by" ["octets"] (spRecT K) := ⟨_, fd_record_told_by, G_record_told_by.le (by omega), g_record_told_by, F_record_told_by.kp, F_record_told_by.bindsN fun _ _ _ _ _ _ us hl => match us, hl with | [_], _ => rfl⟩
  have G_read_record : Fg P w K mg base CX0 12 _ fd_read_record ["data"] (spRead K) := ok_read (F := F_read_record) (T := T) (C_is_octets_of := C_is_octets_of_3) (C_record_told_by := C_record_told_by_11)
  have C__law_read_3 : Cal P w K mg base CX0 3 "_law_read" ["_law_octets_here"] spRd := ⟨_, fd__law_read, G__law_read.le (by omega), g__law_read, F__law_read.kp, F__law_read.bindsN fun _ _ _ _ _ _ us hl => match us, hl with | [_], _ => rfl⟩
  have C_read_record_12 : Cal P w K mg base CX0 12 "read_record" ["data"] (spRead K) := ⟨_, fd_read_record, G_read_record.le (by omega), g_read_record, F_read_record.kp, F_read_record.bindsN fun _ _ _ _ _ _ us hl => match us, hl with | [_], _ => rfl⟩
  have CK_read_record_0_data_12 : CalK P w K mg base CX0 12 "read_record" ["data"] 0 ["data"] g1 g1V (spRead K) := ⟨_, fd_read_record, G_read_record.le (by omega), g_read_record, F_read_record.kp, kb_of F_read_record (fun _ r => .cons (vals_getD r 0) (.nil)) fun _ _ _ _ _ _ us ws l1 l2 => match us, ws, l1, l2 with | [], [_], _, _ => rfl⟩
  have G__law_read_right : Fg P w K mg base CX0 13 _ fd__law_read_right ["_law_box_here", "_law_octets_here"] spRdR := ok_rdR (F := F__law_read_right) (T := T) (hd := hd) (EE := all_EqR) (C__law_read := C__law_read_3) (C__law_take := C__law_take_1) (C_read_record := C_read_record_12) (CK_read_record_0_data := CK_read_record_0_data_12) (C__law_told := C__law_told_1) (C_written := C_written_3) (C__law_made := C__law_made_9)
  have G__law_field : Fg P w K mg base CX0 2 _ fd__law_field ["_law_box_here", "_law_octets_here"] spField := ok_field (F := F__law_field) (T := T) (C__law_take := C__law_take_1)
  have C__law_field_2 : Cal P w K mg base CX0 2 "_law_field" ["_law_box_here", "_law_octets_here"] spField := ⟨_, fd__law_field, G__law_field.le (by omega), g__law_field, F__law_field.kp, F__law_field.bindsN fun _ _ _ _ _ _ us hl => match us, hl with | [_, _], _ => rfl⟩
  have G__law_spoilt : Fg P w K mg base CX0 3 _ fd__law_spoilt ["_law_box_here", "_law_octets_here"] spSpoilt := ok_spoilt (F := F__law_spoilt) (T := T) (C__law_take := C__law_take_1) (C__law_octet := C__law_octet_2) (C__law_field := C__law_field_2)
  have C__law_drawn_4 : Cal P w K mg base CX0 4 "_law_drawn" ["_law_box_here", "_law_kind"] spDrw := ⟨_, fd__law_drawn, G__law_drawn.le (by omega), g__law_drawn, F__law_drawn.kp, F__law_drawn.bindsN fun _ _ _ _ _ _ us hl => match us, hl with | [_, _], _ => rfl⟩
  have C__law_moved_right_11 : Cal P w K mg base CX0 11 "_law_moved_right" ["_law_box_here", "_law_thing", "_law_row"] (spMvR K) := ⟨_, fd__law_moved_right, G__law_moved_right.le (by omega), g__law_moved_right, F__law_moved_right.kp, F__law_moved_right.bindsN fun _ _ _ _ _ _ us hl => match us, hl with | [_, _, _], _ => rfl⟩
  have C__law_read_right_13 : Cal P w K mg base CX0 13 "_law_read_right" ["_law_box_here", "_law_octets_here"] spRdR := ⟨_, fd__law_read_right, G__law_read_right.le (by omega), g__law_read_right, F__law_read_right.kp, F__law_read_right.bindsN fun _ _ _ _ _ _ us hl => match us, hl with | [_, _], _ => rfl⟩
  have C__law_spoilt_3 : Cal P w K mg base CX0 3 "_law_spoilt" ["_law_box_here", "_law_octets_here"] spSpoilt := ⟨_, fd__law_spoilt, G__law_spoilt.le (by omega), g__law_spoilt, F__law_spoilt.kp, F__law_spoilt.bindsN fun _ _ _ _ _ _ us hl => match us, hl with | [_, _], _ => rfl⟩
  have G__law_right : Fg P w K mg base CX0 14 _ fd__law_right ["_law_box_here"] spRight := ok_right (F := F__law_right) (T := T) (hd := hd) (C__law_take := C__law_take_1) (C__law_drawn := C__law_drawn_4) (C__law_made := C__law_made_9) (C__law_moved_right := C__law_moved_right_11) (C_written := C_written_3) (C__law_octets := C__law_octets_2) (C__law_read_right := C__law_read_right_13) (C__law_spoilt := C__law_spoilt_3) (C__law_told := C__law_told_1)
  have G__law_box : Fg P w K mg base CX0 1 _ fd__law_box ["_law_great"] spBox := ok_box (F := F__law_box) (T := T)
  have G__law_cell : Fg P w K mg base CX0 1 _ fd__law_cell ["_law_script", "_law_k"] (spCell K) := ok_cell (F := F__law_cell) (T := T)
  have C__law_right_14 : Cal P w K mg base CX0 14 "_law_right" ["_law_box_here"] spRight := ⟨_, fd__law_right, G__law_right.le (by omega), g__law_right, F__law_right.kp, F__law_right.bindsN fun _ _ _ _ _ _ us hl => match us, hl with | [_], _ => rfl⟩
  have C__law_box_1 : Cal P w K mg base CX0 1 "_law_box" ["_law_great"] spBox := ⟨_, fd__law_box, G__law_box.le (by omega), g__law_box, F__law_box.kp, F__law_box.bindsN fun _ _ _ _ _ _ us hl => match us, hl with | [_], _ => rfl⟩
  have C__law_cell_1 : Cal P w K mg base CX0 1 "_law_cell" ["_law_script", "_law_k"] (spCell K) := ⟨_, fd__law_cell, G__law_cell.le (by omega), g__law_cell, F__law_cell.kp, F__law_cell.bindsN fun _ _ _ _ _ _ us hl => match us, hl with | [_, _], _ => rfl⟩
  exact ok_law (F := F_law) (T := T) (C__law_right := C__law_right_14) (C__law_box := C__law_box_1) (C__law_cell := C__law_cell_1)
end K12
open PySem PySem.W PySem.Calls PyProof.Rows
theorem PySem.Challenge.cw_onewaybits_k12_octets_read_as_records_holds : PySem.Challenge.rw_onewaybits_k12_octets_read_as_records.Holds := by
  w_on; o_law
  refine HandSHeadRun.head_any (r := OpenLaw.row PySem.Challenge.rw_onewaybits_k12_octets_read_as_records) (q := view (OpenLaw.row PySem.Challenge.rw_onewaybits_k12_octets_read_as_records).prog [90]) (H := K12.hk) (ob := K12.ob) (M := 30000) (loose := K12.lns) (d := HandSHeadRun.topDef (OpenLaw.row PySem.Challenge.rw_onewaybits_k12_octets_read_as_records).prog 90) (kwd := []) K12.ob_eq
    (by kernel_rfl) (fun s => by kernel_rfl) K12.run (by kernel_rfl) (by kernel_rfl) (by kernel_rfl) (by rfl) (by first | assumption | decide +kernel) (by decide +kernel) ⟨rfl, rfl, rfl, rfl, rfl, by decide +kernel⟩ ?hw ?hc
  case hw => exact K12.yw
  case hc =>
    refine VB.law_walkD (l := PySem.Challenge.rw_onewaybits_k12_octets_read_as_records) (n := 63) (k := 15) (x := "_law_script") (CX := L2.CX0) rfl (by decide) (by kernel_rfl) ⟨⟨rfl, by decide, by decide⟩, rfl⟩ ?F (fun _ _ _ _ z => z)
    intro w mg fa h Y G hmg0 _hd
    obtain ⟨K, KX, c⟩ := Y
    have hmg : mg ("law" : PySem.Str) = some (.ref fa) := by
      have e : (HandSHeadRun.topDef (OpenLaw.row PySem.Challenge.rw_onewaybits_k12_octets_read_as_records).prog 90).name = ("law" : PySem.Str) := by kernel_rfl
      rw [← e]
      exact hmg0
    obtain ⟨fd, hb, hF⟩ := K12.facts (P := (PySem.Challenge.rw_onewaybits_k12_octets_read_as_records).prog) (w := w) KX G hmg c
    exact ⟨K, fd, (K12.spLaw K), KX, hb, fun H a ns hl _ hS => ⟨a, ns, rfl, hS, by omega, fun _ _ => rfl⟩, hF⟩
