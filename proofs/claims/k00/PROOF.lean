import PyProof.Rows.All
import Wide.All
import OpenK.AllK
import Wide.FinOn
import HandS.ForMost
import HandS.Evl
import HandS.IsInst
import HandS.Walk
import HandS.Conv
import HandS.TupMul
import HandS.WideBits
import HandS.Wide
import HandS.Defaults
import HandS.HeadHook2
import HandS.RaiseMore
import HandS.Zip
import HandS.Style
import HandS.SetFor
import HandS.Text
import PyProof.ReprText
import PyProof.Rows.StrJoinMade
import KE.KxField
import HandS.FStr
import HandS.Zip0
import KE.BitLaws
import HandS.Exc
import HandS.ExcOwn
import HandS.ExcInit
import HandS.ExcField
import HandS.TryMany
import HandS.Small
import HandS.TupAny
import HandS.RevRange
import PyProof.CallFns
import HandS.TryOnly
import HandS.MakeKwOnly
import PyProof.AutoSeq1
import PyProof.Rows.StrOr
import PyProof.ReprNest
import PyProof.ReprRoads
import PyProof.ReprDict
import PyProof.InstEq
import HandS.ExcIs
import KE.KExcIs
import HandS.Deep
import HandS.ExcCtx
import HandS.ExcValue
import HandS.Head0
import HandS.Head1
import HandS.Head2
import HandS.HeadEnd
import HandS.HeadHook1
import HandS.HeadHook3
import HandS.HeadHook4
import HandS.HotCalls
import HandS.SuiteRaise
import KE.KTryMore
import PySem.Challenge.RW_onewaybits_k00_errors
set_option Elab.async false
set_option linter.all false
set_option maxRecDepth 100000
set_option maxHeartbeats 4000000
namespace VB
open PySem PySem.Spec PyProof.Rows L2

/-! ## 1. Room, and no display under way -/
structure Rm (k : Nat) (A : Around) : Prop where
  rm : Room k A
  gd : A.guards = some []
theorem Rm.le {j k : Nat} {A : Around} (r : Rm k A) (h : j ≤ k := by omega) : Rm j A := ⟨r.rm.mono h, r.gd⟩
theorem Rm.down {k : Nat} {A : Around} (r : Rm (k + 1) A) (e : Env) : Rm k (A.deeper e) := ⟨r.rm.deeper e, r.gd⟩

section
variable {P : Program} {w : World} {K : PySem.W.Frag} {mg : Str → Option Value} {base : Heap} {CX : CXT} {k : Nat}

/-- a def's promise, kept wherever there is room and no display is under way -/
structure Fg (P : Program) (w : World) (K : PySem.W.Frag) (mg : Str → Option Value) (base : Heap)
    (CX : CXT) (k : Nat) (f : Addr) (fd : FuncData) (ps : List Str) (sp : Sp) : Prop where
  cnt : ∀ vs H Q E, sp vs H Q E → vs.length = ps.length
  go : ∀ (A : Around) (outer : List Env) (s : Shared) (H : Hp) (args : Args) (us : List Value) (vs : List V)
    (Q : VK) (E : XK), Rm k A → Env0 P w K mg base A outer s H → BindsTo s fd args (ps.zip us) →
    Vals vs us → sp vs H Q E → codeAny (model P w) A (.call (.ref f) args) (CR CX outer P w H s Q E) s

theorem Fg.le {j : Nat} {f : Addr} {fd : FuncData} {ps : List Str} {sp : Sp}
    (F : Fg P w K mg base CX j f fd ps sp) (h : j ≤ k) : Fg P w K mg base CX k f fd ps sp :=
  ⟨F.cnt, fun A o s H a us vs Q E r => F.go A o s H a us vs Q E (r.le h)⟩

/-- a def by its body -/
theorem fg_of {x qual : Str} {params : Arguments} {body : List Stmt} {scope : Scope} {dvs : List V}
    {kws : List (Str × V)} {f : Addr} {fd : FuncData} {N ps : List Str} {sp : Sp}
    (F : FunD K x qual params body scope dvs kws f fd) (S : FnScope N ps scope)
    (cnt : ∀ vs H Q E, sp vs H Q E → vs.length = ps.length)
    (hb : ∀ (cdv : Value) (A : Around) (outer : List Env) (s : Shared) (H : Hp) (vs : List V) (Q : VK) (E : XK),
      Rm k (A.deeper (envOfC qual scope s.heap.objs.size f cdv)) → sp vs H Q E →
      ∃ t, PSs (cxOf CX P w K mg base N qual scope f cdv A outer s H E) body t ∧
        t { nx := fun _ H' => Q .non H', rt := Q } (start N vs) H) :
    Fg P w K mg base CX (k + 1) f fd ps sp := by
  obtain ⟨oc, od, dV, kV, doc, pm, an, cdv, ct, osl, rfl, lk, hcd, _, _⟩ := F.ex
  refine ⟨cnt, ?_⟩
  intro A outer s H args us vs Q E hr e0 hbind hv hsp
  have kin : K.In s.heap := e0.mod.kin.keeps (fun b o e => (e0.bs b o e).1)
  have nol : s.heap.NoLimit := e0.mod.nolimit.keeps (fun b o e => (e0.bs b o e).1)
  have hk : ∀ y ∈ ps.zip us, scope.names.lookup y.1 = some .local ∨
      (scope.names.lookup y.1 = some .cell ∧
        ((cellsFrom (s.heap.objs.size + 1) scope.names []).lookup y.1).isSome = true) := by
    rintro ⟨n, v⟩ hy
    cases S.par n (List.of_mem_zip hy).1 with
    | inl q => exact .inl q
    | inr q => exact .inr ⟨q, PySem.W.cellsFrom_some _ _ _ (.inl q)⟩
  refine codeAny_call_function hr.rm.depth (kin _ _ lk) rfl S.co S.gen rfl
    (PySem.W.codeRec_of kin hcd) (hbind _ _ _ _ (wpAny_newFunctionEnv_cells S.kind hk ?_))
  intro env he s1 x
  subst he
  refine ⟨nol.keeps x.toInCall.keep, codeAny_func ?_⟩
  obtain ⟨t, ht, hq⟩ := hb cdv A outer s H vs Q E (hr.down _) hsp
  have I := inv_start (CX := CX) (E := E) S hr.rm.hd e0 (cnt _ _ _ _ hsp) hv x
  refine wpAny_mono (ht.run [] s1 (start N vs) H _ I hq) ?_ (fun e s' hs => hs)
  intro fl s' hs
  cases fl with
  | ret u =>
    obtain ⟨v, σ', H', J, rv, q⟩ := hs
    exact ⟨v, H', J.os, J.bare, J.base, J.hok, rv, q⟩
  | next =>
    obtain ⟨σ', H', J, q⟩ := hs
    exact ⟨.non, H', J.os, J.bare, J.base, J.hok, rfl, q⟩
  | brk => exact (hs.choose_spec.choose_spec.2 : False).elim
  | cont => exact (hs.choose_spec.choose_spec.2 : False).elim

/-! ## 2. Calls by name -/
/-- a def of the module, told by its name -/
structure Cal (P : Program) (w : World) (K : PySem.W.Frag) (mg : Str → Option Value) (base : Heap)
    (CX : CXT) (k : Nat) (x : Str) (ps : List Str) (sp : Sp) : Prop where
  ex : ∃ (f : Addr) (fd : FuncData), Fg P w K mg base CX k f fd ps sp ∧ mg x = some (.ref f) ∧
    PySem.W.keepIn K (.ref f) = true ∧ Binds K fd ps []
/-- .. called with keywords -/
structure CalK (P : Program) (w : World) (K : PySem.W.Frag) (mg : Str → Option Value) (base : Heap)
    (CX : CXT) (k : Nat) (x : Str) (ps : List Str) (n : Nat) (ks : List Str)
    (g : List Value → List Value → List Value) (gV : List V → List V → List V) (sp : Sp) : Prop where
  ex : ∃ (f : Addr) (fd : FuncData), Fg P w K mg base CX k f fd ps sp ∧ mg x = some (.ref f) ∧
    PySem.W.keepIn K (.ref f) = true ∧ KBn K fd ps n ks g gV
end

section
variable {X : Cx} {CX : CXT} {k n : Nat} {ps ks : List Str} {sp : Sp} {E : XK} {x : Str} {p pos : Pos}
  {e : Expr} {es : List Expr} {kws : List Keyword} {t tk : TA}
  {g : List Value → List Value → List Value} {gV : List V → List V → List V}

/-- the end of a call, where the caller stands -/
theorem back {pins : List (Addr × Obj)} {σ : L2.St} {H : Hp} {s s' : Shared} {Q : VK} {E : XK} {r : Result}
    (hx : Passes CX X E) (I : Inv X pins σ H s) (hq : CR CX X.stack X.prog X.w H s Q E r s') :
    match r with
    | .ok (.ret u) => EP X pins σ Q u s'
    | .ok _ => False
    | .error e => X.xe e s' := by
  cases r with
  | error e => exact hx pins σ H s e s' I hq
  | ok fl =>
    cases fl with
    | ret u => exact I.after hq
    | next => exact hq
    | brk => exact hq
    | cont => exact hq

theorem enter {f : Addr} {fd : FuncData} {pins : List (Addr × Obj)} {σ : L2.St} {H : Hp} {s : Shared} {Q : VK}
    {args : Args} {us : List Value} {vs : List V} (F : Fg X.prog X.w X.K X.mg X.base CX k f fd ps sp)
    (hr : Rm k X.A) (hx : Passes CX X E) (I : Inv X pins σ H s) (hb : BindsTo s fd args (ps.zip us))
    (r : Vals vs us) (h : sp vs H Q E) :
    wpAny (model X.prog X.w) X.A (call (.ref f) args.pos args.kw) (EP X pins σ Q) X.xe s := by
  refine wpAny_call (codeAny_mono (F.go X.A X.stack s H args us vs Q E hr I.env0 hb r h) ?_)
  intro r s' hq
  have z := back hx I hq
  cases r with
  | error e => exact z
  | ok fl =>
    cases fl with
    | ret u => exact z
    | next => exact z.elim
    | brk => exact z.elim
    | cont => exact z.elim

theorem pe_cal (C : Cal X.prog X.w X.K X.mg X.base CX k x ps sp) (hr : Rm k X.A) (hx : Passes CX X E)
    (ha : PA X (e :: es) t) (hg : Gl X x := by rfl) (hdb : (x == ("__debug__" : Str)) = false := by decide)
    (he : starEach (e :: es) X.env = (false, eval e X.env) :: starEach es X.env := by rfl)
    (hpl : (backTo pos (starEach es X.env)).any (·.1) = false := by rfl) :
    PE X (.Call (.Name x p) (e :: es) [] pos) (tCall sp [] E t) := by
  obtain ⟨f, fd, F, hm, hk, hb⟩ := C.ex
  constructor
  intro pins s σ H Q I h
  refine wpAny_Call_Name_kw (ld_glob I hg hm ?_ hdb)
  refine PySem.W.callWith_K (h₀ := X.base) I.ok.mod.kin hk (thn (ha.run pos pins s σ H _ I h) ?_) he hpl
  rintro us s1 ⟨vs, H1, I1, r, q⟩
  have q : sp (vs ++ []) H1 Q E := q
  rw [List.append_nil] at q
  have l : (us ++ []).length = ps.length := by
    rw [List.append_nil, ← r.length]
    exact F.cnt _ _ _ _ q
  have b := hb s1 us I1.kIn l
  rw [List.append_nil] at b
  exact ⟨I1.kIn, enter (args := ⟨us, []⟩) F hr hx I1 b r q⟩

theorem pe_cal0 (C : Cal X.prog X.w X.K X.mg X.base CX k x ps sp) (hr : Rm k X.A) (hx : Passes CX X E)
    (hg : Gl X x := by rfl) (hdb : (x == ("__debug__" : Str)) = false := by decide) :
    PE X (.Call (.Name x p) [] [] pos) (tCall sp [] E tNil) := by
  obtain ⟨f, fd, F, hm, hk, hb⟩ := C.ex
  constructor
  intro pins s σ H Q I h
  have q : sp [] H Q E := h
  refine wpAny_Call_Name_kw (ld_glob I hg hm ?_ hdb)
  refine PySem.W.callWith_K0 I.kIn hk ?_
  have b := hb s [] I.kIn (F.cnt _ _ _ _ q)
  exact enter (args := ⟨[], []⟩) F hr hx I b .nil q

/-- f(k = v, ..): no value by position -/
theorem pe_calk (C : CalK X.prog X.w X.K X.mg X.base CX k x ps 0 ks g gV sp) (hr : Rm k X.A) (hx : Passes CX X E)
    (hkw : PK X kws tk) (hg : Gl X x := by rfl)
    (hall : (backToKw pos (keywordEach kws X.env)).all (·.1.isSome) = true := by rfl)
    (hks : (backToKw pos (keywordEach kws X.env)).filterMap (·.1) = ks := by rfl)
    (hdb : (x == ("__debug__" : Str)) = false := by decide)
    (hpl : ((backTo pos (starEach [] X.env)).any (·.1) || (backToKw pos (keywordEach kws X.env)).any (·.1.isNone)) = false := by rfl) :
    PE X (.Call (.Name x p) [] kws pos) (tCallN 0 ks.length sp gV E tNil tk) := by
  obtain ⟨f, fd, F, hm, hk, hb⟩ := C.ex
  constructor
  intro pins s σ H Q I h
  refine wpAny_Call_Name_kw (ld_glob I hg hm ?_ hdb)
  have h : tk σ H fun zs H2 => ([] : List V).length = 0 ∧ zs.length = ks.length ∧ sp (gV [] zs) H2 Q E := h
  refine PySem.W.callWith_KW0 (h₀ := X.base) I.ok.mod.kin hk hall (thn (hkw.run pos pins s σ H _ I h) ?_) hpl
  rintro ws s2 ⟨zs, H2, I2, rz, _, l2, q2⟩
  refine ⟨I2.kIn, ?_⟩
  rw [hks]
  exact enter (args := ⟨[], ks.zip ws⟩) F hr hx I2
    (hb.to s2 [] ws I2.kIn rfl (rz.length.symm.trans l2)) (hb.rel .nil rz) q2
/-- f(e, .., k = v, ..) -/
theorem pe_calpk (C : CalK X.prog X.w X.K X.mg X.base CX k x ps n ks g gV sp) (hr : Rm k X.A) (hx : Passes CX X E)
    (ha : PA X (e :: es) t) (hkw : PK X kws tk) (hg : Gl X x := by rfl)
    (hall : (backToKw pos (keywordEach kws X.env)).all (·.1.isSome) = true := by rfl)
    (hks : (backToKw pos (keywordEach kws X.env)).filterMap (·.1) = ks := by rfl)
    (hdb : (x == ("__debug__" : Str)) = false := by decide)
    (he : starEach (e :: es) X.env = (false, eval e X.env) :: starEach es X.env := by rfl)
    (hpl : ((backTo pos (starEach (e :: es) X.env)).any (·.1) || (backToKw pos (keywordEach kws X.env)).any (·.1.isNone)) = false := by rfl) :
    PE X (.Call (.Name x p) (e :: es) kws pos) (tCallN n ks.length sp gV E t tk) := by
  obtain ⟨f, fd, F, hm, hk, hb⟩ := C.ex
  constructor
  intro pins s σ H Q I h
  refine wpAny_Call_Name_kw (ld_glob I hg hm ?_ hdb)
  refine PySem.W.callWith_KW (h₀ := X.base) I.ok.mod.kin hk hall (thn (ha.run pos pins s σ H _ I h) ?_) hpl he
  rintro us s1 ⟨vs, H1, I1, r, q⟩
  refine thn (hkw.run pos pins s1 σ H1 _ I1 q) ?_
  rintro ws s2 ⟨zs, H2, I2, rz, l1, l2, q2⟩
  refine ⟨I2.kIn, ?_⟩
  rw [hks]
  exact enter (args := ⟨us, ks.zip ws⟩) F hr hx I2
    (hb.to s2 us ws I2.kIn (r.length.symm.trans l1) (rz.length.symm.trans l2)) (hb.rel r rz) q2
end

/-! ## 3. The law's own call -/
theorem first_call {P : Program} {w : World} {K : PySem.W.Frag} {mg mb : Str → Option Value} {CX : CXT} {k : Nat}
    {fa a : Addr} {fd : FuncData} {x : Str} {sp : Sp} {s : Shared} {vs : List Value} {ns : List Int}
    (KX : K.In s.heap) (hns : s.heap.Ns mainGlobals mg) (hb : s.heap.Ns builtinsNs mb)
    (hbb : ∀ x : Str, x ≠ "__name__" → mb x = bootBuiltins x) (hlim : s.heap.NoLimit) (hg : s.gens = #[])
    (ha : s.heap.get? a = some { cls := .type "list", data := .seq vs.toArray }) (hi : IntsAre vs ns)
    (hl : ns.length ≤ sizeLine) (hr : Rm k callerA)
    (F : ∀ base : Heap, K.In base → base.Ns mainGlobals mg → Fg P w K mg base CX k fa fd [x] sp)
    (hbind : ∀ (s : Shared) (u : Value), BindsTo s fd ⟨[u], []⟩ [(x, u)])
    (hsp : ∀ H : Hp, Only H → SqL K H a (ns.map V.int) → sp [.ref a] H (fun v _ => v = .bl true) fun _ _ _ => False)
    (hCX : ∀ H e s', CX [] H s (fun _ _ _ => False) e s' → False) :
    codeAny (model P w) callerA (.call (.ref fa) ⟨[.ref a], []⟩)
      (fun r s' => r = .ok (.ret (.bool true)) ∧ OldK s.heap s'.heap ∧ s'.os = s.os ∧ AllBare s'.gens) s := by
  -- what is tracked at first: the script at most
  let o : Obj := { cls := .type "list", data := .seq vs.toArray }
  have main : ∀ H : Hp, (∀ b, H b = none ∨ (b = a ∧ H b = some (.frz o (.lst (ns.map V.int))) ∧ K.lookup a = none)) →
      SqL K H a (ns.map V.int) → HOk P w H s.heap → codeAny (model P w) callerA (.call (.ref fa) ⟨[.ref a], []⟩)
      (fun r s' => r = .ok (.ret (.bool true)) ∧ OldK s.heap s'.heap ∧ s'.os = s.os ∧ AllBare s'.gens) s := by
    intro H hH hS hok
    have dictFree : ∀ {b : Addr} {ob : Obj} {es : Array DictEntry} {ep : Nat}, s.heap.get? b = some ob →
        ob.data = .dict es ep → H b = none := by
      intro b ob es ep e d
      rcases hH b with q | ⟨rfl, q, _⟩
      · exact q
      · rw [ha] at e
        cases e
        exact nomatch d
    have nsB : ∀ {b : Addr} {m : Str → Option Value}, s.heap.Ns b m → (hidT s.heap H).Ns b m := by
      rintro b m ⟨ob, es, ep, e, d, r⟩
      exact ⟨ob, es, ep, hidT_get e (dictFree e d), d, r⟩
    have kB : K.In (hidT s.heap H) := by
      intro b ob e
      refine hidT_get (KX b ob e) ?_
      rcases hH b with q | ⟨rfl, _, q⟩
      · exact q
      · rw [e] at q
        cases q
    have lim' : (hidT s.heap H).NoLimit := by
      obtain ⟨mc, h1, h2⟩ := hlim
      exact ⟨mc, nsB h1, h2⟩
    have md : Mod K mg (hidT s.heap H) := ⟨kB, nsB hns, ⟨mb, nsB hb, hbb⟩, lim'⟩
    have nob : ∀ b ∈ frs ([] : List Env), H b = none := fun b hb => by cases hb
    have e0 : Env0 P w K mg (hidT s.heap H) callerA [] s H :=
      ⟨rfl, md, fun b ob e => of_hidT e, Nat.le_of_eq (hidT_size _ _), trivial, nob, hok, .of_eq hg⟩
    have oH : Only H := by
      intro b
      rcases hH b with q | ⟨_, q, _⟩
      · exact .inl q
      · exact .inr ⟨_, _, q⟩
    have run := (F _ kB (nsB hns)).go callerA [] s H ⟨[.ref a], []⟩ [.ref a] [.ref a] _ _ hr e0
      (hbind s (.ref a)) (.cons rfl .nil) (hsp H oH hS)
    refine codeAny_mono run ?_
    intro r s' h
    match r, h with
    | .error e, h => exact (hCX H e s' h).elim
    | .ok .next, h => exact False.elim h
    | .ok .brk, h => exact False.elim h
    | .ok .cont, h => exact False.elim h
    | .ok (.ret u), h =>
      obtain ⟨v, H', os, bare, un, hok', rv, q⟩ := h
      have q : v = .bl true := q
      subst q
      have ru : u = Value.bool true := rv
      subst ru
      refine ⟨rfl, OldK.of_keep ?_, os, bare⟩
      intro b ob e
      rcases hH b with q | ⟨_, q, _⟩
      · exact un.keep b ob e q (fun z => by cases z) (fun z => by cases z)
      · obtain ⟨e1, _⟩ := hok b _ q
        obtain ⟨e2, _⟩ := hok' b _ (un.frzs b o _ q)
        rw [e] at e1
        cases e1
        exact e2
  have rv := vals_ints hi
  cases hk : K.lookup a with
  | some ob =>
    have e := KX a ob hk
    rw [ha] at e
    cases e
    refine main (fun _ => none) (fun b => .inl rfl) (.inr ⟨_, vs.toArray, _, hk, rfl, rfl, rfl, ?_, by simpa using rv⟩) (fun b u z => by cases z)
    rw [List.size_toArray, hi.length]
    exact hl
  | none =>
    let H1 : Hp := fun b => if b = a then some (.frz o (.lst (ns.map V.int))) else none
    have at1 : H1 a = some (.frz o (.lst (ns.map V.int))) := if_pos rfl
    refine main H1 ?_ (.inl (.inr ⟨o, at1⟩)) ?_
    · intro b
      by_cases hb : b = a
      · subst hb
        exact .inr ⟨rfl, at1, hk⟩
      · exact .inl (if_neg hb)
    · intro b u z
      by_cases hb : b = a
      · subst hb
        rw [at1] at z
        cases z
        exact ⟨ha, by rw [List.length_map]; exact hl, vs, _, rv, ha⟩
      · have z' : H1 b = none := if_neg hb
        rw [z'] at z
        cases z

/-- the goal behind the head -/
theorem law_walk {l : PySem.W.OpenLaw} {n k : Nat} {q : Program} {loose : List Str} {XP : (Str → Option Value) → Heap → Prop}
    {YP : World → Heap → Prop} {d : DefRec} {CX : CXT} {x : Str}
    (hn : l.most = some n) (hn2 : n ≤ sizeLine) (hdf : d.params.defaults = []) (hr : Rm k callerA)
    (F : ∀ (w : World) (mg : Str → Option Value) (fa : Addr) (h : Heap), YP w h → h.Ns mainGlobals mg → mg d.name = some (.ref fa) →
      ∃ (K : PySem.W.Frag) (fd : FuncData) (sp : Sp), K.In h ∧ (∀ (s : Shared) (u : Value), BindsTo s fd ⟨[u], []⟩ [(x, u)]) ∧
        (∀ (H : Hp) (a : Addr) (ns : List Int), ns.length ≤ n → Only H → SqL K H a (ns.map V.int) →
          sp [.ref a] H (fun v _ => v = .bl true) fun _ _ _ => False) ∧
        ∀ base : Heap, K.In base → base.Ns mainGlobals mg → Fg l.prog w K mg base CX k fa fd [x] sp)
    (hCX : ∀ (H : Hp) (s : Shared) (e : Value) (s' : Shared), CX [] H s (fun _ _ _ => False) e s' → False) :
    PySem.W.WalkO q loose XP YP l.row.toRowW d [] (fun f vs => PySem.call f vs) := by
  refine Att.attach_call hn hdf ?_
  intro w s₀ s₁ mg mb fa o pm cd doc a vs ns G Y ho hd hcd hmg hobj hints hlen hg
  obtain ⟨K, fd, sp, KX, hb, hsp, hF⟩ := F w mg fa _ Y G.T.g hmg
  exact first_call KX G.T.g G.T.b G.T.builtins G.T.nolimit hg hobj hints (Nat.le_trans hlen hn2) hr hF hb
    (fun H hO hS => hsp H a ns hlen hO hS) (fun H e s' => hCX H s₁ e s')
end VB
namespace VB
open PySem PySem.Spec PyProof.Rows L2
mutual
theorem dp_noDict {K : PySem.W.Frag} {H : Hp} : ∀ {d : PyData} {v : V}, Dp K H v d → d.hasDict = false
  | .none, _, _ => by simp only [PyData.hasDict]
  | .bool _, _, _ => by simp only [PyData.hasDict]
  | .int _, _, _ => by simp only [PyData.hasDict]
  | .str _, _, _ => by simp only [PyData.hasDict]
  | .list ds, _, .lst _ h => by
    simp only [PyData.hasDict]
    exact dpAll_noDict h
  | .tuple ds, _, .tup _ h => by
    simp only [PyData.hasDict]
    exact dpAll_noDict h
  | .dict _, _, h => nomatch h
theorem dpAll_noDict {K : PySem.W.Frag} {H : Hp} : ∀ {ds : List PyData} {vs : List V}, DpAll K H vs ds → PyData.hasDictAll ds = false
  | [], _, _ => by simp only [PyData.hasDictAll]
  | d :: ds, _, .cons h t => by simp only [PyData.hasDictAll, dp_noDict h, dpAll_noDict t, Bool.or_self]
end
section
variable {X : Cx} {k : Nat}
/-- repr(x), x data of any depth without dicts -/
@[irreducible] def rRepr (K : PySem.W.Frag) : List V → Hp → VK → Prop := fun xs H Q => ∃ (a : Addr) (d : PyData), xs = [.ref a] ∧
  Dp K H (.ref a) d ∧ d.showable = true ∧ d.depth ≤ 60 ∧ d.shown.length ≤ sizeLine ∧ Q (.str d.shown) H
theorem call_repr (hr : Rm k X.A) : CallR X (.builtin "repr") (rRepr X.K) := by
  intro pins s σ H xs us Q I r h
  unfold rRepr at h
  obtain ⟨a, d, rfl, hd, hs, hdep, hl, q⟩ := h
  obtain ⟨u, rfl, ru⟩ := vals1 r
  obtain ⟨as, rd⟩ := Dp.reads I d _ u hd ru
  cases (show u = Value.ref a from ru)
  have hu := hr.rm.un
  refine repr_of_reads' rd hs (PyData.noDict_hsm (dp_noDict hd)) hr.gd (by omega) (fun _ _ e => e) ?_ hl
  intro h' u tk kp
  refine ⟨.str d.shown, H, ?_, ⟨u, rfl⟩, q⟩
  exact I.un (Un.kept kp) (I.hok.kept kp)
end
end VB
namespace VB
open PySem PySem.Spec PyProof.Rows L2
section
variable {X : Cx} {K : PySem.W.Frag}
def rAddU (K : PySem.W.Frag) : R2 := fun x y H Q => rI0 (fun i j => .int (i + j)) x y H Q ∨ (rCat x y H Q ∨ rCatT K x y H Q)
theorem u_add (hK : X.K = K := by rfl) : OpR X (binaryOp .Add) (rAddU K) := by
  subst hK
  exact op_add.or (op_cat.or op_catT)
def rMulU (K : PySem.W.Frag) : R2 := fun x y H Q => rI CMulX (fun i j => .int (i * j)) x y H Q ∨ (rRep x y H Q ∨ rRepT K x y H Q)
theorem u_mul (hK : X.K = K := by rfl) : OpR X (binaryOp .Mult) (rMulU K) := by
  subst hK
  exact op_mulX.or (op_rep.or op_repT)
def rEqU (K : PySem.W.Frag) : R2 := fun x y H Q => rEq x y H Q ∨ rEqD K x y H Q
theorem u_eq {k : Nat} (hr : Rm k X.A) (hK : X.K = K := by rfl) : OpR X (compareOp .Eq) (rEqU K) := by
  subst hK
  exact op_eq.or (op_eqD hr.rm.units)
def rNeU (K : PySem.W.Frag) : R2 := fun x y H Q => rNe x y H Q ∨ rNeD K x y H Q
theorem u_ne {k : Nat} (hr : Rm k X.A) (hK : X.K = K := by rfl) : OpR X (compareOp .NotEq) (rNeU K) := by
  subst hK
  exact op_ne.or (op_neD hr.rm.units)
def rSlU (K : PySem.W.Frag) : V → Option Int → Option Int → Hp → VK → Prop := fun x lo hi H Q => rSlL K x lo hi H Q ∨ (rSlT K x lo hi H Q ∨ rSlS x lo hi H Q)
theorem u_sl (hK : X.K = K := by rfl) : SlR X (rSlU K) := by
  subst hK
  exact sl_list.or (sl_tup.or sl_str)
theorem u_ix (hK : X.K = K := by rfl) : IxR X (rIx K) := by
  subst hK
  exact ix_seq
theorem u_in (hK : X.K = K := by rfl) : OpR X (compareOp .In) (rIn K false) := by
  subst hK
  exact op_in_seq
theorem u_notin (hK : X.K = K := by rfl) : OpR X (compareOp .NotIn) (rIn K true) := by
  subst hK
  exact op_notIn_seq
def rLenU (K : PySem.W.Frag) : List V → Hp → VK → Prop := fun xs H Q => ∃ x n, xs = [x] ∧ LenV K x H n ∧ Q (.int n) H
theorem u_len (hK : X.K = K := by rfl) : CallR X (.builtin "len") (rLenU K) := by
  subst hK
  exact call_len
theorem u_isi (hK : X.K = K := by rfl) : CallR X (.builtin "isinstance") (rIsi K) := by
  subst hK
  exact call_isi
theorem u_isiT (hK : X.K = K := by rfl) : CallR X (.builtin "isinstance") (rIsiT K) := by
  subst hK
  exact call_isiT
theorem u_sum (hc : X.calm = true) (hK : X.K = K := by rfl) : CallR X (.builtin "sum") (rSum K) := by
  subst hK
  exact cr_sum hc
theorem u_all (hc : X.calm = true) (hK : X.K = K := by rfl) : CallR X (.builtin "all") (rAll K) := by
  subst hK
  exact cr_all hc
theorem u_any (hc : X.calm = true) (hK : X.K = K := by rfl) : CallR X (.builtin "any") (rAny K) := by
  subst hK
  exact cr_any hc
theorem u_repr {k : Nat} (hr : Rm k X.A) (hK : X.K = K := by rfl) : CallR X (.builtin "repr") (rRepr K) := by
  subst hK
  exact call_repr hr
def rListU (K : PySem.W.Frag) : List V → Hp → VK → Prop := fun xs H Q => ∃ p ys, xs = [.ref p] ∧ (SqL K H p ys ∨ SqT K H p ys) ∧ ∀ l, H l = none → Q (.ref l) (upd H l (.lst ys))
theorem u_list (hK : X.K = K := by rfl) : CallR X (.type "list") (rListU K) := by
  subst hK
  exact call_list_of
def rTupU (K : PySem.W.Frag) : List V → Hp → VK → Prop := fun xs H Q => ∃ p ys, xs = [.ref p] ∧ ((SqL K H p ys ∧ ∀ l, H l = none → Q (.ref l) (upd H l (.tup ys))) ∨ (SqT K H p ys ∧ Q (.ref p) H))
theorem u_tup (hK : X.K = K := by rfl) : CallR X (.type "tuple") (rTupU K) := by
  subst hK
  exact call_tuple_of
theorem u_count (hK : X.K = K := by rfl) : MtR X "list.count" (rCntI K) := by
  subst hK
  exact mt_lcount
def tTru (K : PySem.W.Frag) (ta : TE) : TT := fun σ H Q => ta σ H fun x H' => ∃ k, TruV K x H' k ∧ Q k H'
theorem pt_tru {a : Expr} {ta : TE} (ha : PE X a ta) (he : ∀ whole, isTrue a X.env whole = (do let v ← whole; standAt a.pos; holding [v] (truthy v))) (hK : X.K = K := by rfl) : PT X a (tTru K ta) := by
  subst hK
  exact pt_truth ha he
theorem pi_either {tg iter : Expr} {a b : TI} (h : PI X tg iter a) (h' : PI X tg iter b) : PI X tg iter (fun σ H R => a σ H R ∨ b σ H R) := by
  constructor
  intro pins s σ H R I q
  rcases q with q | q
  · exact h.run pins s σ H R I q
  · exact h'.run pins s σ H R I q
def iSeq (K : PySem.W.Frag) (t : TE) : TI := fun σ H R => iList K t σ H R ∨ iTup K t σ H R
theorem pi_seq {tg e : Expr} {t : TE} (h : PE X e t) (hK : X.K = K := by rfl) : PI X tg e (iSeq K t) := by
  subst hK
  exact pi_either (pi_list h) (pi_tup h)
theorem pi_enu {e : Expr} {ta : TA} {p pos tpos : Pos} {elts : List Expr} {kk : Nat} (hg : Gl X "enumerate") (hm : X.mg "enumerate" = none) (ha : PA X [e] ta) (hK : X.K = K := by rfl)
    (hs : starEach [e] X.env = (false, eval e X.env) :: starEach [] X.env := by rfl) : PI X (.Tuple elts kk tpos) (.Call (.Name "enumerate" p) [e] [] pos) (iEnum K ta) := by
  subst hK
  exact pi_enum hg hm ha hs
theorem pg_tupU {es : List Expr} {k : Nat} {t : TGs} {n : Nat} {pos : Pos} (hc : X.calm = true) (h : PGs X es t) (hK : X.K = K := by rfl)
    (hn : (assignEach es X.env).length = n := by rfl) (hst : (assignEach es X.env).findIdx? (·.1) = none := by rfl) : PG X (.Tuple es k pos) (gTup K n t) := by
  subst hK
  exact pg_tup hc h hn hst
/-- an int's remainder and quotient by a positive one, as they are -/
theorem fmodE {a b : Int} (h : 0 ≤ b := by decide) : a.fmod b = a % b := Int.fmod_eq_emod_of_nonneg a h
theorem fdivE {a b : Int} (h : 0 ≤ b := by decide) : a.fdiv b = a / b := Int.fdiv_eq_ediv_of_nonneg a h
/-- by a positive divisor -/
theorem u_mod : OpR X (binaryOp .Mod) (rI (fun _ j => 0 < j) fun i j => .int (i % j)) := by
  intro pins s σ H x y v u Q I rx ry h
  obtain ⟨i, j, rfl, rfl, hj, q⟩ := h
  refine op_modN pins s σ H _ _ v u Q I rx ry ⟨i, j, rfl, rfl, by omega, ?_⟩
  show Q (.int (i.fmod j)) H
  rw [fmodE (by omega)]
  exact q
theorem u_fdiv : OpR X (binaryOp .FloorDiv) (rI (fun _ j => 0 < j ∧ j < 1073741824) fun i j => .int (i / j)) := by
  intro pins s σ H x y v u Q I rx ry h
  obtain ⟨i, j, rfl, rfl, hj, q⟩ := h
  refine op_fdivN pins s σ H _ _ v u Q I rx ry ⟨i, j, rfl, rfl, ⟨by omega, by omega⟩, ?_⟩
  show Q (.int (i.fdiv j)) H
  rw [fdivE (by omega)]
  exact q
end
end VB
namespace VB
/-- what follows, shown once for several ways -/
theorem once {R G : Prop} (main : R → G) (rest : R) : G := main rest
end VB
/-! sequences: lists and tuples alike -/
namespace VB
open PySem PySem.Spec PyProof.Rows L2
/-- a list (false) or a tuple (true) of the values xs -/
def Sv (t : Bool) (K : PySem.W.Frag) (H : Hp) (a : Addr) (xs : List V) : Prop := match t with
  | false => SqL K H a xs
  | true => SqT K H a xs
section
variable {K : PySem.W.Frag} {H H' : Hp} {a : Addr} {xs : List V} {t : Bool}
theorem Sv.ex (h : Sv t K H a xs) (e : Evl.Ex H H') : Sv t K H' a xs := by
  cases t with
  | false => exact Evl.ex_l e (show SqL K H a xs from h)
  | true => exact Evl.ex_t e (show SqT K H a xs from h)
theorem Sv.lst (h : H a = some (.lst xs)) : Sv false K H a xs := SqL.of h
theorem Sv.tup (h : H a = some (.tup xs)) : Sv true K H a xs := SqT.of h
/-- a walk over what stands in a slot -/
theorem seq_var {i : Nat} {σ : L2.St} {R : It → Hp → Prop} (e : σ[i]? = some (some (.ref a))) (S : Sv t K H a xs)
    (h : ∀ J, Walk J xs.length (fun H => Sv t K H a xs) (YAt xs) → R J H) : iSeq K (tVar i) σ H R := by
  cases t with
  | false => exact .inl ⟨_, e, a, rfl, ⟨xs, S⟩, h _ walk_list⟩
  | true => exact .inr ⟨_, e, a, rfl, ⟨xs, S⟩, h _ walk_tup⟩
theorem Sv.len (S : Sv t K H a xs) : LenV K (.ref a) H xs.length := by
  cases t with
  | false => exact .inl ⟨xs, S, rfl⟩
  | true => exact .inr ⟨xs, S, rfl⟩
theorem Sv.ix {x v : V} {i : Int} {Q : VK} (S : Sv t K H a xs) (h : atI xs i = some v) (q : Q v H) : rIx K (.ref a) (.int i) H Q := by
  cases t with
  | false => exact .inl ⟨a, xs, i, v, rfl, rfl, S, h, q⟩
  | true => exact .inr (.inl ⟨a, xs, i, v, rfl, rfl, S, h, q⟩)
theorem Sv.either (S : Sv t K H a xs) : SqL K H a xs ∨ SqT K H a xs := by
  cases t with
  | false => exact .inl S
  | true => exact .inr S
end
/-- a range by a step upward -/
theorem rg_up {n c : Int} (hn : 0 ≤ n) (hn2 : n < 1000000) (hc : 0 < c) (hc2 : c < 1000000) : RgC 0 n c ((n + c - 1) / c).toNat := by
  refine ⟨by omega, by omega, ?_, ?_⟩
  · have z := PyProof.Rows.rangeSize_pos (len := n) (c := c) (by omega) hn
    have d : 0 ≤ (n + c - 1) / c := Int.ediv_nonneg (by omega) (by omega)
    have d2 : (n + c - 1) / c ≤ n + c - 1 := Int.ediv_le_self _ (by omega)
    have d3 : (n + c - 1) / c * c ≤ n + c - 1 := Int.ediv_mul_le _ (by omega)
    unfold Builtin.Range.small
    rw [z]
    simp only [Builtin.Range.rangeFitsLong, Bool.and_eq_true, Bool.or_eq_true, decide_eq_true_eq, beq_iff_eq, hc, gt_iff_lt, if_true]
    omega
  · have d : 0 ≤ (n + c - 1) / c := Int.ediv_nonneg (by omega) (by omega)
    rw [PyProof.Rows.rangeSize_pos (by omega) hn]
    omega
/-- the promises' shapes: a new list, a new tuple, a value; what stood stands -/
abbrev RL (xs : List V) (H : Hp) (Q : VK) : Prop := ∀ (p : Addr) (H' : Hp), H p = none → Evl.Ex H H' → H' p = some (.lst xs) → Q (.ref p) H'
abbrev RT (xs : List V) (H : Hp) (Q : VK) : Prop := ∀ (p : Addr) (H' : Hp), H p = none → Evl.Ex H H' → H' p = some (.tup xs) → Q (.ref p) H'
abbrev RV (v : V) (H : Hp) (Q : VK) : Prop := ∀ H' : Hp, Evl.Ex H H' → Q v H'
/-- ints as values -/
abbrev IV (ns : List Int) : List V := ns.map V.int
theorem iv_get {ns : List Int} {i : Nat} {x : V} (h : (IV ns)[i]? = some x) : ∃ n, ns[i]? = some n ∧ x = .int n := by
  rw [List.getElem?_map] at h
  cases e : ns[i]? with
  | none => rw [e] at h; cases h
  | some n =>
    rw [e] at h
    exact ⟨n, rfl, (Option.some.inj h).symm⟩
theorem iv_at {ns : List Int} {i : Nat} {n : Int} (h : ns[i]? = some n) : atI (IV ns) (i : Int) = some (.int n) := by
  apply atI_nat
  rw [List.getElem?_map, h]
  rfl
theorem iv_len (ns : List Int) : (IV ns).length = ns.length := List.length_map ..
theorem iv_snoc (ns : List Int) (n : Int) : IV ns ++ [V.int n] = IV (ns ++ [n]) := by simp
theorem take_snoc {α : Type} {l : List α} {i : Nat} {x : α} (h : l[i]? = some x) : l.take (i + 1) = l.take i ++ [x] := by
  rw [List.take_add_one, h]
  rfl
/-- a comprehension over a range that changes nothing: us its items -/
theorem lc_pureR {n j : Nat} {us : List Int} {te : TE} {vs : List Nat} {σ : L2.St} {H1 : Hp} {D : Addr} {Qd : Hp → Prop} (hl : us.length = n) (hz : n ≤ 60000) (hD : H1 D = none)
    (hw : ∀ x, wipe ((wipe σ vs).set j x) vs = wipe σ vs)
    (hs : ∀ (i : Nat) (u : Int) (H : Hp) (Q : VK), us[i]? = some u → Evl.Ex H1 H → (∀ H' : Hp, Evl.Ex H H' → Q (.int u) H') → te ((wipe σ vs).set j (some (.int (i : Int)))) H Q)
    (hd : ∀ H, Evl.Ex H1 H → H D = some (.lst (IV us)) → Qd H) :
    ∃ W : Nat → Nat → Hp → Prop, (∃ m, W 0 m (upd H1 D (.lst []))) ∧ ∀ i m H, W i m H →
      ((Itr 0 n).stop i H ∧ Qd H) ∨ ((Itr 0 n).go i H ∧ ∃ Nx : Hp → Prop, (∀ H', Nx H' → ∃ m', m' < m ∧ W (i + 1) m' H') ∧ ∀ x H', (Itr 0 n).yld i H x H' →
        gName j x (wipe σ vs) H' fun σ2 H2 => wipe σ2 vs = wipe σ vs ∧ tYes σ2 H2 fun b H3 =>
        if b = true then te σ2 H3 fun y H4 => ∃ acc, H4 D = some (.lst acc) ∧ acc.length < sizeLine ∧ Nx (upd H4 D (.lst (acc ++ [y]))) else Nx H3) := by
  refine lc_range (lo := 0) (n := n) (fun i H' => Evl.Ex H1 H' ∧ i ≤ n ∧ H' D = some (.lst (IV (us.take i)))) ⟨Evl.Ex.new hD, Nat.zero_le _, upd_same⟩ ?_ ?_
  · rintro i H hi ⟨e1, hi2, h1⟩
    have e0 : (0 : Int) + (i : Int) = (i : Int) := Int.zero_add _
    rw [e0]
    refine ⟨hw _, ?_⟩
    obtain ⟨u, hu⟩ : ∃ u, us[i]? = some u := ⟨us[i]'(by omega), by simp [show i < us.length by omega]⟩
    show te _ H _
    refine hs i u H _ hu e1 fun H' e2 => ⟨_, e2 D _ h1, ?_, Evl.Ex.mut (e1.trans e2) hD, by omega, ?_⟩
    · rw [iv_len, List.length_take]
      exact Evl.sz_lt (by omega)
    · rw [upd_same, iv_snoc, take_snoc hu]
  · rintro H ⟨e1, _, h1⟩
    refine hd H e1 ?_
    rw [h1, ← hl, List.take_length]
/-- .. over a sequence -/
theorem lc_pureS {J : It} {G : Hp → Prop} {n j : Nat} {us : List Int} {xs : List V} {te : TE} {vs : List Nat} {σ : L2.St} {H1 : Hp} {D : Addr} {Qd : Hp → Prop} (wk : Walk J n G (YAt xs)) (hG : ∀ H, Evl.Ex H1 H → G H)
    (hl : us.length = n) (hz : n ≤ 60000) (hD : H1 D = none) (hw : ∀ x, wipe ((wipe σ vs).set j x) vs = wipe σ vs)
    (hs : ∀ (i : Nat) (x : V) (u : Int) (H : Hp) (Q : VK), xs[i]? = some x → us[i]? = some u → Evl.Ex H1 H → (∀ H' : Hp, Evl.Ex H H' → Q (.int u) H') → te ((wipe σ vs).set j (some x)) H Q)
    (hd : ∀ H, Evl.Ex H1 H → H D = some (.lst (IV us)) → Qd H) :
    ∃ W : Nat → Nat → Hp → Prop, (∃ m, W 0 m (upd H1 D (.lst []))) ∧ ∀ i m H, W i m H →
      (J.stop i H ∧ Qd H) ∨ (J.go i H ∧ ∃ Nx : Hp → Prop, (∀ H', Nx H' → ∃ m', m' < m ∧ W (i + 1) m' H') ∧ ∀ x H', J.yld i H x H' →
        gName j x (wipe σ vs) H' fun σ2 H2 => wipe σ2 vs = wipe σ vs ∧ tYes σ2 H2 fun b H3 =>
        if b = true then te σ2 H3 fun y H4 => ∃ acc, H4 D = some (.lst acc) ∧ acc.length < sizeLine ∧ Nx (upd H4 D (.lst (acc ++ [y]))) else Nx H3) := by
  refine lc_it wk (fun i H' => Evl.Ex H1 H' ∧ i ≤ n ∧ H' D = some (.lst (IV (us.take i)))) ⟨Evl.Ex.new hD, Nat.zero_le _, upd_same⟩ (fun i H _ h => hG H h.1) ?_ ?_
  · rintro i x H H' hi ⟨e1, hi2, h1⟩ ⟨rfl, hx⟩
    refine ⟨hw _, ?_⟩
    obtain ⟨u, hu⟩ : ∃ u, us[i]? = some u := ⟨us[i]'(by omega), by simp [show i < us.length by omega]⟩
    show te _ H' _
    refine hs i x u H' _ hx hu e1 fun H'' e2 => ⟨_, e2 D _ h1, ?_, Evl.Ex.mut (e1.trans e2) hD, by omega, ?_⟩
    · rw [iv_len, List.length_take]
      exact Evl.sz_lt (by omega)
    · rw [upd_same, iv_snoc, take_snoc hu]
  · rintro H ⟨e1, _, h1⟩
    refine hd H e1 ?_
    rw [h1, ← hl, List.take_length]
end VB
/-! data of ints: what stands, what repr shows, what == says -/
namespace VB
open PySem PySem.Spec PyProof.Rows L2
abbrev DL (ns : List Int) : PyData := .list (ns.map .int)
abbrev DT (ns : List Int) : PyData := .tuple (ns.map .int)
section
variable {K : PySem.W.Frag} {H H' : Hp} {a : Addr} {ns : List Int} {t : Bool}
theorem dpAll_ints : ∀ ns : List Int, DpAll K H (IV ns) (ns.map .int)
  | [] => .nil
  | n :: ns => .cons (.int n) (dpAll_ints ns)
theorem dp_l (h : SqL K H a (IV ns)) : Dp K H (.ref a) (DL ns) := .lst h (dpAll_ints ns)
theorem dp_t (h : SqT K H a (IV ns)) : Dp K H (.ref a) (DT ns) := .tup h (dpAll_ints ns)
end
/-- what can be shown, its depth and its text's length bounded -/
structure Sh (d : PyData) (h b : Nat) : Prop where
  ok : d.showable = true
  dep : d.depth ≤ h
  len : d.shown.length ≤ b
theorem Sh.le {d : PyData} {h b h' b' : Nat} (s : Sh d h b) (h1 : h ≤ h' := by omega) (h2 : b ≤ b' := by omega) : Sh d h' b' :=
  ⟨s.ok, Nat.le_trans s.dep h1, Nat.le_trans s.len h2⟩
theorem pow2_lt : ∀ n : Nat, n < 2 ^ n
  | 0 => by decide
  | n + 1 => by
    have := pow2_lt n
    rw [Nat.pow_succ]
    omega
theorem log2_le_self (n : Nat) : n.log2 ≤ n := by
  by_cases h : n = 0
  · subst h
    decide
  · have q := Nat.log2_self_le h
    have p := pow2_lt n.log2
    omega
theorem sh_int {n : Int} (h : 0 ≤ n ∧ n < 10000 ∧ n.natAbs.log2 < 1920) : Sh (.int n) 0 4 := by
  refine ⟨by simp only [PyData.showable, decide_eq_true_eq]; exact h.2.2, by simp only [PyData.depth]; exact Nat.le_refl _, ?_⟩
  rw [PyData.shown_int]
  exact toString_length_le h.1 (by decide) (by omega)
theorem log_small {n : Int} (h : 0 ≤ n) (h2 : n < 10000) : n.natAbs.log2 < 1920 := by
  by_cases z : n.natAbs = 0
  · rw [z]
    decide
  · have q := Nat.log2_lt z (k := 1920)
    refine q.mpr (Nat.lt_of_lt_of_le (m := 2 ^ 14) (by omega) (Nat.pow_le_pow_right (by decide) (by decide)))
theorem piled_le {b : Nat} : ∀ ts : List Str, (∀ t ∈ ts, t.length ≤ b) → piled ts ≤ (b + 2) * ts.length
  | [], _ => Nat.zero_le _
  | t :: ts, h => by
    have a := h t (List.mem_cons_self ..)
    have c := piled_le ts fun u hu => h u (List.mem_cons_of_mem _ hu)
    rw [piled_cons, List.length_cons, Nat.mul_succ]
    omega
theorem join_le {b : Nat} (ts : List Str) (h : ∀ t ∈ ts, t.length ≤ b) : (Str.join ", " ts).length ≤ (b + 2) * ts.length := by
  by_cases z : ts = []
  · subst z
    exact Nat.zero_le _
  · have j := join_length_add ts z
    have p := piled_le ts h
    omega
theorem mem_shown {x : Str} : ∀ {ds : List PyData}, x ∈ PyData.shownAll ds → ∃ d ∈ ds, x = d.shown
  | [], h => by
    rw [PyData.shownAll_nil] at h
    cases h
  | d :: ds, h => by
    rw [PyData.shownAll_cons] at h
    cases h with
    | head => exact ⟨d, List.mem_cons_self .., rfl⟩
    | tail _ h =>
      obtain ⟨e, he, q⟩ := mem_shown h
      exact ⟨e, List.mem_cons_of_mem _ he, q⟩
theorem depAll {h : Nat} : ∀ {ds : List PyData}, (∀ d ∈ ds, d.depth ≤ h) → PyData.depthAll ds ≤ h
  | [], _ => by simp only [PyData.depthAll]; exact Nat.zero_le _
  | d :: ds, q => by
    simp only [PyData.depthAll]
    exact Nat.max_le.mpr ⟨q d (List.mem_cons_self ..), depAll fun e he => q e (List.mem_cons_of_mem _ he)⟩
theorem str_app (a b : Str) : (a ++ b).length = a.length + b.length := by
  exact strLen_append a b
theorem sh_list {ds : List PyData} {h b n : Nat} (q : ∀ d ∈ ds, Sh d h b) (hn : ds.length ≤ n) : Sh (.list ds) (h + 1) ((b + 2) * n + 4) := by
  refine ⟨?_, ?_, ?_⟩
  · simp only [PyData.showable]
    exact PySem.Spec.showableAll_of fun d hd => (q d hd).ok
  · simp only [PyData.depth]
    exact Nat.succ_le_succ (depAll fun d hd => (q d hd).dep)
  · rw [PyData.shown_list, str_app, str_app]
    have j := join_le (b := b) (PyData.shownAll ds) (by
      intro t ht
      obtain ⟨d, hd, rfl⟩ := mem_shown ht
      exact (q d hd).len)
    rw [PyData.shownAll_length] at j
    have l1 : ("[" : Str).length = 1 := by decide
    have l2 : ("]" : Str).length = 1 := by decide
    have m : (b + 2) * ds.length ≤ (b + 2) * n := Nat.mul_le_mul_left _ hn
    omega
theorem sh_tup {ds : List PyData} {h b n : Nat} (q : ∀ d ∈ ds, Sh d h b) (hn : ds.length ≤ n) : Sh (.tuple ds) (h + 1) ((b + 2) * n + 4) := by
  refine ⟨?_, ?_, ?_⟩
  · simp only [PyData.showable]
    exact PySem.Spec.showableAll_of fun d hd => (q d hd).ok
  · simp only [PyData.depth]
    exact Nat.succ_le_succ (depAll fun d hd => (q d hd).dep)
  · rw [PyData.shown_tuple, str_app, str_app]
    have j := join_le (b := b) (PyData.shownAll ds) (by
      intro t ht
      obtain ⟨d, hd, rfl⟩ := mem_shown ht
      exact (q d hd).len)
    rw [PyData.shownAll_length] at j
    have l1 : ("(" : Str).length = 1 := by decide
    have l2 : (if ds.length == 1 then ",)" else ")" : Str).length ≤ 2 := by
      split <;> decide
    have m : (b + 2) * ds.length ≤ (b + 2) * n := Nat.mul_le_mul_left _ hn
    have l3 : (Str.ofString (if ds.length == 1 then ",)" else ")" : String)).length ≤ 2 := by
      split <;> decide
    omega
/-- ints below 10000 -/
def Sm (ns : List Int) : Prop := ∀ n ∈ ns, 0 ≤ n ∧ n < 10000
theorem sm_ds {ns : List Int} (h : Sm ns) : ∀ d ∈ ns.map PyData.int, Sh d 0 4 := by
  intro d hd
  obtain ⟨n, hn, rfl⟩ := List.mem_map.mp hd
  have := h n hn
  exact sh_int ⟨this.1, this.2, log_small this.1 this.2⟩
theorem sh_l {ns : List Int} (h : Sm ns) (hl : ns.length ≤ 6000) : Sh (DL ns) 1 40000 := (sh_list (sm_ds h) (n := 6000) (by simpa using hl)).le
theorem sh_t {ns : List Int} (h : Sm ns) (hl : ns.length ≤ 6000) : Sh (DT ns) 1 40000 := (sh_tup (sm_ds h) (n := 6000) (by simpa using hl)).le
section
variable {K : PySem.W.Frag} {H : Hp} {a b : Addr} {ns ms : List Int} {Q : VK}
theorem rp {d : PyData} {h n : Nat} (e : Dp K H (.ref a) d) (s : Sh d h n) (q : Q (.str d.shown) H) (hh : h ≤ 60 := by decide) (hn : n ≤ 1000000 := by omega) : rRepr K [.ref a] H Q := by
  unfold rRepr
  exact ⟨a, d, rfl, e, s.ok, Nat.le_trans s.dep hh, Nat.le_trans (Nat.le_trans s.len hn) (by decide), q⟩
theorem rp_l (e : SqL K H a (IV ns)) (h : Sm ns) (hl : ns.length ≤ 6000) (q : Q (.str (DL ns).shown) H) : rRepr K [.ref a] H Q := rp (dp_l e) (sh_l h hl) q
theorem rp_t (e : SqT K H a (IV ns)) (h : Sm ns) (hl : ns.length ≤ 6000) (q : Q (.str (DT ns).shown) H) : rRepr K [.ref a] H Q := rp (dp_t e) (sh_t h hl) q
theorem eqvAll_ints : ∀ xs ys : List Int, PyData.eqvAll (xs.map .int) (ys.map .int) = decide (xs = ys)
  | [], [] => by simp [PyData.eqvAll]
  | [], _ :: _ => by simp [PyData.eqvAll]
  | _ :: _, [] => by simp [PyData.eqvAll]
  | x :: xs, y :: ys => by
    simp only [List.map_cons, PyData.eqvAll, PyData.eqv, eqvAll_ints xs ys]
    by_cases h : x = y <;> by_cases h2 : xs = ys <;> simp [h, h2]
theorem canAll : ∀ ns : List Int, PyData.canLayAll0 (ns.map .int) = true
  | [] => by simp [PyData.canLayAll0]
  | n :: ns => by simp [PyData.canLayAll0, PyData.canLay0, canAll ns]
theorem depInts : ∀ ns : List Int, PyData.depthAll (ns.map .int) = 0
  | [] => by simp [PyData.depthAll]
  | n :: ns => by simp [PyData.depthAll, PyData.depth, depInts ns]
theorem shp_l (ns : List Int) : SeqAt.shaped (DL ns) = true := by simp [SeqAt.shaped, PyData.canLay0, PyData.depth, canAll, depInts]
theorem shp_t (ns : List Int) : SeqAt.shaped (DT ns) = true := by simp [SeqAt.shaped, PyData.canLay0, PyData.depth, canAll, depInts]
theorem req_l (e : SqL K H a (IV ns)) (e' : SqL K H b (IV ms)) (q : Q (.bl (decide (ns = ms))) H) : rEqD K (.ref a) (.ref b) H Q := by
  refine ⟨DL ns, DL ms, dp_l e, dp_l e', shp_l _, shp_l _, ?_⟩
  rw [show PyData.eqv (DL ns) (DL ms) = decide (ns = ms) by simp only [DL, PyData.eqv]; exact eqvAll_ints ns ms]
  exact q
theorem req_t (e : SqT K H a (IV ns)) (e' : SqT K H b (IV ms)) (q : Q (.bl (decide (ns = ms))) H) : rEqD K (.ref a) (.ref b) H Q := by
  refine ⟨DT ns, DT ms, dp_t e, dp_t e', shp_t _, shp_t _, ?_⟩
  rw [show PyData.eqv (DT ns) (DT ms) = decide (ns = ms) by simp only [DT, PyData.eqv]; exact eqvAll_ints ns ms]
  exact q
theorem rne_l (e : SqL K H a (IV ns)) (e' : SqL K H b (IV ms)) (q : Q (.bl (!decide (ns = ms))) H) : rNeD K (.ref a) (.ref b) H Q := by
  refine ⟨DL ns, DL ms, dp_l e, dp_l e', shp_l _, shp_l _, ?_⟩
  rw [show PyData.eqv (DL ns) (DL ms) = decide (ns = ms) by simp only [DL, PyData.eqv]; exact eqvAll_ints ns ms]
  exact q
end
end VB
/-! a tuple once is the tuple -/
namespace VB
open PySem PySem.Spec PyProof.Rows L2
theorem tuple_mul1 (l : Addr) (items : Array Value) (n : Nat) (dd : Option Addr) (sl : Array (Option Value)) (x : Int) (u : Tok) (c0 : (decide (x < -(2 ^ 63)) || decide (x ≥ 2 ^ 63)) = false) (c1 : (items.isEmpty || x == 1) = true) :
    Meets (Builtin.«tuple.__mul__» ⟨[.ref l, .int x u], []⟩) (fun _ R s => s.heap.get? l = some { cls := .type "tuple", dict := dd, data := .seq items n, slots := sl } ∧
      R (.ok (.ret (.ref l))) s) :=
  .of_wp fun prog w A R s h => by
    obtain ⟨hp, g, d, tk, os⟩ := s
    obtain ⟨hl, h⟩ := h
    have f1 := AutoSeq1.idx_int
    wp_walk using wpAny_loadPart' hl
    repeat (first
      | (refine wpAny_ite_false (decide_eq_false (by rw [c0]; exact Bool.false_ne_true)) ?_; wp_walk using wpAny_loadPart' hl)
      | (refine wpAny_ite_true (decide_eq_true c1) ?_; wp_walk using wpAny_loadPart' hl))
    exact ⟨_, rfl, h⟩
def rRepT1 (K : PySem.W.Frag) : R2 := fun x y H Q => ∃ l xs, x = .ref l ∧ y = .int 1 ∧ SqT K H l xs ∧ Q (.ref l) H
section
variable {X : Cx} {K : PySem.W.Frag}
theorem op_repT1 : OpR X (binaryOp .Mult) (rRepT1 X.K) := by
  intro pins s σ H x y v u Q I rx ry h
  obtain ⟨l, xs, rfl, rfl, hT, q⟩ := h
  cases rx
  obtain ⟨t, rfl⟩ := ry
  obtain ⟨its, r, ⟨⟨cls, dd, data, sl⟩, ho, hc, n, hd⟩, hs⟩ := I.tuple hT
  simp only at hc hd
  subst hc hd
  have c0 : (decide ((1 : Int) < -(2 ^ 63)) || decide ((1 : Int) ≥ 2 ^ 63)) = false := by decide
  have c1 : (its.toArray.isEmpty || (1 : Int) == 1) = true := by simp
  refine wpAny_binaryOp_repeat_ref (T := "tuple") (U := "int") (by decide) ⟨_, ho, rfl⟩ (fun s' => typeIs_int s' 1 t) noFill_tuple_mul F.fills_int_mul F.slot_int_rmul repeat_tuple F.slot_int_index.lookup
    (call_meets F.slot_int_rmul (typeIs_int s 1 t) F.entry_int_rmul (F.args_int_rmul_2 _ _) (int_rmul_tuple 1 t l its.toArray n dd sl)
      ⟨ho, rfl, ⟨_, ho, rfl⟩, call_meets F.slot_tuple_mul ⟨_, ho, rfl⟩ F.entry_tuple_mul (F.args_tuple_mul_2 _ _) (tuple_mul1 l its.toArray n dd sl 1 t c0 c1) ⟨ho, ?_⟩⟩)
  exact ⟨.ref l, H, I, rfl, q⟩
/-- +, * of this law: tuples once, too -/
@[irreducible] def rMulU1 (K : PySem.W.Frag) : R2 := fun x y H Q => rMulU K x y H Q ∨ rRepT1 K x y H Q
theorem u_mul1 (hK : X.K = K := by rfl) : OpR X (binaryOp .Mult) (rMulU1 K) := by
  subst hK
  unfold rMulU1
  exact (u_mul rfl).or op_repT1
end
end VB
/-! readings that are never unfolded -/
namespace VB
open PySem PySem.Spec PyProof.Rows L2
section
variable {X : Cx} {K : PySem.W.Frag}
@[irreducible] def rTupI (K : PySem.W.Frag) : List V → Hp → VK → Prop := rTupU K
@[irreducible] def rListI (K : PySem.W.Frag) : List V → Hp → VK → Prop := rListU K
theorem u_tupI (hK : X.K = K := by rfl) : CallR X (.type "tuple") (rTupI K) := by
  unfold rTupI
  exact u_tup hK
theorem u_listI (hK : X.K = K := by rfl) : CallR X (.type "list") (rListI K) := by
  unfold rListI
  exact u_list hK
@[irreducible] def tIfI (c : TT) (t u : TS) : TS := tIfS c t u
theorem ps_ifI {test : Expr} {body orelse : List Stmt} {pos : Pos} {c : TT} {t u : TS} (hc : PT X test c) (ht : PSs X body t) (hu : PSs X orelse u) : PS X (.If test body orelse pos) (tIfI c t u) := by
  unfold tIfI
  exact ps_if hc ht hu
end
end VB
/-! bits of octets: plain mathematics -/
namespace BM
def bitsOf (o : Int) : List Int := [o / 128 % 2, o / 64 % 2, o / 32 % 2, o / 16 % 2, o / 8 % 2, o / 4 % 2, o / 2 % 2, o / 1 % 2]
def bitsL (os : List Int) : List Int := os.flatMap bitsOf
def octOf (bs : List Int) : Int := bs.foldl (fun n b => 2 * n + b) 0
def octetsN : Nat → List Int → List Int
  | 0, _ => []
  | n + 1, bs => octOf (bs.take 8) :: octetsN n (bs.drop 8)
def octetsL (bs : List Int) : List Int := octetsN ((bs.length + 7) / 8) bs
def Oct (os : List Int) : Prop := ∀ o ∈ os, 0 ≤ o ∧ o ≤ 255
def Bit (bs : List Int) : Prop := ∀ b ∈ bs, b = 0 ∨ b = 1
/-- the indices at which the first is 1 and the second 0 -/
def fallenL : Int → List Int → List Int → List Int
  | k, a :: as, b :: bs => if a = 1 ∧ b = 0 then k :: fallenL (k + 1) as bs else fallenL (k + 1) as bs
  | _, _, _ => []
/-- what a mask leaves on the way -/
def turned : List Int → List Int → Int → List Int
  | a :: as, b :: bs, m => if a = b then a :: turned as bs m else (if m % 2 = 1 then b else a) :: turned as bs (m / 2)
  | _, _, _ => []
def unlike : List Int → List Int → Nat
  | a :: as, b :: bs => (if a = b then 0 else 1) + unlike as bs
  | _, _ => 0

theorem bitsOf_bit {o b : Int} (h : b ∈ bitsOf o) : b = 0 ∨ b = 1 := by
  simp only [bitsOf, List.mem_cons, List.not_mem_nil, or_false] at h
  omega
theorem bitsL_bit (os : List Int) : Bit (bitsL os) := by
  intro b h
  obtain ⟨o, _, ho⟩ := List.mem_flatMap.mp h
  exact bitsOf_bit ho
theorem bitsL_nil : bitsL [] = [] := rfl
theorem bitsL_cons (o : Int) (os : List Int) : bitsL (o :: os) = bitsOf o ++ bitsL os := by simp [bitsL]
theorem bitsOf_len (o : Int) : (bitsOf o).length = 8 := rfl
theorem bitsL_len : ∀ os : List Int, (bitsL os).length = 8 * os.length
  | [] => rfl
  | o :: os => by
    rw [bitsL_cons, List.length_append, bitsL_len os, bitsOf_len, List.length_cons]
    omega
theorem bitsL_append (a b : List Int) : bitsL (a ++ b) = bitsL a ++ bitsL b := by simp [bitsL]
theorem octOf_bitsOf {o : Int} (h : 0 ≤ o ∧ o ≤ 255) : octOf (bitsOf o) = o := by
  have key : ∀ n : Fin 256, octOf (bitsOf ((n : Nat) : Int)) = ((n : Nat) : Int) := by decide +kernel
  have e := key ⟨o.toNat, by omega⟩
  have e2 : ((o.toNat : Nat) : Int) = o := Int.toNat_of_nonneg h.1
  simp only [e2] at e
  exact e
theorem eight {bs : List Int} (h : 8 ≤ bs.length) : ∃ a b c d e f g i r, bs = a :: b :: c :: d :: e :: f :: g :: i :: r := by
  match bs, h with
  | a :: b :: c :: d :: e :: f :: g :: i :: r, _ => exact ⟨a, b, c, d, e, f, g, i, r, rfl⟩
theorem octOf8 (a b c d e f g i : Int) : octOf [a, b, c, d, e, f, g, i] = 128 * a + 64 * b + 32 * c + 16 * d + 8 * e + 4 * f + 2 * g + i := by
  simp only [octOf, List.foldl_cons, List.foldl_nil]
  omega
theorem bit_le {x : Int} (h : x = 0 ∨ x = 1) : 0 ≤ x ∧ x ≤ 1 := by omega
theorem bitsOf_octOf {a b c d e f g i : Int} (h : Bit [a, b, c, d, e, f, g, i]) : bitsOf (octOf [a, b, c, d, e, f, g, i]) = [a, b, c, d, e, f, g, i] := by
  obtain ⟨a0, a1⟩ := bit_le (h a (by simp))
  obtain ⟨b0, b1⟩ := bit_le (h b (by simp))
  obtain ⟨c0, c1⟩ := bit_le (h c (by simp))
  obtain ⟨d0, d1⟩ := bit_le (h d (by simp))
  obtain ⟨e0, e1⟩ := bit_le (h e (by simp))
  obtain ⟨f0, f1⟩ := bit_le (h f (by simp))
  obtain ⟨g0, g1⟩ := bit_le (h g (by simp))
  obtain ⟨i0, i1⟩ := bit_le (h i (by simp))
  clear h
  rw [octOf8]
  simp only [bitsOf, List.cons.injEq, and_true]
  refine ⟨?_, ?_, ?_, ?_, ?_, ?_, ?_, ?_⟩ <;> omega
theorem octOf_range {a b c d e f g i : Int} (h : Bit [a, b, c, d, e, f, g, i]) : 0 ≤ octOf [a, b, c, d, e, f, g, i] ∧ octOf [a, b, c, d, e, f, g, i] ≤ 255 := by
  have ha := h a (by simp)
  have hb := h b (by simp)
  have hc := h c (by simp)
  have hd := h d (by simp)
  have he := h e (by simp)
  have hf := h f (by simp)
  have hg := h g (by simp)
  have hi := h i (by simp)
  rw [octOf8]
  omega
theorem Bit.split8 {a b c d e f g i : Int} {r : List Int} (h : Bit (a :: b :: c :: d :: e :: f :: g :: i :: r)) : Bit [a, b, c, d, e, f, g, i] ∧ Bit r := by
  constructor
  · intro x hx
    refine h x ?_
    simp only [List.mem_cons, List.not_mem_nil, or_false] at hx
    simp only [List.mem_cons]
    rcases hx with q | q | q | q | q | q | q | q <;> simp [q]
  · intro x hx
    exact h x (by simp [hx])
/-- bits of octets of bits -/
theorem octetsN_spec : ∀ (n : Nat) (bs : List Int), bs.length = 8 * n → Bit bs → bitsL (octetsN n bs) = bs ∧ Oct (octetsN n bs) ∧ (octetsN n bs).length = n
  | 0, bs, hl, _ => by
    have e : bs = [] := List.eq_nil_of_length_eq_zero (by omega)
    subst e
    exact ⟨rfl, fun _ h => (by cases h), rfl⟩
  | n + 1, bs, hl, hb => by
    obtain ⟨a, b, c, d, e, f, g, i, r, rfl⟩ := eight (bs := bs) (by omega)
    obtain ⟨h1, h2⟩ := hb.split8
    have hr : r.length = 8 * n := by
      simp only [List.length_cons] at hl
      omega
    obtain ⟨i1, i2, i3⟩ := octetsN_spec n r hr h2
    refine ⟨?_, ?_, ?_⟩
    · show bitsL (octOf [a, b, c, d, e, f, g, i] :: octetsN n r) = _
      rw [bitsL_cons, bitsOf_octOf h1, i1]
      rfl
    · intro o ho
      rcases List.mem_cons.mp ho with q | q
      · rw [q]
        exact octOf_range h1
      · exact i2 o q
    · show (octetsN n r).length + 1 = n + 1
      rw [i3]
theorem octetsL_spec {bs : List Int} {n : Nat} (hl : bs.length = 8 * n) (hb : Bit bs) : bitsL (octetsL bs) = bs ∧ Oct (octetsL bs) ∧ (octetsL bs).length = n := by
  have e : (bs.length + 7) / 8 = n := by omega
  unfold octetsL
  rw [e]
  exact octetsN_spec n bs hl hb
theorem octetsL_bitsL : ∀ {os : List Int}, Oct os → octetsL (bitsL os) = os := by
  intro os
  induction os with
  | nil => intro _; rfl
  | cons o os ih =>
    intro h
    have h1 := h o List.mem_cons_self
    have h2 : Oct os := fun x hx => h x (List.mem_cons_of_mem _ hx)
    have i := ih h2
    have l := bitsL_len os
    have l2 := bitsL_len (o :: os)
    unfold octetsL at i ⊢
    have e1 : ((bitsL os).length + 7) / 8 = os.length := by omega
    have e2 : ((bitsL (o :: os)).length + 7) / 8 = os.length + 1 := by
      rw [l2, List.length_cons]
      omega
    rw [e1] at i
    rw [e2, bitsL_cons]
    show octOf ((bitsOf o ++ bitsL os).take 8) :: octetsN os.length ((bitsOf o ++ bitsL os).drop 8) = _
    have t : (bitsOf o ++ bitsL os).take 8 = bitsOf o := by rw [List.take_append_of_le_length (by rw [bitsOf_len]; omega)]; rfl
    have d : (bitsOf o ++ bitsL os).drop 8 = bitsL os := rfl
    rw [t, d, octOf_bitsOf h1, i]
theorem turned_len : ∀ (as bs : List Int) (m : Int), as.length = bs.length → (turned as bs m).length = as.length
  | [], [], _, _ => rfl
  | a :: as, b :: bs, m, h => by
    unfold turned
    have h' : as.length = bs.length := by simpa using h
    split
    · rw [List.length_cons, turned_len as bs m h', List.length_cons]
    · rw [List.length_cons, turned_len as bs _ h', List.length_cons]
  | [], _ :: _, _, h => by simp at h
  | _ :: _, [], _, h => by simp at h
theorem turned_bit : ∀ (as bs : List Int) (m : Int), Bit as → Bit bs → Bit (turned as bs m)
  | [], _, _, _, _ => by
    unfold turned
    intro x h
    cases h
  | _ :: _, [], _, _, _ => by
    unfold turned
    intro x h
    cases h
  | a :: as, b :: bs, m, ha, hb => by
    have h1 := ha a List.mem_cons_self
    have h2 := hb b List.mem_cons_self
    have h3 : Bit as := fun x hx => ha x (List.mem_cons_of_mem _ hx)
    have h4 : Bit bs := fun x hx => hb x (List.mem_cons_of_mem _ hx)
    unfold turned
    split
    · intro x hx
      rcases List.mem_cons.mp hx with q | q
      · rw [q]; exact h1
      · exact turned_bit as bs m h3 h4 x q
    · intro x hx
      rcases List.mem_cons.mp hx with q | q
      · rw [q]
        split
        · exact h2
        · exact h1
      · exact turned_bit as bs _ h3 h4 x q
/-- below at each place -/
def Le : List Int → List Int → Prop
  | a :: as, b :: bs => a ≤ b ∧ Le as bs
  | [], [] => True
  | _, _ => False
theorem Le.refl : ∀ as : List Int, Le as as
  | [] => True.intro
  | a :: as => ⟨Int.le_refl a, Le.refl as⟩
theorem Le.len : ∀ {as bs : List Int}, Le as bs → as.length = bs.length
  | [], [], _ => rfl
  | _ :: as, _ :: bs, h => by rw [List.length_cons, List.length_cons, Le.len h.2]
  | [], _ :: _, h => h.elim
  | _ :: _, [], h => h.elim
/-- where nothing rises from as to bs, what is left lies between -/
theorem turned_down : ∀ {as bs : List Int} (m : Int), Le bs as → Le bs (turned as bs m) ∧ Le (turned as bs m) as
  | [], [], _, _ => ⟨True.intro, True.intro⟩
  | a :: as, b :: bs, m, h => by
    have i1 := turned_down (as := as) (bs := bs) m h.2
    have i2 := turned_down (as := as) (bs := bs) (m / 2) h.2
    have h1 := h.1
    unfold turned
    split
    · rename_i e
      exact ⟨⟨by omega, i1.1⟩, ⟨Int.le_refl a, i1.2⟩⟩
    · refine ⟨⟨?_, i2.1⟩, ⟨?_, i2.2⟩⟩ <;> split <;> omega
  | [], _ :: _, _, h => h.elim
  | _ :: _, [], _, h => h.elim
theorem turned_up : ∀ {as bs : List Int} (m : Int), Le as bs → Le as (turned as bs m) ∧ Le (turned as bs m) bs
  | [], [], _, _ => ⟨True.intro, True.intro⟩
  | a :: as, b :: bs, m, h => by
    have i1 := turned_up (as := as) (bs := bs) m h.2
    have i2 := turned_up (as := as) (bs := bs) (m / 2) h.2
    have h1 := h.1
    unfold turned
    split
    · rename_i e
      exact ⟨⟨Int.le_refl a, i1.1⟩, ⟨by omega, i1.2⟩⟩
    · refine ⟨⟨?_, i2.1⟩, ⟨?_, i2.2⟩⟩ <;> split <;> omega
  | [], _ :: _, _, h => h.elim
  | _ :: _, [], _, h => h.elim
theorem Le.trans : ∀ {as bs cs : List Int}, Le as bs → Le bs cs → Le as cs
  | [], [], [], _, _ => True.intro
  | _ :: _, _ :: _, _ :: _, h, h' => ⟨Int.le_trans h.1 h'.1, h.2.trans h'.2⟩
  | [], _ :: _, _, h, _ => h.elim
  | _ :: _, [], _, h, _ => h.elim
  | [], [], _ :: _, _, h => h.elim
  | _ :: _, _ :: _, [], _, h => h.elim
/-- nothing falls upward -/
theorem fallen_none : ∀ {as bs : List Int} (k : Int), Le as bs → fallenL k as bs = []
  | [], [], _, _ => rfl
  | a :: as, b :: bs, k, h => by
    have h1 := h.1
    unfold fallenL
    rw [if_neg (by omega)]
    exact fallen_none _ h.2
  | [], _ :: _, _, h => h.elim
  | _ :: _, [], _, h => h.elim
def zc (bs : List Int) : Int := ((bs.count 0 : Nat) : Int)
theorem zc_nil : zc [] = 0 := rfl
theorem zc_cons (b : Int) (bs : List Int) : zc (b :: bs) = (if b = 0 then 1 else 0) + zc bs := by
  unfold zc
  rw [List.count_cons]
  by_cases h : b = 0
  · simp [h]
    omega
  · simp [h]
/-- more zeros below, as many only if equal -/
theorem zc_le : ∀ {as bs : List Int}, Bit as → Bit bs → Le as bs → zc bs ≤ zc as ∧ (zc bs = zc as → as = bs)
  | [], [], _, _, _ => ⟨Int.le_refl _, fun _ => rfl⟩
  | a :: as, b :: bs, ha, hb, h => by
    have h1 := ha a List.mem_cons_self
    have h2 := hb b List.mem_cons_self
    have h3 : Bit as := fun x hx => ha x (List.mem_cons_of_mem _ hx)
    have h4 : Bit bs := fun x hx => hb x (List.mem_cons_of_mem _ hx)
    have h5 := h.1
    obtain ⟨i1, i2⟩ := zc_le h3 h4 h.2
    rw [zc_cons, zc_cons]
    rcases h1 with rfl | rfl <;> rcases h2 with rfl | rfl
    · refine ⟨by simp; omega, fun e => ?_⟩
      rw [i2 (by simp at e; omega)]
    · refine ⟨by simp; omega, fun e => ?_⟩
      simp at e
      omega
    · omega
    · refine ⟨by simp; omega, fun e => ?_⟩
      rw [i2 (by simp at e; omega)]
  | [], _ :: _, _, _, h => h.elim
  | _ :: _, [], _, _, h => h.elim
/-- zeros: what falls more, what rises less -/
theorem zc_diff : ∀ (as bs : List Int) (k l : Int), Bit as → Bit bs → as.length = bs.length → zc bs = zc as + ((fallenL k as bs).length : Int) - ((fallenL l bs as).length : Int)
  | [], [], _, _, _, _, _ => rfl
  | a :: as, b :: bs, k, l, ha, hb, hl => by
    have h1 := ha a List.mem_cons_self
    have h2 := hb b List.mem_cons_self
    have h3 : Bit as := fun x hx => ha x (List.mem_cons_of_mem _ hx)
    have h4 : Bit bs := fun x hx => hb x (List.mem_cons_of_mem _ hx)
    have i := zc_diff as bs (k + 1) (l + 1) h3 h4 (by simpa using hl)
    unfold fallenL
    rw [zc_cons, zc_cons]
    rcases h1 with rfl | rfl <;> rcases h2 with rfl | rfl <;> simp <;> omega
  | [], _ :: _, _, _, _, _, hl => by simp at hl
  | _ :: _, [], _, _, _, _, hl => by simp at hl
/-- both sets empty: equal -/
theorem fallen_both : ∀ (as bs : List Int) (k l : Int), Bit as → Bit bs → as.length = bs.length → fallenL k as bs = [] → fallenL l bs as = [] → as = bs
  | [], [], _, _, _, _, _, _, _ => rfl
  | a :: as, b :: bs, k, l, ha, hb, hl, e1, e2 => by
    have h1 := ha a List.mem_cons_self
    have h2 := hb b List.mem_cons_self
    have h3 : Bit as := fun x hx => ha x (List.mem_cons_of_mem _ hx)
    have h4 : Bit bs := fun x hx => hb x (List.mem_cons_of_mem _ hx)
    unfold fallenL at e1 e2
    rcases h1 with rfl | rfl <;> rcases h2 with rfl | rfl
    · simp at e1 e2
      rw [fallen_both as bs _ _ h3 h4 (by simpa using hl) e1 e2]
    · simp at e2
    · simp at e1
    · simp at e1 e2
      rw [fallen_both as bs _ _ h3 h4 (by simpa using hl) e1 e2]
  | [], _ :: _, _, _, _, _, hl, _, _ => by simp at hl
  | _ :: _, [], _, _, _, _, hl, _, _ => by simp at hl
theorem fallen_self : ∀ (as : List Int) (k : Int), fallenL k as as = []
  | [], _ => rfl
  | a :: as, k => by
    unfold fallenL
    rw [if_neg (by omega)]
    exact fallen_self as _
theorem fallen_len : ∀ (as bs : List Int) (k : Int), (fallenL k as bs).length ≤ as.length
  | [], _, _ => by simp [fallenL]
  | _ :: _, [], _ => by simp [fallenL]
  | a :: as, b :: bs, k => by
    unfold fallenL
    have i := fallen_len as bs (k + 1)
    split <;> simp only [List.length_cons] <;> omega
/-- the mask of no bit, and one that reaches beyond all -/
theorem turned_zero : ∀ (as bs : List Int), as.length = bs.length → turned as bs 0 = as
  | [], [], _ => rfl
  | a :: as, b :: bs, h => by
    have h' : as.length = bs.length := by simpa using h
    unfold turned
    split
    · rw [turned_zero as bs h']
    · have e : (0 : Int) / 2 = 0 := rfl
      rw [if_neg (by decide), e, turned_zero as bs h']
  | [], _ :: _, h => by simp at h
  | _ :: _, [], h => by simp at h
theorem unlike_eq : ∀ (as bs : List Int) (k l : Int), Bit as → Bit bs → as.length = bs.length → unlike as bs = (fallenL k as bs).length + (fallenL l bs as).length
  | [], [], _, _, _, _, _ => rfl
  | a :: as, b :: bs, k, l, ha, hb, hl => by
    have h1 := ha a List.mem_cons_self
    have h2 := hb b List.mem_cons_self
    have h3 : Bit as := fun x hx => ha x (List.mem_cons_of_mem _ hx)
    have h4 : Bit bs := fun x hx => hb x (List.mem_cons_of_mem _ hx)
    have i := unlike_eq as bs (k + 1) (l + 1) h3 h4 (by simpa using hl)
    unfold fallenL unlike
    rcases h1 with rfl | rfl <;> rcases h2 with rfl | rfl <;> simp <;> omega
  | [], _ :: _, _, _, _, _, hl => by simp at hl
  | _ :: _, [], _, _, _, _, hl => by simp at hl
theorem pow2_odd (n : Nat) : ((2 : Int) ^ (n + 1) - 1) % 2 = 1 ∧ ((2 : Int) ^ (n + 1) - 1) / 2 = 2 ^ n - 1 := by
  have e : (2 : Int) ^ (n + 1) = 2 * 2 ^ n := by rw [Int.pow_succ]; omega
  omega
/-- all ones up to the last unlike bit: the new ones -/
theorem turned_ones : ∀ (as bs : List Int) (n : Nat), as.length = bs.length → unlike as bs ≤ n → turned as bs (2 ^ n - 1) = bs
  | [], [], _, _, _ => rfl
  | a :: as, b :: bs, n, h, hu => by
    have h' : as.length = bs.length := by simpa using h
    unfold unlike at hu
    unfold turned
    split
    · rename_i e
      rw [if_pos e] at hu
      rw [turned_ones as bs n h' (by omega), e]
    · rename_i e
      rw [if_neg e] at hu
      obtain ⟨k, rfl⟩ : ∃ k, n = k + 1 := ⟨n - 1, by omega⟩
      obtain ⟨o1, o2⟩ := pow2_odd k
      rw [if_pos o1, o2, turned_ones as bs k h' (by omega)]
  | [], _ :: _, _, h, _ => by simp at h
  | _ :: _, [], _, h, _ => by simp at h
/-- a mask whose first n bits are 0, where at most n bits are unlike: nothing turns -/
theorem turned_beyond : ∀ (as bs : List Int) (n : Nat), as.length = bs.length → unlike as bs ≤ n → turned as bs (2 ^ n) = as
  | [], [], _, _, _ => rfl
  | a :: as, b :: bs, n, h, hu => by
    have h' : as.length = bs.length := by simpa using h
    unfold unlike at hu
    unfold turned
    split
    · rename_i e
      rw [if_pos e] at hu
      rw [turned_beyond as bs n h' (by omega)]
    · rename_i e
      rw [if_neg e] at hu
      obtain ⟨k, rfl⟩ : ∃ k, n = k + 1 := ⟨n - 1, by omega⟩
      have e1 : (2 : Int) ^ (k + 1) = 2 * 2 ^ k := by rw [Int.pow_succ]; omega
      have e2 : ((2 : Int) ^ (k + 1)) % 2 = 0 := by omega
      have e3 : ((2 : Int) ^ (k + 1)) / 2 = 2 ^ k := by omega
      rw [if_neg (by omega), e3, turned_beyond as bs k h' (by omega)]
  | [], _ :: _, _, h, _ => by simp at h
  | _ :: _, [], _, h, _ => by simp at h
/-- 4096 ones: the first 4096 unlike bits turn, the others stay -/
theorem turned_first : ∀ (n m : Nat), turned (List.replicate (n + m) 1) (List.replicate (n + m) 0) (2 ^ n - 1) = List.replicate n 0 ++ List.replicate m 1
  | 0, m => by
    have e : ((2 : Int) ^ 0 - 1) = 0 := rfl
    rw [e, Nat.zero_add, turned_zero _ _ (by simp)]
    simp
  | n + 1, m => by
    have e : n + 1 + m = (n + m) + 1 := by omega
    rw [e, List.replicate_succ, List.replicate_succ, List.replicate_succ]
    unfold turned
    obtain ⟨o1, o2⟩ := pow2_odd n
    rw [if_neg (by decide), if_pos o1, o2, turned_first n m]
    rfl
theorem fold_bound : ∀ (l : List Int) (n : Int), Bit l → 0 ≤ n → 0 ≤ l.foldl (fun n b => 2 * n + b) n ∧ l.foldl (fun n b => 2 * n + b) n + 1 ≤ (n + 1) * 2 ^ l.length
  | [], n, _, h => by simp [h]
  | b :: l, n, hb, h => by
    have h1 := hb b List.mem_cons_self
    have h2 : Bit l := fun x hx => hb x (List.mem_cons_of_mem _ hx)
    obtain ⟨i1, i2⟩ := fold_bound l (2 * n + b) h2 (by omega)
    refine ⟨i1, ?_⟩
    rw [List.foldl_cons, List.length_cons, Int.pow_succ]
    have p : (0 : Int) ≤ 2 ^ l.length := Int.pow_nonneg (by decide)
    have m : (2 * n + b + 1) * 2 ^ l.length ≤ (2 * (n + 1)) * 2 ^ l.length := Int.mul_le_mul_of_nonneg_right (by omega) p
    have e : (2 * (n + 1)) * 2 ^ l.length = (n + 1) * (2 ^ l.length * 2) := by
      rw [Int.mul_comm 2 (n + 1), Int.mul_assoc, Int.mul_comm 2]
    omega
theorem octOf_bound {l : List Int} (h : Bit l) (hl : l.length ≤ 8) : 0 ≤ octOf l ∧ octOf l < 256 := by
  obtain ⟨h1, h2⟩ := fold_bound l 0 h (Int.le_refl 0)
  have p : (2 : Int) ^ l.length ≤ 2 ^ 8 := by
    have q : (2 : Nat) ^ l.length ≤ 2 ^ 8 := Nat.pow_le_pow_right (by decide) hl
    exact_mod_cast q
  have e : (2 : Int) ^ 8 = 256 := rfl
  unfold octOf
  omega
theorem Bit.take {l : List Int} (h : Bit l) (n : Nat) : Bit (l.take n) := fun x hx => h x (List.mem_of_mem_take hx)
theorem Bit.drop {l : List Int} (h : Bit l) (n : Nat) : Bit (l.drop n) := fun x hx => h x (List.mem_of_mem_drop hx)
end BM
/-! bits of octets and the operators on bits -/
namespace BM
/-- bit k of a number, as an int -/
def tb (n k : Nat) : Int := if n.testBit k then 1 else 0
theorem tb_div (n k : Nat) : ((n : Int) / ((2 ^ k : Nat) : Int)) % 2 = tb n k := by
  unfold tb
  rw [Nat.testBit_eq_decide_div_mod_eq]
  have e : ((n : Int) / ((2 ^ k : Nat) : Int)) % 2 = ((n / 2 ^ k % 2 : Nat) : Int) := by simp
  rw [e]
  by_cases h : n / 2 ^ k % 2 = 1
  · rw [h]
    simp
  · have h0 : n / 2 ^ k % 2 = 0 := by omega
    rw [h0]
    simp
theorem bitsOf_tb (n : Nat) : bitsOf (n : Int) = [tb n 7, tb n 6, tb n 5, tb n 4, tb n 3, tb n 2, tb n 1, tb n 0] := by
  have h7 := tb_div n 7
  have h6 := tb_div n 6
  have h5 := tb_div n 5
  have h4 := tb_div n 4
  have h3 := tb_div n 3
  have h2 := tb_div n 2
  have h1 := tb_div n 1
  have h0 := tb_div n 0
  unfold bitsOf
  rw [← h7, ← h6, ← h5, ← h4, ← h3, ← h2, ← h1, ← h0]
  rfl
theorem tb_bit (n k : Nat) : tb n k = 0 ∨ tb n k = 1 := by
  unfold tb
  split
  · exact .inr rfl
  · exact .inl rfl
theorem tb_and (a b k : Nat) : tb (a &&& b) k = if tb a k = 1 ∧ tb b k = 1 then 1 else 0 := by
  unfold tb
  rw [Nat.testBit_and]
  cases a.testBit k <;> cases b.testBit k <;> simp
theorem tb_or (a b k : Nat) : tb (a ||| b) k = if tb a k = 1 ∨ tb b k = 1 then 1 else 0 := by
  unfold tb
  rw [Nat.testBit_or]
  cases a.testBit k <;> cases b.testBit k <;> simp
theorem tb_xor (a b k : Nat) : tb (a ^^^ b) k = if tb a k = tb b k then 0 else 1 := by
  unfold tb
  rw [Nat.testBit_xor]
  cases a.testBit k <;> cases b.testBit k <;> simp
theorem le_app : ∀ {a b c d : List Int}, Le a b → Le c d → Le (a ++ c) (b ++ d)
  | [], [], _, _, _, h => h
  | _ :: _, _ :: _, _, _, h, h' => ⟨h.1, le_app h.2 h'⟩
  | [], _ :: _, _, _, h, _ => h.elim
  | _ :: _, [], _, _, h, _ => h.elim
theorem and_le (a b : Nat) : Le (bitsOf ((a &&& b : Nat) : Int)) (bitsOf (a : Int)) := by
  have key : ∀ k, tb (a &&& b) k ≤ tb a k := by
    intro k
    rw [tb_and]
    have := tb_bit a k
    split <;> omega
  rw [bitsOf_tb, bitsOf_tb]
  exact ⟨key 7, key 6, key 5, key 4, key 3, key 2, key 1, key 0, True.intro⟩
theorem le_or (a b : Nat) : Le (bitsOf (a : Int)) (bitsOf ((a ||| b : Nat) : Int)) := by
  have key : ∀ k, tb a k ≤ tb (a ||| b) k := by
    intro k
    rw [tb_or]
    have := tb_bit a k
    split <;> omega
  rw [bitsOf_tb, bitsOf_tb]
  exact ⟨key 7, key 6, key 5, key 4, key 3, key 2, key 1, key 0, True.intro⟩
theorem bits255 : bitsOf 255 = [1, 1, 1, 1, 1, 1, 1, 1] := by decide
theorem le_255 (o : Int) : Le (bitsOf o) (bitsOf 255) := by
  have key : ∀ b ∈ bitsOf o, b ≤ 1 := fun b hb => by
    have := bitsOf_bit hb
    omega
  rw [bits255]
  unfold bitsOf at key ⊢
  exact ⟨key _ (by simp), key _ (by simp), key _ (by simp), key _ (by simp), key _ (by simp), key _ (by simp), key _ (by simp), key _ (by simp), True.intro⟩
/-- lists of octets, pair by pair -/
theorem bitsL_le : ∀ {xs ys : List Int}, xs.length = ys.length → (∀ p ∈ xs.zip ys, Le (bitsOf p.1) (bitsOf p.2)) → Le (bitsL xs) (bitsL ys)
  | [], [], _, _ => True.intro
  | x :: xs, y :: ys, hl, h => by
    rw [bitsL_cons, bitsL_cons]
    exact le_app (h (x, y) (by simp)) (bitsL_le (by simpa using hl) fun p hp => h p (by simp [hp]))
  | [], _ :: _, hl, _ => by simp at hl
  | _ :: _, [], hl, _ => by simp at hl
theorem nat_of {o : Int} (h : 0 ≤ o) : ∃ n : Nat, o = n := ⟨o.toNat, by omega⟩
theorem and_oct {a b : Nat} (ha : a ≤ 255) : (a &&& b) ≤ 255 := Nat.le_trans Nat.and_le_left ha
theorem or_oct {a b : Nat} (ha : a ≤ 255) (hb : b ≤ 255) : (a ||| b) ≤ 255 := by
  have h : (a ||| b) < 2 ^ 8 := Nat.or_lt_two_pow (by omega) (by omega)
  omega
theorem xor_oct {a b : Nat} (ha : a ≤ 255) (hb : b ≤ 255) : (a ^^^ b) ≤ 255 := by
  have h : (a ^^^ b) < 2 ^ 8 := Nat.xor_lt_two_pow (by omega) (by omega)
  omega
/-- one more bit -/
theorem fallen_snoc : ∀ (as bs : List Int) (k x y : Int), as.length = bs.length → fallenL k (as ++ [x]) (bs ++ [y]) = fallenL k as bs ++ (if x = 1 ∧ y = 0 then [k + (as.length : Int)] else [])
  | [], [], k, x, y, _ => by
    simp [fallenL]
  | a :: as, b :: bs, k, x, y, h => by
    have i := fallen_snoc as bs (k + 1) x y (by simpa using h)
    rw [List.cons_append, List.cons_append]
    unfold fallenL
    have e : k + 1 + (as.length : Int) = k + ((a :: as).length : Int) := by
      rw [List.length_cons]
      omega
    rw [e] at i
    split <;> simp [i]
  | [], _ :: _, _, _, _, h => by simp at h
  | _ :: _, [], _, _, _, h => by simp at h
end BM
/-! bits that are 1, bits that are unlike, one bit turned -/
namespace BM
/-- the indices of the ones, from k on -/
def onesL : Int → List Int → List Int
  | _, [] => []
  | k, b :: r => if b = 1 then k :: onesL (k + 1) r else onesL (k + 1) r
/-- the indices of the unlike ones -/
def diffL : Int → List Int → List Int → List Int
  | k, a :: as, b :: bs => if a = b then diffL (k + 1) as bs else k :: diffL (k + 1) as bs
  | _, _, _ => []
theorem onesL_app : ∀ (a b : List Int) (k : Int), onesL k (a ++ b) = onesL k a ++ onesL (k + (a.length : Int)) b
  | [], b, k => by simp [onesL]
  | x :: a, b, k => by
    have e : k + ((x :: a).length : Int) = k + 1 + (a.length : Int) := by simp; omega
    rw [List.cons_append, onesL, onesL, onesL_app a b (k + 1), e]
    split <;> simp
theorem onesL_snoc (a : List Int) (x : Int) : onesL 0 (a ++ [x]) = onesL 0 a ++ (if x = 1 then [(a.length : Int)] else []) := by
  rw [onesL_app]
  simp [onesL]
theorem onesL_len : ∀ (a : List Int) (k : Int), (onesL k a).length ≤ a.length
  | [], k => by simp [onesL]
  | x :: a, k => by
    have := onesL_len a (k + 1)
    rw [onesL]
    split <;> simp <;> omega
/-- of two bits -/
theorem ones_of {f : Int → Int → Int} (P : List Int → List Int → Int → List Int) (c : Int → Int → Prop) [∀ a b, Decidable (c a b)] (h0 : ∀ k, P [] [] k = []) (h1 : ∀ a as b bs k, P (a :: as) (b :: bs) k = if c a b then k :: P as bs (k + 1) else P as bs (k + 1))
    (h : ∀ a b, (a = 0 ∨ a = 1) → (b = 0 ∨ b = 1) → (f a b = 1 ↔ c a b)) : ∀ (as bs : List Int) (k : Int), as.length = bs.length → Bit as → Bit bs → onesL k (List.zipWith f as bs) = P as bs k
  | [], [], k, _, _, _ => by simp [onesL, h0]
  | [], _ :: _, k, e, _, _ => by simp at e
  | _ :: _, [], k, e, _, _ => by simp at e
  | a :: as, b :: bs, k, e, ha, hb => by
    have r := ones_of P c h0 h1 h as bs (k + 1) (by simpa using e) (fun x hx => ha x (List.mem_cons_of_mem _ hx)) (fun x hx => hb x (List.mem_cons_of_mem _ hx))
    have q := h a b (ha a (List.mem_cons_self ..)) (hb b (List.mem_cons_self ..))
    rw [List.zipWith_cons_cons, onesL, h1, r]
    by_cases z : c a b
    · rw [if_pos z, if_pos (q.mpr z)]
    · rw [if_neg z, if_neg (fun y => z (q.mp y))]
/-- the bits of two lists of octets, put together -/
theorem bitsL_both {g : Int → Int → Int} {f : Int → Int → Int} (h : ∀ x y, 0 ≤ x ∧ x ≤ 255 → 0 ≤ y ∧ y ≤ 255 → bitsOf (g x y) = List.zipWith f (bitsOf x) (bitsOf y)) :
    ∀ xs ys : List Int, Oct xs → Oct ys → bitsL ((xs.zip ys).map fun p => g p.1 p.2) = List.zipWith f (bitsL xs) (bitsL ys)
  | [], ys, _, _ => by simp [bitsL]
  | x :: xs, [], _, _ => by simp [bitsL]
  | x :: xs, y :: ys, hx, hy => by
    have r := bitsL_both h xs ys (fun o ho => hx o (List.mem_cons_of_mem _ ho)) (fun o ho => hy o (List.mem_cons_of_mem _ ho))
    have q := h x y (hx x (List.mem_cons_self ..)) (hy y (List.mem_cons_self ..))
    rw [List.zip_cons_cons, List.map_cons, bitsL_cons, bitsL_cons, bitsL_cons, r, q, List.zipWith_append (by rw [bitsOf_len, bitsOf_len])]
/-- where lists part -/
theorem diff_at : ∀ (as bs : List Int) (k p : Int) (rest : List Int), as.length = bs.length → diffL k as bs = p :: rest →
    ∃ (pre : List Int) (x y : Int) (as' bs' : List Int), as = pre ++ x :: as' ∧ bs = pre ++ y :: bs' ∧ x ≠ y ∧ p = k + (pre.length : Int) ∧ rest = diffL (p + 1) as' bs' ∧ as'.length = bs'.length ∧
      ∀ m, turned as bs m = pre ++ (if m % 2 = 1 then y else x) :: turned as' bs' (m / 2)
  | [], _, k, p, rest, _, h => by simp [diffL] at h
  | _ :: _, [], k, p, rest, e, h => by simp at e
  | a :: as, b :: bs, k, p, rest, e, h => by
    rw [diffL] at h
    by_cases z : a = b
    · rw [if_pos z] at h
      obtain ⟨pre, x, y, as', bs', h1, h2, h3, h4, h5, h6, h7⟩ := diff_at as bs (k + 1) p rest (by simpa using e) h
      refine ⟨a :: pre, x, y, as', bs', by rw [h1]; rfl, by rw [h2, z]; rfl, h3, by simp; omega, h5, h6, fun m => ?_⟩
      rw [turned, if_pos z, h7 m]
      rfl
    · rw [if_neg z] at h
      obtain ⟨rfl, rfl⟩ := List.cons.inj h
      refine ⟨[], a, b, as, bs, rfl, rfl, z, by simp, rfl, by simpa using e, fun m => ?_⟩
      rw [turned, if_neg z]
      rfl
theorem diff_nil : ∀ (as bs : List Int) (k : Int), as.length = bs.length → diffL k as bs = [] → as = bs
  | [], [], k, _, _ => rfl
  | [], _ :: _, k, e, h => by simp at e
  | _ :: _, [], k, e, h => by simp at e
  | a :: as, b :: bs, k, e, h => by
    rw [diffL] at h
    by_cases z : a = b
    · rw [if_pos z] at h
      rw [z, diff_nil as bs (k + 1) (by simpa using e) h]
    · rw [if_neg z] at h
      cases h
theorem turned_same : ∀ (as : List Int) (m : Int), turned as as m = as
  | [], m => by simp [turned]
  | a :: as, m => by rw [turned, if_pos rfl, turned_same as m]
/-- the j-th bit of an octet -/
theorem bit_at : ∀ o : Nat, o < 256 → ∀ j : Nat, j < 8 → (bitsOf (o : Int))[j]? = some (((o &&& (128 / 2 ^ j)) / (128 / 2 ^ j) : Nat) : Int) := by decide +kernel
theorem bit_on : ∀ o : Nat, o < 256 → ∀ j : Nat, j < 8 → (o &&& (128 / 2 ^ j) ≠ 0 ↔ (bitsOf (o : Int))[j]? = some 1) := by decide +kernel
theorem bit_turn : ∀ o : Nat, o < 256 → ∀ j : Nat, j < 8 → o ^^^ (128 / 2 ^ j) < 256 ∧ bitsOf ((o ^^^ (128 / 2 ^ j) : Nat) : Int) = (bitsOf (o : Int)).set j (1 - (bitsOf (o : Int)).getD j 0) := by decide +kernel
theorem bitsL_get : ∀ (os : List Int) (i j : Nat), j < 8 → (bitsL os)[8 * i + j]? = (os[i]?).bind fun o => (bitsOf o)[j]?
  | [], i, j, _ => by simp [bitsL]
  | o :: os, 0, j, h => by
    rw [bitsL_cons, Nat.mul_zero, Nat.zero_add, List.getElem?_append_left (by rw [bitsOf_len]; exact h)]
    simp
  | o :: os, i + 1, j, h => by
    have e : 8 * (i + 1) + j = 8 + (8 * i + j) := by omega
    rw [bitsL_cons, e, List.getElem?_append_right (by rw [bitsOf_len]; omega), bitsOf_len, Nat.add_sub_cancel_left, bitsL_get os i j h]
    simp
theorem bitsL_set : ∀ (os : List Int) (i j : Nat) (o o' : Int) (b : Int), j < 8 → os[i]? = some o → bitsOf o' = (bitsOf o).set j b → bitsL (os.set i o') = (bitsL os).set (8 * i + j) b
  | [], i, j, o, o', b, _, h, _ => by simp at h
  | x :: os, 0, j, o, o', b, hj, h, q => by
    have e : x = o := by simpa using h
    subst e
    rw [List.set_cons_zero, bitsL_cons, bitsL_cons, q, Nat.mul_zero, Nat.zero_add, List.set_append_left _ _ (by rw [bitsOf_len]; exact hj)]
  | x :: os, i + 1, j, o, o', b, hj, h, q => by
    have e : 8 * (i + 1) + j = 8 + (8 * i + j) := by omega
    have h' : os[i]? = some o := by simpa using h
    rw [List.set_cons_succ, bitsL_cons, bitsL_cons, bitsL_set os i j o o' b hj h' q, e, List.set_append_right _ _ (by rw [bitsOf_len]; omega), bitsOf_len, Nat.add_sub_cancel_left]
end BM
/-! f'{n:b}', n an octet -/
namespace PySem.W
open PySem PySem.Calls PyProof.Rows
open Builtin Builtin.Str Builtin.Int Builtin.Float
/-- the binary text of n -/
def binT (n : Nat) : PySem.Str := ⟨((Nat.toDigits 2 n).map Char.toNat).toArray⟩
theorem binT_len : ∀ n : Nat, n < 256 → (binT n).length ≤ 8 := by decide +kernel
theorem meets_bin' {spec : PySem.Str} {f : FormatSpec} (n : Nat) (hn : n < 256) (t u : Tok) (hne : (spec.length == 0) = false)
    (hasc : ((spec.cps.toList.drop 1).any (· ≥ 128) || (spec.cps.getD 0 0 ≥ 128 && !([60, 62, 61, 94] : List Nat).contains (spec.cps.getD 1 0))) = false)
    (hp : parseFormatSpec spec.cps.toList "int" 62 = .ok f) (hf : f = { align := 62, type := some 98 }) :
    Meets (Builtin.«int.__format__» ⟨[.int (n : Int) t, .str spec u], []⟩) (fun _ R s => ∀ t' k, R (.ok (.ret (.str (binT n) t'))) { s with toks := k }) := by
  apply KPc.meets_of
  intro prog w A s Q E h
  unfold Builtin.«int.__format__»
  simp only [selfAndOne, noKeywords, Int.intOfSelf, asInt?, asStr?, List.isEmpty_nil, if_true, pure_bind, bind_pure, bind_assoc, hne, hasc, Bool.false_eq_true, if_false,
    show (Value.str spec u == Value.none) = false from rfl]
  refine wpAny_bind (wpAny_typeNameOf (T := "str") (typeIs_str _ _ _) (by decide) fun _ => ?_)
  refine wpAny_bind (wpAny_typeNameOfCut_int ?_)
  simp only [hp]
  have hty : f.type = some 98 := by rw [hf]
  simp only [hty, Option.getD_some]
  rw [if_pos (by decide)]
  have hpr : f.precision = none := by rw [hf]
  have hz : f.noNeg0 = false := by rw [hf]
  have hal : f.alt = false := by rw [hf]
  have hw : f.width.getD 0 = 0 := by rw [hf]; rfl
  clear hp hasc hne
  show wpAny _ _ (if _ then _ else _) _ _ _
  rw [if_neg (by simp [hpr])]
  show wpAny _ _ (if _ then _ else _) _ _ _
  rw [if_neg (by simp [hz])]
  show wpAny _ _ (if _ then _ else _) _ _ _
  rw [if_neg (by decide)]
  show wpAny _ _ (if _ then _ else _) _ _ _
  rw [if_neg (by decide)]
  show wpAny _ _ (if _ then _ else _) _ _ _
  rw [if_neg (by omega)]
  refine KXf.ret_text (T := binT n) ?_ ?_ h
  · clear h
    subst hf
    clear hty hpr hz hal hw
    revert n
    decide +kernel
  · clear h
    subst hf
    clear hty hpr hz hal hw
    revert n
    decide +kernel
/-- {e:b}, a field of an octet -/
theorem bin_field {prog : Program} {w : World} {A : Around} {E : Value → Shared → Prop} {s : Shared} {n : Nat} {t : Tok} {Q : Value → Shared → Prop} (hn : n < 256) (h : ∀ t' k, Q (.str (binT n) t') { s with toks := k }) :
    wpAny (model prog w) A (formatField (.int (n : Int) t) "b") Q E s :=
  KXf.field_meets (by decide) (fun s' => typeIs_int s' n t) F.slot_int_format F.entry_int_format F.args_int_format_2 (by decide) (fun u => meets_bin' n hn t u (by decide) (by decide) (by rfl) rfl) h
theorem bin_count : ∀ n : Nat, n < 256 → PySem.Txt.count (binT n) "1" = (([n / 128 % 2, n / 64 % 2, n / 32 % 2, n / 16 % 2, n / 8 % 2, n / 4 % 2, n / 2 % 2, n / 1 % 2].count 1 : Nat) : Int) := by decide +kernel
end PySem.W
namespace VB
open PySem PySem.Spec PyProof.Rows L2
section
variable {X : Cx} {e : Expr} {te : TE} {p1 p2 p3 p4 : Pos} {j : Nat}
/-- f'{e:b}', e an octet -/
def tBin (te : TE) : TE := fun σ H Q => te σ H fun x H1 => ∃ n : Nat, x = .int (n : Int) ∧ n < 256 ∧ Q (.str (PySem.W.binT n)) H1
theorem pe_bin (he : PE X e te) : PE X (.JoinedStr [.FormattedValue e (-1) (some (.JoinedStr [.Constant (.str "b") j p1] p2)) p3] p4) (tBin te) := by
  refine pe_joined1 ⟨fun pins s σ H Q I h => wpAny_FormattedValue_spec (thn (he.run pins s σ H _ I h) fun v s1 hv => ?_)⟩
  obtain ⟨x, H1, I1, r1, n, rfl, hn, q⟩ := hv
  obtain ⟨t, rfl⟩ := r1
  refine thn ((pe_joined1 (pos := p2) (pe_str (x := "b") (j := j) (pos := p1))).run pins s1 σ H1 (fun y H2 => y = .str "b" ∧ H2 = H1) I1 ⟨rfl, rfl⟩) fun w s2 hw => ?_
  obtain ⟨y, H2, I2, r2, rfl, rfl⟩ := hw
  obtain ⟨t2, rfl⟩ := r2
  exact ⟨_, _, rfl, PySem.W.bin_field hn fun t' k => ⟨.str (PySem.W.binT n), H2, I2.tok _, ⟨_, rfl⟩, q⟩⟩
end
end VB
/-! zip of two sequences, each a list or a tuple -/
namespace VB
open PySem PySem.Spec PyProof.Rows L2
/-- a list (false) or a tuple (true) at l -/
def Sq (t : Bool) (h : Heap) (l : Addr) (xs : Array Value) : Prop := match t with
  | false => h.IsList l xs
  | true => h.IsTuple l xs
/-- its iterator at i, at the k-th place -/
def Si (t : Bool) (h : Heap) (i l : Addr) (k : Nat) : Prop := match t with
  | false => h.IsListIter i l k
  | true => h.IsTupleIter i l k
section
variable {t u : Bool} {h h' : Heap} {i l b : Addr} {k : Nat} {xs ys : Array Value}
theorem Sq.ext (x : Sq t h l xs) (e : Heap.ExtBut b h h') (n : l ≠ b) : Sq t h' l xs := by
  cases t with
  | false => exact Heap.IsList.extBut (show h.IsList l xs from x) e n
  | true => exact Heap.IsTuple.extBut (show h.IsTuple l xs from x) e n
theorem Si.ext (x : Si t h i l k) (e : Heap.ExtBut b h h') (n : i ≠ b) : Si t h' i l k := by
  cases t with
  | false => exact Heap.IsListIter.extBut (show h.IsListIter i l k from x) e n
  | true => exact Heap.IsTupleIter.extBut (show h.IsTupleIter i l k from x) e n
theorem Sq.psh (x : Sq t h l xs) (o : Obj) : Sq t (h.push o) l xs := by
  cases t with
  | false => exact Heap.IsList.push (show h.IsList l xs from x) o
  | true => exact Heap.IsTuple.push (show h.IsTuple l xs from x) o
theorem Si.stay (x : Si t h i l k) (e : ∀ o, h.get? i = some o → h'.get? i = some o) : Si t h' i l k := by
  cases t with
  | false => exact Heap.IsListIter.at (show h.IsListIter i l k from x) e
  | true => exact Heap.IsTupleIter.at (show h.IsTupleIter i l k from x) e
theorem Si.obj (x : Si t h i l k) : ∃ o, h.get? i = some o ∧ ∀ v, o.data ≠ .cell v := by
  cases t with
  | false =>
    obtain ⟨o, e, _, d⟩ := (show h.IsListIter i l k from x)
    exact ⟨o, e, fun v q => by rw [d] at q; cases q⟩
  | true =>
    obtain ⟨o, e, _, d⟩ := (show h.IsTupleIter i l k from x)
    exact ⟨o, e, fun v q => by rw [d] at q; cases q⟩
end
section
variable {prog : Program} {w : World} {A : Around} {E : Value → Shared → Prop} {s : Shared} {t u : Bool}
  {z T1 T2 i1 i2 l1 l2 : Addr} {k1 k2 : Nat} {xs ys : Array Value} {x y c d : Value}
theorem draw_item {it l : Addr} {k : Nat} {Q : Value → Shared → Prop} (hi : Si t s.heap it l k) (hl : Sq t s.heap l xs)
    (hx : xs[k]? = some x) (hq : ∀ h', Si t h' it l (k + 1) → Heap.SameBut it s.heap h' → Q x { s with heap := h' }) :
    wpAny (model prog w) A (Builtin.SmallTypes.nextOf (.ref it)) Q E s := by
  cases t with
  | false => exact wpAny_nextOf_list_item (show s.heap.IsListIter it l k from hi) (show s.heap.IsList l xs from hl) hx hq
  | true => exact RZ.nextOf_tuple_item (show s.heap.IsTupleIter it l k from hi) (show s.heap.IsTuple l xs from hl) hx hq
theorem draw_end {it l : Addr} {k : Nat} {Q : Value → Shared → Prop} (hh : A.handled = none) (hi : Si t s.heap it l k)
    (hl : Sq t s.heap l xs) (hx : xs[k]? = none)
    (he : ∀ h' e, Heap.ExtBut it s.heap h' → (∃ o, h'.get? e = some o ∧ o.cls = .type "StopIteration") → E (.ref e) { s with heap := h' }) :
    wpAny (model prog w) A (Builtin.SmallTypes.nextOf (.ref it)) Q E s := by
  cases t with
  | false => exact wpAny_nextOf_list_end hh (show s.heap.IsListIter it l k from hi) (show s.heap.IsList l xs from hl) hx he
  | true => exact RZ.nextOf_tuple_end hh (show s.heap.IsTupleIter it l k from hi) (show s.heap.IsTuple l xs from hl) hx he

/-- what a turn of the zip object leaves -/
structure ZTurn (t u : Bool) (h h' : Heap) (z T1 T2 i1 i2 l1 l2 : Addr) (k1 k2 : Nat) (x y : Value) : Prop where
  zip : IsZip h' z T1 T2 (rawInt h.objs.size)
  out : IsPair h' T2 x y
  it1 : Si t h' i1 l1 (k1 + 1)
  it2 : Si u h' i2 l2 (k2 + 1)
  new : IsPair h' h.objs.size x y
  size : h'.objs.size = h.objs.size + 1
  keep : ∀ b o, b ≠ z → b ≠ T2 → b ≠ i1 → b ≠ i2 → h.get? b = some o → h'.get? b = some o

theorem zmix_item {Q : Value → Shared → Prop} (D : ZipApart z T1 T2 i1 i2 l1 l2) (hz : IsZip s.heap z T1 T2 .none)
    (h1 : IsPair s.heap T1 (.ref i1) (.ref i2)) (h2 : IsPair s.heap T2 c d) (a1 : Si t s.heap i1 l1 k1) (a2 : Si u s.heap i2 l2 k2)
    (b1 : Sq t s.heap l1 xs) (b2 : Sq u s.heap l2 ys) (hx : xs[k1]? = some x) (hy : ys[k2]? = some y)
    (hq : ∀ h', ZTurn t u s.heap h' z T1 T2 i1 i2 l1 l2 k1 k2 x y → Q (.ref s.heap.objs.size) { s with heap := h' }) :
    wpAny (model prog w) A (Builtin.«zip.__next__» ⟨[.ref z], []⟩) (fun fin s' => ∃ v, fin = .done (.ret v) ∧ Q v s') E s := by
  show wpAny _ _ (field (.ref z) 2 >>= _) _ _ _
  refine wpAny_bind (wpAny_field hz rfl (x := .bool false) rfl ?_)
  show wpAny _ _ (field (.ref z) 3 >>= _) _ _ _
  refine wpAny_bind (wpAny_field hz rfl (x := .ref T1) rfl ?_)
  refine wpAny_bind (wpAny_seqItems h1 rfl ?_)
  show wpAny _ _ (Builtin.SmallTypes.ownedTupleIsFree (.ref z) >>= _) _ _ _
  refine wpAny_bind ?_
  unfold Builtin.SmallTypes.ownedTupleIsFree
  refine wpAny_bind (wpAny_field hz rfl (x := .none) rfl (wpAny_pure ?_))
  simp only [if_true]
  refine wpAny_bind (wpAny_rule ?_)
  refine wpAny_bind (wpAny_field hz rfl (x := .ref T2) rfl ?_)
  refine wpAny_bind (wpAny_setField_rec hz (by simp) ?_)
  intro g1 zg1 s1
  replace zg1 : IsZip g1 z T1 T2 .ellipsis := zg1
  refine wpAny_bind ?_
  simp only [List.zipIdx_cons, List.zipIdx_nil, List.forIn_cons, List.forIn_nil]
  -- the first one's item
  refine wpAny_bind (wpAny_bind (wpAny_onRaise ?_))
  show wpAny _ _ (Builtin.SmallTypes.nextOf (.ref i1) >>= _) _ _ _
  refine wpAny_bind (draw_item (a1.ext s1.extBut D.i1z) (b1.ext s1.extBut D.l1z) hx ?_)
  intro g2 n1 s2
  refine wpAny_pure ?_
  have o2 : IsPair g2 T2 c d := s2.extBut _ _ D.TOi1 (s1.extBut _ _ D.TOz h2)
  refine wpAny_bind (wpAny_seqItems o2 rfl ?_)
  refine wpAny_bind (wpAny_updateSeq_pair o2 ?_)
  intro g3 o3 s3
  replace o3 : IsPair g3 T2 x d := o3
  refine wpAny_bind (wpAny_letGo (wpAny_pure ?_))
  -- the second one's
  refine wpAny_bind (wpAny_bind (wpAny_onRaise ?_))
  show wpAny _ _ (Builtin.SmallTypes.nextOf (.ref i2) >>= _) _ _ _
  refine wpAny_bind (draw_item (((a2.ext s1.extBut D.i2z).ext s2.extBut D.i12.symm).ext s3.extBut D.TOi2.symm)
    (((b2.ext s1.extBut D.l2z).ext s2.extBut D.l2i1).ext s3.extBut D.l2TO) hy ?_)
  intro g4 n2 s4
  refine wpAny_pure ?_
  have o4 : IsPair g4 T2 x d := s4.extBut _ _ D.TOi2 o3
  refine wpAny_bind (wpAny_seqItems o4 rfl ?_)
  refine wpAny_bind (wpAny_updateSeq_pair o4 ?_)
  intro g5 o5 s5
  replace o5 : IsPair g5 T2 x y := o5
  refine wpAny_bind (wpAny_letGo (wpAny_pure (wpAny_pure ?_)))
  -- the pair
  refine wpAny_bind (wpAny_seqItems o5 rfl ?_)
  refine wpAny_bind (wpAny_newTuple ?_)
  have sz : g5.objs.size = s.heap.objs.size := by rw [s5.1, s4.1, s3.1, s2.1, s1.1]
  have z5 : IsZip g5 z T1 T2 .ellipsis :=
    s5.extBut _ _ D.TOz.symm (s4.extBut _ _ D.i2z.symm (s3.extBut _ _ D.TOz.symm (s2.extBut _ _ D.i1z.symm zg1)))
  have kp : ∀ b o, b ≠ z → b ≠ T2 → b ≠ i1 → b ≠ i2 → s.heap.get? b = some o → g5.get? b = some o := by
    intro b o e1 e2 e3 e4 e
    exact s5.extBut _ _ e2 (s4.extBut _ _ e4 (s3.extBut _ _ e2 (s2.extBut _ _ e3 (s1.extBut _ _ e1 e))))
  have m1 : Si t g5 i1 l1 (k1 + 1) := ((n1.ext s3.extBut D.TOi1.symm).ext s4.extBut D.i12).ext s5.extBut D.TOi1.symm
  have m2 : Si u g5 i2 l2 (k2 + 1) := n2.ext s5.extBut D.TOi2.symm
  have zlt : z < g5.objs.size := Heap.lt_size z5
  show wpAny _ _ (Builtin.SmallTypes.ownedTupleHandOut (.ref z) (.ref g5.objs.size) >>= _) _ _ _
  refine wpAny_bind ?_
  unfold Builtin.SmallTypes.ownedTupleHandOut
  have z6 : IsZip (g5.push { cls := .type "tuple", data := .seq #[x, y] }) z T1 T2 .ellipsis := Heap.get?_push_of_some _ z5
  refine wpAny_bind (wpAny_setField_rec z6 (by simp) ?_)
  intro g7 z7 s7
  replace z7 : IsZip g7 z T1 T2 (rawInt g5.objs.size) := z7
  refine wpAny_setField_rec z7 (by simp) ?_
  intro g8 z8 s8
  replace z8 : IsZip g8 z T1 T2 (rawInt g5.objs.size) := z8
  have up : ∀ b o, b ≠ z → g5.get? b = some o → g8.get? b = some o := fun b o n e =>
    s8.extBut _ _ n (s7.extBut _ _ n (Heap.get?_push_of_some _ e))
  have nz : g5.objs.size ≠ z := Nat.ne_of_gt zlt
  have p8 : IsPair g8 g5.objs.size x y := s8.extBut _ _ nz (s7.extBut _ _ nz (Heap.get?_push_size _ rfl))
  have l8 : g8.objs.size = g5.objs.size + 1 := by rw [s8.1, s7.1, Heap.size_push]
  rw [sz] at z8 p8 l8
  refine wpAny_pure ⟨_, rfl, ?_⟩
  show Q (.ref g5.objs.size) _
  rw [sz]
  exact hq g8 ⟨z8, up _ _ D.TOz o5, m1.stay (fun o => up _ o D.i1z), m2.stay (fun o => up _ o D.i2z), p8, l8,
    fun b o e1 e2 e3 e4 e => up b o e1 (kp b o e1 e2 e3 e4 e)⟩

theorem zmix_end {Q : Fin → Shared → Prop} (hh : A.handled = none) (D : ZipApart z T1 T2 i1 i2 l1 l2) (hz : IsZip s.heap z T1 T2 .none)
    (h1 : IsPair s.heap T1 (.ref i1) (.ref i2)) (h2 : IsPair s.heap T2 c d) (a1 : Si t s.heap i1 l1 k1) (a2 : Si u s.heap i2 l2 k2)
    (b1 : Sq t s.heap l1 xs) (b2 : Sq u s.heap l2 ys) (hend : xs[k1]? = none ∨ ys[k2]? = none)
    (he : ∀ h' e, (∀ b o, b ≠ z → b ≠ T2 → b ≠ i1 → b ≠ i2 → s.heap.get? b = some o → h'.get? b = some o) →
      (∃ o, h'.get? e = some o ∧ o.cls = .type "StopIteration") → E (.ref e) { s with heap := h' }) :
    wpAny (model prog w) A (Builtin.«zip.__next__» ⟨[.ref z], []⟩) Q E s := by
  show wpAny _ _ (field (.ref z) 2 >>= _) _ _ _
  refine wpAny_bind (wpAny_field hz rfl (x := .bool false) rfl ?_)
  show wpAny _ _ (field (.ref z) 3 >>= _) _ _ _
  refine wpAny_bind (wpAny_field hz rfl (x := .ref T1) rfl ?_)
  refine wpAny_bind (wpAny_seqItems h1 rfl ?_)
  show wpAny _ _ (Builtin.SmallTypes.ownedTupleIsFree (.ref z) >>= _) _ _ _
  refine wpAny_bind ?_
  unfold Builtin.SmallTypes.ownedTupleIsFree
  refine wpAny_bind (wpAny_field hz rfl (x := .none) rfl (wpAny_pure ?_))
  simp only [if_true]
  refine wpAny_bind (wpAny_rule ?_)
  refine wpAny_bind (wpAny_field hz rfl (x := .ref T2) rfl ?_)
  refine wpAny_bind (wpAny_setField_rec hz (by simp) ?_)
  intro g1 zg1 s1
  replace zg1 : IsZip g1 z T1 T2 .ellipsis := zg1
  refine wpAny_bind ?_
  simp only [List.zipIdx_cons, List.zipIdx_nil, List.forIn_cons, List.forIn_nil]
  refine wpAny_bind (wpAny_bind (wpAny_onRaise ?_))
  show wpAny _ _ (Builtin.SmallTypes.nextOf (.ref i1) >>= _) _ _ _
  cases hx : xs[k1]? with
  | none =>
    refine wpAny_bind (draw_end hh (a1.ext s1.extBut D.i1z) (b1.ext s1.extBut D.l1z) hx ?_)
    rintro g2 e s2 ⟨oe, he1, he2⟩
    have zg2 : IsZip g2 z T1 T2 .ellipsis := s2 _ _ D.i1z.symm zg1
    have ez : e ≠ z := by
      rintro rfl
      rw [zg2] at he1
      cases he1
      simp at he2
    refine wpAny_setField_rec zg2 (by simp) ?_
    intro g3 _ s3
    exact he g3 e (fun b o e1 _ e3 _ q => s3.extBut _ _ e1 (s2 _ _ e3 (s1.extBut _ _ e1 q))) ⟨oe, s3.extBut _ _ ez he1, he2⟩
  | some x =>
    have hy : ys[k2]? = none := by
      rcases hend with q | q
      · rw [hx] at q
        cases q
      · exact q
    refine wpAny_bind (draw_item (a1.ext s1.extBut D.i1z) (b1.ext s1.extBut D.l1z) hx ?_)
    intro g2 n1 s2
    refine wpAny_pure ?_
    have o2 : IsPair g2 T2 c d := s2.extBut _ _ D.TOi1 (s1.extBut _ _ D.TOz h2)
    refine wpAny_bind (wpAny_seqItems o2 rfl ?_)
    refine wpAny_bind (wpAny_updateSeq_pair o2 ?_)
    intro g3 o3 s3
    refine wpAny_bind (wpAny_letGo (wpAny_pure ?_))
    refine wpAny_bind (wpAny_bind (wpAny_onRaise ?_))
    show wpAny _ _ (Builtin.SmallTypes.nextOf (.ref i2) >>= _) _ _ _
    refine wpAny_bind (draw_end hh (((a2.ext s1.extBut D.i2z).ext s2.extBut D.i12.symm).ext s3.extBut D.TOi2.symm)
      (((b2.ext s1.extBut D.l2z).ext s2.extBut D.l2i1).ext s3.extBut D.l2TO) hy ?_)
    rintro g4 e s4 ⟨oe, he1, he2⟩
    have zg4 : IsZip g4 z T1 T2 .ellipsis := s4 _ _ D.i2z.symm (s3.extBut _ _ D.TOz.symm (s2.extBut _ _ D.i1z.symm zg1))
    have ez : e ≠ z := by
      rintro rfl
      rw [zg4] at he1
      cases he1
      simp at he2
    refine wpAny_setField_rec zg4 (by simp) ?_
    intro g5 _ s5
    exact he g5 e (fun b o e1 e2 e3 e4 q => s5.extBut _ _ e1 (s4 _ _ e4 (s3.extBut _ _ e2 (s2.extBut _ _ e3 (s1.extBut _ _ e1 q)))))
      ⟨oe, s5.extBut _ _ ez he1, he2⟩
end
end VB
/-! zip of two sequences, each a list or a tuple: its making, its walk -/
namespace VB
open PySem PySem.Spec PyProof.Rows L2
theorem Sv.inj {X : Cx} {pins : List (Addr × Obj)} {σ : L2.St} {H : Hp} {s : Shared} {t : Bool} {a : Addr} {xs ys : List V}
    (I : Inv X pins σ H s) (h : Sv t X.K H a xs) (h' : Sv t X.K H a ys) : xs = ys := by
  cases t with
  | false => exact I.list_inj (show SqL X.K H a xs from h) (show SqL X.K H a ys from h')
  | true => exact I.tuple_inj (show SqT X.K H a xs from h) (show SqT X.K H a ys from h')
theorem Sv.real {X : Cx} {pins : List (Addr × Obj)} {σ : L2.St} {H : Hp} {s : Shared} {t : Bool} {a : Addr} {xs : List V}
    (I : Inv X pins σ H s) (h : Sv t X.K H a xs) : ∃ its : List Value, Vals xs its ∧ Sq t s.heap a its.toArray ∧ a < s.heap.objs.size := by
  cases t with
  | false =>
    obtain ⟨its, r, p, _⟩ := I.list (show SqL X.K H a xs from h)
    exact ⟨its, r, p.isList, p.lt⟩
  | true =>
    obtain ⟨its, r, p, _⟩ := I.tuple (show SqT X.K H a xs from h)
    obtain ⟨o, ho, _⟩ := id p
    exact ⟨its, r, p, Heap.lt_size ho⟩
section
variable {prog : Program} {w : World} {A : Around} {E : Value → Shared → Prop} {s : Shared} {t u : Bool}
  {z T1 T2 i1 i2 l1 l2 : Addr} {k1 k2 : Nat} {xs ys : Array Value} {x y c d : Value}
theorem zmix_next {Q : Option Value → Shared → Prop} (D : ZipApart z T1 T2 i1 i2 l1 l2) (hz : IsZip s.heap z T1 T2 .none)
    (h1 : IsPair s.heap T1 (.ref i1) (.ref i2)) (h2 : IsPair s.heap T2 c d) (a1 : Si t s.heap i1 l1 k1) (a2 : Si u s.heap i2 l2 k2)
    (b1 : Sq t s.heap l1 xs) (b2 : Sq u s.heap l2 ys) (hx : xs[k1]? = some x) (hy : ys[k2]? = some y)
    (hq : ∀ h', ZTurn t u s.heap h' z T1 T2 i1 i2 l1 l2 k1 k2 x y → Q (some (.ref s.heap.objs.size)) { s with heap := h' }) :
    wpAny (model prog w) A (pyNext (.ref z)) Q E s := by
  have ty : s.TypeIs (.ref z) "zip" := ⟨_, hz, rfl⟩
  unfold pyNext
  refine wpAny_bind (wpAny_attempt ?_)
  refine wpAny_callSpecial?_slot (name := Str.ofString "__next__") ty F.slot_zip_next ?_
  refine wpAny_call_entry F.slot_zip_next ty F.entry_zip_next ?_ (F.args_zip_next_1 _)
  exact zmix_item D hz h1 h2 a1 a2 b1 b2 hx hy fun h' q => wpAny_pure (hq h' q)
theorem zmix_stop {Q : Option Value → Shared → Prop} (hh : A.handled = none) (D : ZipApart z T1 T2 i1 i2 l1 l2) (hz : IsZip s.heap z T1 T2 .none)
    (h1 : IsPair s.heap T1 (.ref i1) (.ref i2)) (h2 : IsPair s.heap T2 c d) (a1 : Si t s.heap i1 l1 k1) (a2 : Si u s.heap i2 l2 k2)
    (b1 : Sq t s.heap l1 xs) (b2 : Sq u s.heap l2 ys) (hend : xs[k1]? = none ∨ ys[k2]? = none)
    (hq : ∀ h', (∀ b o, b ≠ z → b ≠ T2 → b ≠ i1 → b ≠ i2 → s.heap.get? b = some o → h'.get? b = some o) → Q none { s with heap := h' }) :
    wpAny (model prog w) A (pyNext (.ref z)) Q E s := by
  have ty : s.TypeIs (.ref z) "zip" := ⟨_, hz, rfl⟩
  unfold pyNext
  refine wpAny_bind (wpAny_attempt ?_)
  refine wpAny_callSpecial?_slot (name := Str.ofString "__next__") ty F.slot_zip_next ?_
  refine wpAny_call_entry F.slot_zip_next ty F.entry_zip_next ?_ (F.args_zip_next_1 _)
  refine zmix_end hh D hz h1 h2 a1 a2 b1 b2 hend ?_
  rintro h' e kp ⟨o, ho, hc⟩
  refine wpAny_bind (wpAny_isInstance (T := "StopIteration") (b := true) ⟨o, ho, hc⟩ isSubtype_stop ?_)
  exact wpAny_pure (hq _ kp)
end
/-- an iterator over l, new -/
def itO (t : Bool) (l : Addr) : Obj := match t with
  | false => { cls := .type "list_iterator", data := .fields #[.ref l, .int 0 0] }
  | true => { cls := .type "tuple_iterator", data := .fields #[.ref l, .int 0 0] }
section
variable (t u : Bool) (h : Heap) (l1 l2 : Addr)
abbrev zm1 : Heap := h.push (itO t l1)
abbrev zm2 : Heap := (zm1 t h l1).push (itO u l2)
abbrev zm3 : Heap := (zm2 t u h l1 l2).push { cls := .type "tuple", data := .seq #[.ref h.objs.size, .ref (zm1 t h l1).objs.size] }
abbrev zm4 : Heap := (zm3 t u h l1 l2).push { cls := .type "tuple", data := .seq #[.none, .none] }
abbrev zm5 : Heap := (zm4 t u h l1 l2).push { cls := .type "zip", data := .fields #[.none, .bool false, .bool false, .ref (zm2 t u h l1 l2).objs.size, .ref (zm3 t u h l1 l2).objs.size] }
end
theorem meets_zmix (t u : Bool) (l1 l2 : Addr) (xs ys : Array Value) :
    Meets (Builtin.«zip.__new__» ⟨[.type "zip", .ref l1, .ref l2], []⟩) (fun _ R s => Sq t s.heap l1 xs ∧ Sq u s.heap l2 ys ∧
      R (.ok (.ret (.ref (zm4 t u s.heap l1 l2).objs.size))) { s with heap := zm5 t u s.heap l1 l2 }) := by
  refine .of_wp ?_
  rintro prog w A R ⟨hp, g, d, tk, os⟩ ⟨b1, b2, h⟩
  have sub := sub_zip
  have c2 : Sq u (hp.push (itO t l1)) l2 ys := b2.psh _
  cases t with
  | false =>
    have e1 : Heap.IsList (Shared.heap ⟨hp, g, d, tk, os⟩) l1 xs := b1
    cases u with
    | false =>
      have e2 : Heap.IsList (Shared.heap ⟨hp.push { cls := .type "list_iterator", data := .fields #[.ref l1, .int 0 0] }, g, d, tk, os⟩) l2 ys := c2
      wp_walk using wpAny_pyIter_list e1, wpAny_pyIter_list e2
      exact ⟨_, rfl, h⟩
    | true =>
      have e2 : Heap.IsTuple (Shared.heap ⟨hp.push { cls := .type "list_iterator", data := .fields #[.ref l1, .int 0 0] }, g, d, tk, os⟩) l2 ys := c2
      wp_walk using wpAny_pyIter_list e1, wpAny_pyIter_tuple e2
      exact ⟨_, rfl, h⟩
  | true =>
    have e1 : Heap.IsTuple (Shared.heap ⟨hp, g, d, tk, os⟩) l1 xs := b1
    cases u with
    | false =>
      have e2 : Heap.IsList (Shared.heap ⟨hp.push { cls := .type "tuple_iterator", data := .fields #[.ref l1, .int 0 0] }, g, d, tk, os⟩) l2 ys := c2
      wp_walk using wpAny_pyIter_tuple e1, wpAny_pyIter_list e2
      exact ⟨_, rfl, h⟩
    | true =>
      have e2 : Heap.IsTuple (Shared.heap ⟨hp.push { cls := .type "tuple_iterator", data := .fields #[.ref l1, .int 0 0] }, g, d, tk, os⟩) l2 ys := c2
      wp_walk using wpAny_pyIter_tuple e1, wpAny_pyIter_tuple e2
      exact ⟨_, rfl, h⟩
theorem si_new {t : Bool} {h : Heap} {i l : Addr} (e : h.get? i = some (itO t l)) : Si t h i l 0 := by
  cases t with
  | false => exact ⟨_, e, rfl, rfl⟩
  | true => exact ⟨_, e, rfl, rfl⟩
section
variable {prog : Program} {w : World} {A : Around} {E : Value → Shared → Prop} {s : Shared} {t u : Bool}
/-- what zip's call leaves -/
structure ZNew (t u : Bool) (h h' : Heap) (l1 l2 : Addr) : Prop where
  zip : IsZip h' (h.objs.size + 4) (h.objs.size + 2) (h.objs.size + 3) .none
  its : IsPair h' (h.objs.size + 2) (.ref h.objs.size) (.ref (h.objs.size + 1))
  out : IsPair h' (h.objs.size + 3) .none .none
  it1 : Si t h' h.objs.size l1 0
  it2 : Si u h' (h.objs.size + 1) l2 0
  keep : ∀ b o, h.get? b = some o → h'.get? b = some o
theorem call_zmix {l1 l2 : Addr} {xs ys : Array Value} {Q : Value → Shared → Prop} (b1 : Sq t s.heap l1 xs) (b2 : Sq u s.heap l2 ys)
    (hq : ∀ h', ZNew t u s.heap h' l1 l2 → Q (.ref (s.heap.objs.size + 4)) { s with heap := h' }) :
    wpAny (model prog w) A (call (.type "zip") [.ref l1, .ref l2]) Q E s := by
  refine callType_new F.called_zip (by decide) (F.typeCall_zip_2 _ _) (F.newCall_zip_2 _ _) (fun obj => F.args_object_init_3 obj _ _)
    F.entry_zip_new (meets_zmix t u l1 l2 xs ys) ⟨b1, b2, ?_⟩
  have n1 : (zm1 t s.heap l1).objs.size = s.heap.objs.size + 1 := Heap.size_push ..
  have n2 : (zm2 t u s.heap l1 l2).objs.size = s.heap.objs.size + 2 := by rw [Heap.size_push, n1]
  have n3 : (zm3 t u s.heap l1 l2).objs.size = s.heap.objs.size + 3 := by rw [Heap.size_push, n2]
  have n4 : (zm4 t u s.heap l1 l2).objs.size = s.heap.objs.size + 4 := by rw [Heap.size_push, n3]
  have f5 : itO t l1 = itO t l1 := rfl
  have nf : ∀ (b : Bool) (l : Addr), (itO b l).isFreed = false := fun b l => by cases b <;> rfl
  have g5 : (zm5 t u s.heap l1 l2).get? (zm4 t u s.heap l1 l2).objs.size = some _ := Heap.get?_push_size _ rfl
  have g4 : (zm5 t u s.heap l1 l2).get? (zm3 t u s.heap l1 l2).objs.size = some _ := Heap.get?_push_of_some _ (Heap.get?_push_size _ rfl)
  have g3 : (zm5 t u s.heap l1 l2).get? (zm2 t u s.heap l1 l2).objs.size = some _ := Heap.get?_push_of_some _ (Heap.get?_push_of_some _ (Heap.get?_push_size _ rfl))
  have g2 : (zm5 t u s.heap l1 l2).get? (zm1 t s.heap l1).objs.size = some (itO u l2) :=
    Heap.get?_push_of_some _ (Heap.get?_push_of_some _ (Heap.get?_push_of_some _ (Heap.get?_push_size _ (nf u l2))))
  have g1 : (zm5 t u s.heap l1 l2).get? s.heap.objs.size = some (itO t l1) :=
    Heap.get?_push_of_some _ (Heap.get?_push_of_some _ (Heap.get?_push_of_some _ (Heap.get?_push_of_some _ (Heap.get?_push_size _ (nf t l1)))))
  show _ ∧ _
  rw [n2, n3, n4] at g5
  rw [n1, n2] at g3
  rw [n3] at g4
  rw [n1] at g2
  rw [n4]
  refine ⟨⟨_, g5, rfl⟩, hq _ ⟨g5, g3, g4, si_new g1, si_new g2, ?_⟩⟩
  intro b o e
  exact Heap.get?_push_of_some _ (Heap.get?_push_of_some _ (Heap.get?_push_of_some _ (Heap.get?_push_of_some _ (Heap.get?_push_of_some _ e))))
end
/-- two sequences as they stand at each turn, the items in new pairs -/
def Itm (t u : Bool) (K : PySem.W.Frag) (a b : Addr) : It :=
  ⟨fun i H => ∃ (xs ys : List V) (x y : V), Sv t K H a xs ∧ Sv u K H b ys ∧ xs[i]? = some x ∧ ys[i]? = some y,
    fun i H v H' => ∃ N x y, v = .ref N ∧ H N = none ∧ H' = upd H N (.tup [x, y]) ∧ (∀ xs, Sv t K H a xs → xs[i]? = some x) ∧ ∀ ys, Sv u K H b ys → ys[i]? = some y,
    fun i H => ∃ xs ys : List V, Sv t K H a xs ∧ Sv u K H b ys ∧ (xs.length ≤ i ∨ ys.length ≤ i)⟩
theorem in5 {a b c d e x : Addr} (h : x ∈ [a, b, c, d, e]) : x = a ∨ x = b ∨ x = c ∨ x = d ∨ x = e := by simpa using h
theorem turn_zmix {P : Program} {w : World} {K : PySem.W.Frag} {t u : Bool} {elts : List Expr} {kk : Nat} {tpos : Pos} {a b z T1 T2 i1 i2 : Addr}
    (D : ZipApart z T1 T2 i1 i2 a b) : Turn P w K (.Tuple elts kk tpos) (Itm t u K a b) [z, T1, T2, i1, i2] z
      (fun i h => IsZip h z T1 T2 .none ∧ IsPair h T1 (.ref i1) (.ref i2) ∧ (∃ x y, IsPair h T2 x y) ∧ Si t h i1 a i ∧ Si u h i2 b i) := by
  refine ⟨by simp, ?_, ?_, ?_, ?_, ?_⟩
  · rintro i h ⟨hz, h1, ⟨x, y, h2⟩, a1, a2⟩ c hc
    rcases in5 hc with rfl | rfl | rfl | rfl | rfl
    · exact ⟨_, hz, fun v q => nomatch q⟩
    · exact ⟨_, h1, fun v q => nomatch q⟩
    · exact ⟨_, h2, fun v q => nomatch q⟩
    · exact a1.obj
    · exact a2.obj
  · rintro i h h' ⟨hz, h1, ⟨x, y, h2⟩, a1, a2⟩ k
    exact ⟨k z (by simp) _ hz, k T1 (by simp) _ h1, ⟨x, y, k T2 (by simp) _ h2⟩, a1.stay fun o q => k i1 (by simp) o q, a2.stay fun o q => k i2 (by simp) o q⟩
  · intro X hP hw hK hc i pins s σ H E I hf st hg
    subst hP hw hK
    obtain ⟨hz, h1, ⟨x0, y0, h2⟩, a1, a2⟩ := st
    obtain ⟨xs, ys, x, y, qx, qy, hx, hy⟩ := hg
    obtain ⟨its, rv, p, _⟩ := qx.real I
    obtain ⟨its2, rv2, p2, _⟩ := qy.real I
    obtain ⟨v1, hv1, r1⟩ := rv.get hx
    obtain ⟨v2, hv2, r2⟩ := rv2.get hy
    have zl : z < s.heap.objs.size := Heap.lt_size hz
    refine zmix_next D hz h1 h2 a1 a2 p p2 (x := v1) (y := v2) (by simpa using hv1) (by simpa using hv2) ?_
    intro g T
    refine ⟨_, rfl, wpAny_letOwnedTupleGo_zip (s := { s with heap := g }) T.zip ?_⟩
    intro g2 z2 sb
    have nN : s.heap.objs.size ≠ z := Nat.ne_of_gt zl
    have pN : g2.get? s.heap.objs.size = some { cls := .type "tuple", data := .seq #[v1, v2] } := (sb.2 _ nN).trans T.new
    have ok : ObjOk X.prog X.w (upd H s.heap.objs.size (.tup [x, y])) g2 s.heap.objs.size (.tup [x, y]) :=
      ⟨by show 2 ≤ sizeLine; decide, [v1, v2], .cons r1 (.cons r2 .nil), ⟨_, pN, rfl, _, rfl⟩⟩
    have J : Inv X pins σ (upd H s.heap.objs.size (.tup [x, y])) { s with heap := g2 } := by
      refine I.turnedNew (t' := s.toks) (ch := [z, T1, T2, i1, i2]) ?_ hf (Nat.le_refl _) ok
      intro c o hb q
      have n : c ≠ z ∧ c ≠ T2 ∧ c ≠ i1 ∧ c ≠ i2 := ⟨fun e => hb (by simp [e]), fun e => hb (by simp [e]), fun e => hb (by simp [e]), fun e => hb (by simp [e])⟩
      exact (sb.2 c n.1).trans (T.keep c o n.1 n.2.1 n.2.2.1 n.2.2.2 q)
    refine ⟨.ref s.heap.objs.size, _, J, rfl, ⟨_, x, y, rfl, I.hok.fresh (Nat.le_refl _), rfl, ?_, ?_⟩, ⟨z2, ?_, ⟨v1, v2, ?_⟩, ?_, ?_⟩, ?_⟩
    · intro l hl
      rw [hl.inj I qx]
      exact hx
    · intro l hl
      rw [hl.inj I qy]
      exact hy
    · exact (sb.2 _ D.TIz).trans (T.keep _ _ D.TIz D.TITO D.TIi1 D.TIi2 h1)
    · exact (sb.2 _ D.TOz).trans T.out
    · exact T.it1.stay fun o q => (sb.2 _ D.i1z).trans q
    · exact T.it2.stay fun o q => (sb.2 _ D.i2z).trans q
    · intro c hcm
      have lt : c < s.heap.objs.size := by
        rcases in5 hcm with rfl | rfl | rfl | rfl | rfl
        · exact zl
        · exact Heap.lt_size h1
        · exact Heap.lt_size h2
        · obtain ⟨_, e, _⟩ := a1.obj
          exact Heap.lt_size e
        · obtain ⟨_, e, _⟩ := a2.obj
          exact Heap.lt_size e
      rw [upd_ne (Nat.ne_of_lt lt)]
      exact (hf c hcm).1
  · intro X hP hw hK hc i pins s σ H E I hf st hg
    subst hP hw hK
    obtain ⟨hz, h1, ⟨x0, y0, h2⟩, a1, a2⟩ := st
    obtain ⟨xs, ys, qx, qy, hend⟩ := hg
    obtain ⟨its, rv, p, _⟩ := qx.real I
    obtain ⟨its2, rv2, p2, _⟩ := qy.real I
    have e1 := rv.length
    have e2 := rv2.length
    have he : its.toArray[i]? = none ∨ its2.toArray[i]? = none := by
      rcases hend with q | q
      · exact .inl (by simp; omega)
      · exact .inr (by simp; omega)
    refine zmix_stop (I.ok.hd hc) D hz h1 h2 a1 a2 p p2 he ?_
    intro g kp
    refine ⟨rfl, I.turnedL (t' := s.toks) (ch := [z, T1, T2, i1, i2]) ?_ hf⟩
    intro c o hb q
    exact kp c o (fun e => hb (by simp [e])) (fun e => hb (by simp [e])) (fun e => hb (by simp [e])) (fun e => hb (by simp [e])) q
  · intro A i s Q E st h
    exact wpAny_pyIter_zip st.1 h
/-- zip(e, e2): lists and tuples, in any mixture -/
def iZm (K : PySem.W.Frag) (ta : TA) : TI := fun σ H R => ta σ H fun vs H1 => ∃ (t u : Bool) (a b : Addr) (xs ys : List V), vs = [.ref a, .ref b] ∧
  Sv t K H1 a xs ∧ Sv u K H1 b ys ∧ R (Itm t u K a b) H1
theorem pi_zm {X : Cx} {K : PySem.W.Frag} {e e2 : Expr} {ta : TA} {p pos tpos : Pos} {elts : List Expr} {kk : Nat} (hg : Gl X "zip") (hm : X.mg "zip" = none) (ha : PA X [e, e2] ta) (hK : X.K = K := by rfl)
    (hs : starEach [e, e2] X.env = (false, eval e X.env) :: starEach [e2] X.env := by rfl) (hpl : (backTo pos (starEach [e2] X.env)).any (·.1) = false := by rfl) :
    PI X (.Tuple elts kk tpos) (.Call (.Name "zip" p) [e, e2] [] pos) (iZm K ta) := by
  subst hK
  constructor
  intro pins s σ H R I h
  refine Call_ (ld_blt I hg hm PyProof.Rows.boot_zip (PyProof.Rows.callWith_type1 (thn (ha.run pos pins s σ H _ I h) ?_) hs hpl))
  rintro us s1 ⟨vs, H1, I1, r1, t, u, a, b, xs, ys, rfl, qx, qy, q⟩
  obtain ⟨w1, w2, rfl, ra, rb⟩ := vals2 r1
  cases (show w1 = Value.ref a from ra)
  cases (show w2 = Value.ref b from rb)
  obtain ⟨its, rv, p1, lt1⟩ := qx.real I1
  obtain ⟨its2, rv2, p2, lt2⟩ := qy.real I1
  refine call_zmix p1 p2 ?_
  intro h' Z
  refine wpAny_pyIter_zip Z.zip ?_
  have I2 : Inv X pins σ H1 { s1 with heap := h' } := I1.kept (t' := s1.toks) Z.keep
  let n := s1.heap.objs.size
  refine ⟨n + 4, [n + 4, n + 2, n + 3, n, n + 1], _, _, H1, rfl, I2, turn_zmix (PySem.W.ktu_apart n a b lt1 lt2), ⟨Z.zip, Z.its, ⟨_, _, Z.out⟩, Z.it1, Z.it2⟩, ?_, q⟩
  intro c hc
  have le : n ≤ c := by
    show s1.heap.objs.size ≤ c
    rcases in5 hc with e | e | e | e | e
    · have e' : @Eq Nat c (s1.heap.objs.size + 4) := e
      omega
    · have e' : @Eq Nat c (s1.heap.objs.size + 2) := e
      omega
    · have e' : @Eq Nat c (s1.heap.objs.size + 3) := e
      omega
    · have e' : @Eq Nat c (s1.heap.objs.size) := e
      omega
    · have e' : @Eq Nat c (s1.heap.objs.size + 1) := e
      omega
  exact I1.fpOk le (I1.hok.fresh le)
/-- the walk -/
theorem walk_zm {t u : Bool} {K : PySem.W.Frag} {a b : Addr} {xs ys : List V} {n : Nat} (hn : n = min xs.length ys.length) :
    Walk (Itm t u K a b) n (fun H => Sv t K H a xs ∧ Sv u K H b ys) (YPair (fun i => xs[i]?) (fun i => ys[i]?)) := by
  subst hn
  refine ⟨?_, ?_, ?_⟩
  · intro i H hi q
    have h1 : i < xs.length := by omega
    have h2 : i < ys.length := by omega
    exact ⟨xs, ys, xs[i], ys[i], q.1, q.2, by simp [h1], by simp [h2]⟩
  · intro H q
    exact ⟨xs, ys, q.1, q.2, by omega⟩
  · rintro i H x H' _ q ⟨N, v, v', h1, h2, h3, h4, h5⟩
    exact ⟨N, v, v', h1, h2, h3, h4 xs q.1, h5 ys q.2⟩
end VB
/-! comprehensions that change nothing, of any values -/
namespace VB
open PySem PySem.Spec PyProof.Rows L2
theorem lc_pureVS {J : It} {G : Hp → Prop} {n j : Nat} {us : List V} {xs : List V} {te : TE} {vs : List Nat} {σ : L2.St} {H1 : Hp} {D : Addr} {Qd : Hp → Prop} (wk : Walk J n G (YAt xs)) (hG : ∀ H, Evl.Ex H1 H → G H)
    (hl : us.length = n) (hz : n ≤ 60000) (hD : H1 D = none) (hw : ∀ x, wipe ((wipe σ vs).set j x) vs = wipe σ vs)
    (hs : ∀ (i : Nat) (x : V) (u : V) (H : Hp) (Q : VK), xs[i]? = some x → us[i]? = some u → Evl.Ex H1 H → (∀ H' : Hp, Evl.Ex H H' → Q u H') → te ((wipe σ vs).set j (some x)) H Q)
    (hd : ∀ H, Evl.Ex H1 H → H D = some (.lst us) → Qd H) :
    ∃ W : Nat → Nat → Hp → Prop, (∃ m, W 0 m (upd H1 D (.lst []))) ∧ ∀ i m H, W i m H →
      (J.stop i H ∧ Qd H) ∨ (J.go i H ∧ ∃ Nx : Hp → Prop, (∀ H', Nx H' → ∃ m', m' < m ∧ W (i + 1) m' H') ∧ ∀ x H', J.yld i H x H' →
        gName j x (wipe σ vs) H' fun σ2 H2 => wipe σ2 vs = wipe σ vs ∧ tYes σ2 H2 fun b H3 =>
        if b = true then te σ2 H3 fun y H4 => ∃ acc, H4 D = some (.lst acc) ∧ acc.length < sizeLine ∧ Nx (upd H4 D (.lst (acc ++ [y]))) else Nx H3) := by
  refine lc_it wk (fun i H' => Evl.Ex H1 H' ∧ i ≤ n ∧ H' D = some (.lst (us.take i))) ⟨Evl.Ex.new hD, Nat.zero_le _, upd_same⟩ (fun i H _ h => hG H h.1) ?_ ?_
  · rintro i x H H' hi ⟨e1, hi2, h1⟩ ⟨rfl, hx⟩
    refine ⟨hw _, ?_⟩
    obtain ⟨u, hu⟩ : ∃ u, us[i]? = some u := ⟨us[i]'(by omega), by simp [show i < us.length by omega]⟩
    show te _ H' _
    refine hs i x u H' _ hx hu e1 fun H'' e2 => ⟨_, e2 D _ h1, ?_, Evl.Ex.mut (e1.trans e2) hD, by omega, ?_⟩
    · rw [List.length_take]
      exact Evl.sz_lt (by omega)
    · rw [upd_same, take_snoc hu]
  · rintro H ⟨e1, _, h1⟩
    refine hd H e1 ?_
    rw [h1, ← hl, List.take_length]
/-- .. over pairs -/
theorem lc_pureVZ {K : PySem.W.Frag} {J : It} {G : Hp → Prop} {n j1 j2 : Nat} {us : List V} {xs ys : Nat → Option V} {te : TE} {vs : List Nat} {σ : L2.St} {H1 : Hp} {D : Addr} {Qd : Hp → Prop} (wk : Walk J n G (YPair xs ys)) (hG : ∀ H, Evl.Ex H1 H → G H)
    (hl : us.length = n) (hz : n ≤ 60000) (hD : H1 D = none) (hw : ∀ x y, wipe (((wipe σ vs).set j1 x).set j2 y) vs = wipe σ vs)
    (hs : ∀ (i : Nat) (x y : V) (u : V) (H : Hp) (Q : VK), xs i = some x → ys i = some y → us[i]? = some u → Evl.Ex H1 H → (∀ H' : Hp, Evl.Ex H H' → Q u H') → te (((wipe σ vs).set j1 (some x)).set j2 (some y)) H Q)
    (hd : ∀ H, Evl.Ex H1 H → H D = some (.lst us) → Qd H) :
    ∃ W : Nat → Nat → Hp → Prop, (∃ m, W 0 m (upd H1 D (.lst []))) ∧ ∀ i m H, W i m H →
      (J.stop i H ∧ Qd H) ∨ (J.go i H ∧ ∃ Nx : Hp → Prop, (∀ H', Nx H' → ∃ m', m' < m ∧ W (i + 1) m' H') ∧ ∀ x H', J.yld i H x H' →
        gTup K 2 (gCons (gName j1) (gCons (gName j2) gNil)) x (wipe σ vs) H' fun σ2 H2 => wipe σ2 vs = wipe σ vs ∧ tYes σ2 H2 fun b H3 =>
        if b = true then te σ2 H3 fun y H4 => ∃ acc, H4 D = some (.lst acc) ∧ acc.length < sizeLine ∧ Nx (upd H4 D (.lst (acc ++ [y]))) else Nx H3) := by
  refine lc_it wk (fun i H' => Evl.Ex H1 H' ∧ i ≤ n ∧ H' D = some (.lst (us.take i))) ⟨Evl.Ex.new hD, Nat.zero_le _, upd_same⟩ (fun i H _ h => hG H h.1) ?_ ?_
  · rintro i v H H' hi ⟨e1, hi2, h1⟩ ⟨T, x, y, rfl, hT, rfl, hx, hy⟩
    have eT := Evl.Ex.new (o := .tup [x, y]) hT
    refine ⟨T, _, rfl, SqT.of upd_same, rfl, x, _, rfl, ⟨y, _, rfl, ?_⟩⟩
    refine ⟨rfl, hw _ _, ?_⟩
    obtain ⟨u, hu⟩ : ∃ u, us[i]? = some u := ⟨us[i]'(by omega), by simp [show i < us.length by omega]⟩
    show te _ _ _
    refine hs i x y u _ _ hx hy hu (e1.trans eT) fun H'' e2 => ⟨_, e2 D _ (eT D _ h1), ?_, Evl.Ex.mut ((e1.trans eT).trans e2) hD, by omega, ?_⟩
    · rw [List.length_take]
      exact Evl.sz_lt (by omega)
    · rw [upd_same, take_snoc hu]
  · rintro H ⟨e1, _, h1⟩
    refine hd H e1 ?_
    rw [h1, ← hl, List.take_length]
/-- a sequence's type -/
theorem Sv.ty {t : Bool} {K : PySem.W.Frag} {H : Hp} {a : Addr} {xs : List V} (h : Sv t K H a xs) : TyX K H (.ref a) (.type (if t then "tuple" else "list")) := by
  cases t with
  | false =>
    have h : SqL K H a xs := h
    rcases h with (h | ⟨o, h⟩) | ⟨o, its, n, h, c, _⟩
    · exact .base (.lst h)
    · exact .base (.frz h)
    · exact .kList h c
  | true =>
    have h : SqT K H a xs := h
    rcases h with (h | ⟨o, h⟩) | ⟨o, its, n, h, c, _⟩
    · exact .base (.tup h)
    · exact .fTuple h
    · exact .kTuple h c
theorem kit_seq (K : PySem.W.Frag) (t : Bool) : PySem.W.kitAny K (.type (if t then "tuple" else "list")) [.type "list", .type "tuple"] = some true := by
  cases t with
  | false => exact kitAny_cons (b := true) (kit_ty (by decide +kernel)) (fun z => nomatch z) (fun _ => rfl)
  | true => exact kitAny_cons (b := false) (kit_ty (by decide +kernel)) (fun _ => kitAny_cons (b := true) (kit_ty (by decide +kernel)) (fun z => nomatch z) (fun _ => rfl)) (fun z => nomatch z)
/-- an int of the module -/
theorem pe_globI {X : Cx} {x : Str} {i : Int} {pos : Pos} (hg : Gl X x) (h : ∃ t, X.mg x = some (.int i t)) (hd : (x == ("__debug__" : Str)) = false := by decide) : PE X (.Name x pos) (tC (.int i)) := by
  obtain ⟨t, h⟩ := h
  exact pe_glob hg h ⟨_, rfl⟩ hd
end VB
/-! what the laws share -/
namespace VB
open PySem PySem.Spec PyProof.Rows L2 BM
section
variable {P : Program} {w : World} {K : PySem.W.Frag} {mg : Str → Option Value} {base : Heap} {f : Addr} {fd : FuncData}
/-- at a: a box: what is left of the digits, whether they count, the seed, the draws so far (below n) -/
def Box (H : Hp) (a : Addr) (n : Int) : Prop := ∃ (d m c : Int) (b : Bool), H a = some (.lst [.int d, .bl b, .int m, .int c]) ∧ 0 ≤ d ∧ 0 ≤ m ∧ m < 2147483629 ∧ 0 ≤ c ∧ c ≤ n
/-- all but what stands at a is as it was -/
def Exb (a : Addr) (H H' : Hp) : Prop := ∀ b o, b ≠ a → H b = some o → H' b = some o
theorem Exb.upd {a : Addr} {H : Hp} {o : HO} : Exb a H (upd H a o) := fun b u n e => by rw [upd_ne n]; exact e
theorem Exb.trans {a : Addr} {H H1 H2 : Hp} (x : Exb a H H1) (y : Exb a H1 H2) : Exb a H H2 := fun b o n e => y b o n (x b o n e)
theorem Exb.of {a : Addr} {H H' : Hp} (x : Evl.Ex H H') : Exb a H H' := fun b o _ e => x b o e
theorem Exb.new {a p : Addr} {H : Hp} {o : HO} (h : H p = none) : Exb a H (L2.upd H p o) := Exb.of (Evl.Ex.new h)
theorem Box.ex {H H' : Hp} {a : Addr} {n : Int} (b : Box H a n) (e : Evl.Ex H H') : Box H' a n := by
  obtain ⟨d, m, c, k, h, r⟩ := b
  exact ⟨d, m, c, k, e _ _ h, r⟩
theorem Box.at {H : Hp} {a p : Addr} {n : Int} (b : Box H a n) (h : H p = none) : p ≠ a := by
  obtain ⟨d, m, c, k, e, r⟩ := b
  rintro rfl
  rw [h] at e
  cases e
theorem Box.le {H : Hp} {a : Addr} {n m : Int} (b : Box H a n) (h : n ≤ m) : Box H a m := by
  obtain ⟨d, m', c, k, e, r1, r2, r3, r4, r5⟩ := b
  exact ⟨d, m', c, k, e, r1, r2, r3, r4, by omega⟩
abbrev ws8 : List Int := [128, 64, 32, 16, 8, 4, 2, 1]
theorem ws8_get {j : Nat} {u : Int} (h : ws8[j]? = some u) : 0 < u ∧ u ≤ 128 := by
  have m := List.mem_of_getElem? h
  simp only [ws8, List.mem_cons, List.not_mem_nil, or_false] at m
  omega
theorem bitsOf_ws (o : Int) : bitsOf o = ws8.map fun u => o / u % 2 := rfl
theorem octetsN_snoc : ∀ (n : Nat) (bs : List Int), octetsN (n + 1) bs = octetsN n bs ++ [octOf ((bs.drop (8 * n)).take 8)]
  | 0, bs => rfl
  | n + 1, bs => by
    show octOf (bs.take 8) :: octetsN (n + 1) (bs.drop 8) = octOf (bs.take 8) :: octetsN n (bs.drop 8) ++ _
    rw [octetsN_snoc n (bs.drop 8), List.drop_drop]
    have e : 8 + 8 * n = 8 * (n + 1) := by omega
    rw [e]
    rfl
theorem octetsN_len : ∀ (n : Nat) (bs : List Int), (octetsN n bs).length = n
  | 0, _ => rfl
  | n + 1, bs => by
    show (octetsN n (bs.drop 8)).length + 1 = _
    rw [octetsN_len n]
theorem cut8 (bs : List Int) (i : Nat) (hi : 8 * i ≤ bs.length) : cutV (IV bs) (some (0 + (i : Int) * 8)) (some (0 + (i : Int) * 8 + 8)) = IV ((bs.drop (8 * i)).take 8) := by
  have e1 : (0 : Int) + (i : Int) * 8 = ((8 * i : Nat) : Int) := by omega
  have e2 : ((8 * i : Nat) : Int) + 8 = ((8 * i + 8 : Nat) : Int) := by omega
  unfold cutV
  rw [e1, e2, HT.sIx_nat, HT.sIx_nat, iv_len, ← List.map_drop, ← List.map_take]
  have e3 : min (8 * i) bs.length = 8 * i := by omega
  rw [e3]
  congr 1
  rw [List.take_eq_take_iff, List.length_drop]
  omega
theorem octOf_snoc (bs : List Int) (b : Int) : octOf (bs ++ [b]) = 2 * octOf bs + b := by
  unfold octOf
  rw [List.foldl_append]
  rfl
theorem if_ne {x y : Int} {A B : Prop} (h1 : x ≠ y → A) (h2 : x = y → B) : if (!decide (V.int x = V.int y)) = true then A else B := by
  by_cases e : x = y
  · rw [decide_eq_true (congrArg V.int e)]
    exact iteF (h2 e)
  · rw [decide_eq_false (fun z => e (V.int.inj z))]
    exact iteT (h1 e)
theorem if_eq {x y : Int} {A B : Prop} (h1 : x = y → A) (h2 : x ≠ y → B) : if decide (V.int x = V.int y) = true then A else B := by
  by_cases e : x = y
  · rw [decide_eq_true (congrArg V.int e)]
    exact iteT (h1 e)
  · rw [decide_eq_false (fun z => e (V.int.inj z))]
    exact iteF (h2 e)
theorem drop_get {α : Type} {l : List α} {i : Nat} {x : α} (h : l[i]? = some x) : l.drop i = x :: l.drop (i + 1) := by
  obtain ⟨hi, e⟩ := List.getElem?_eq_some_iff.mp h
  rw [List.drop_eq_getElem_cons hi, e]
theorem get_lt {α : Type} {l : List α} {i : Nat} (h : i < l.length) : ∃ x, l[i]? = some x := ⟨l[i], by simp [h]⟩
theorem iv_set (pre post : List Int) (x y : Int) : (IV (pre ++ x :: post)).set pre.length (V.int y) = IV (pre ++ y :: post) := by
  rw [← List.map_set, List.set_append_right _ _ (Nat.le_refl _)]
  simp
theorem turned_cons (x y m : Int) (as bs : List Int) : turned (x :: as) (y :: bs) m = if x = y then x :: turned as bs m else (if m % 2 = 1 then y else x) :: turned as bs (m / 2) := by
  rw [turned]
/-- beyond all masks -/
def MM : Int := 2 ^ 4096
theorem MM_eq : (1 : Int) * 2 ^ (4096 : Int).toNat = MM := by
  have e : (4096 : Int).toNat = 4096 := rfl
  rw [e, Int.one_mul]
  rfl
theorem pow_nn (k : Nat) : (0 : Int) < 2 ^ k := Int.pow_pos (by decide)
theorem pow_mono {a b : Nat} (h : a ≤ b) : (2 : Int) ^ a ≤ 2 ^ b := by
  have q : (2 : Nat) ^ a ≤ 2 ^ b := Nat.pow_le_pow_right (by decide) h
  have q2 : (((2 : Nat) ^ a : Nat) : Int) ≤ ((2 ^ b : Nat) : Int) := Int.ofNat_le.mpr q
  simpa using q2
theorem MM_half {k : Nat} (h : k ≤ 4095) : 2 * (2 : Int) ^ k ≤ MM := by
  have q := pow_mono (a := k + 1) (b := 4096) (by omega)
  rw [Int.pow_succ] at q
  unfold MM
  omega
theorem lt_natAbs {x : Int} {n : Nat} (h0 : 0 ≤ x) (h : x < 2 ^ n) : x.natAbs < 2 ^ n := by
  have e : (x.natAbs : Int) = x := Int.natAbs_of_nonneg h0
  have q : (x.natAbs : Int) < ((2 ^ n : Nat) : Int) := by
    rw [e]
    simpa using h
  exact Int.ofNat_lt.mp q
theorem more_bits {x w : Int} {n : Nat} (h0 : 0 ≤ x) (h : x < 2 ^ n) (w0 : 0 ≤ w) (w1 : w < 2 ^ 48) : 0 ≤ x * 2 ^ 48 + w ∧ x * 2 ^ 48 + w < 2 ^ (n + 48) := by
  rw [Int.pow_add]
  have p : (0 : Int) < 2 ^ 48 := pow_nn 48
  have m : (x + 1) * 2 ^ 48 ≤ 2 ^ n * 2 ^ 48 := Int.mul_le_mul_of_nonneg_right (by omega) (Int.le_of_lt p)
  rw [Int.add_mul, Int.one_mul] at m
  have m0 : 0 ≤ x * 2 ^ 48 := Int.mul_nonneg h0 (Int.le_of_lt p)
  omega
theorem oct_snoc {xs : List Int} {r : Int} (h : Oct xs) (h0 : 0 ≤ r) (h1 : r ≤ 255) : Oct (xs ++ [r]) := by
  intro o ho
  rcases List.mem_append.mp ho with q | q
  · exact h o q
  · have e : o = r := by simpa using q
    omega
theorem zip_get {xs ys : List Int} {p : Int × Int} (h : p ∈ xs.zip ys) : ∃ i : Nat, xs[i]? = some p.1 ∧ ys[i]? = some p.2 := by
  obtain ⟨i, hi⟩ := List.mem_iff_getElem?.mp h
  obtain ⟨q1, q2⟩ := List.getElem?_zip_eq_some.mp hi
  exact ⟨i, q1, q2⟩
theorem bitAnd_pp {x y : Int} (hx : 0 ≤ x) (hy : 0 ≤ y) : Builtin.bitAnd x y = ((x.toNat &&& y.toNat : Nat) : Int) := by
  obtain ⟨a, rfl⟩ := nat_of hx
  obtain ⟨b, rfl⟩ := nat_of hy
  rfl
/-- two lists of octets, item by item -/
def both (f : Int → Int → Int) (xs ys : List Int) : List Int := (xs.zip ys).map fun p => f p.1 p.2
theorem both_len {f : Int → Int → Int} {xs ys : List Int} (h : xs.length = ys.length) : (both f xs ys).length = xs.length := by
  unfold both
  rw [List.length_map, List.length_zip]
  omega
theorem both_get {f : Int → Int → Int} {xs ys : List Int} {i : Nat} {u : Int} (h : (both f xs ys)[i]? = some u) : ∃ x y, xs[i]? = some x ∧ ys[i]? = some y ∧ u = f x y := by
  unfold both at h
  rw [List.getElem?_map] at h
  cases e : (xs.zip ys)[i]? with
  | none => rw [e] at h; cases h
  | some p =>
    rw [e] at h
    obtain ⟨q1, q2⟩ := List.getElem?_zip_eq_some.mp e
    exact ⟨p.1, p.2, q1, q2, (Option.some.inj h).symm⟩
theorem both_oct {f : Int → Int → Int} {xs ys : List Int} (ox : Oct xs) (oy : Oct ys) (h : ∀ x y, 0 ≤ x ∧ x ≤ 255 → 0 ≤ y ∧ y ≤ 255 → 0 ≤ f x y ∧ f x y ≤ 255) : Oct (both f xs ys) := by
  intro o ho
  obtain ⟨i, hi⟩ := List.mem_iff_getElem?.mp ho
  obtain ⟨x, y, hx, hy, rfl⟩ := both_get hi
  exact h x y (ox x (List.mem_of_getElem? hx)) (oy y (List.mem_of_getElem? hy))
theorem oct_and {x y : Int} (hx : 0 ≤ x ∧ x ≤ 255) (hy : 0 ≤ y ∧ y ≤ 255) : (0 ≤ Builtin.bitAnd x y ∧ Builtin.bitAnd x y ≤ 255) ∧ Le (bitsOf (Builtin.bitAnd x y)) (bitsOf x) := by
  rw [bitAnd_pp hx.1 hy.1]
  have e : ((x.toNat : Nat) : Int) = x := by omega
  have h := and_oct (a := x.toNat) (b := y.toNat) (by omega)
  refine ⟨by omega, ?_⟩
  have q := and_le x.toNat y.toNat
  rw [e] at q
  exact q
theorem oct_or {x y : Int} (hx : 0 ≤ x ∧ x ≤ 255) (hy : 0 ≤ y ∧ y ≤ 255) : (0 ≤ Builtin.bitOr x y ∧ Builtin.bitOr x y ≤ 255) ∧ Le (bitsOf x) (bitsOf (Builtin.bitOr x y)) := by
  rw [Bits.bitOr_pp hx.1 hy.1]
  have e : ((x.toNat : Nat) : Int) = x := by omega
  have h := or_oct (a := x.toNat) (b := y.toNat) (by omega) (by omega)
  refine ⟨by omega, ?_⟩
  have q := le_or x.toNat y.toNat
  rw [e] at q
  exact q
theorem bitsL_le' {xs ys : List Int} (hl : xs.length = ys.length) (h : ∀ (i : Nat) x y, xs[i]? = some x → ys[i]? = some y → Le (bitsOf x) (bitsOf y)) : Le (bitsL xs) (bitsL ys) :=
  bitsL_le hl fun p hp => by
    obtain ⟨i, h1, h2⟩ := zip_get hp
    exact h i _ _ h1 h2
theorem oct_255 (c : Nat) : Oct (List.replicate c 255) := fun o ho => by
  have e := List.eq_of_mem_replicate ho
  omega
theorem iv_rep (c : Nat) (o : Int) : IV (List.replicate c o) = List.replicate c (V.int o) := List.map_replicate ..
/-- one more octet of a comprehension over a box -/
def Grown (a D : Addr) (H0 : Hp) (m : Int) (i : Nat) (H' : Hp) : Prop := Exb a H0 H' ∧ Box H' a (m + 3 * i) ∧ ∃ xs : List Int, xs.length = i ∧ Oct xs ∧ H' D = some (.lst (IV xs))
theorem Grown.start {a D : Addr} {H : Hp} {m : Int} (B : Box H a m) (hD : H D = none) : Grown a D H m 0 (upd H D (.lst [])) :=
  ⟨Exb.new hD, (B.ex (Evl.Ex.new hD)).le (by omega), [], rfl, fun _ h => (by cases h), upd_same⟩
theorem Grown.more {a D : Addr} {H0 H1 H2 : Hp} {m r : Int} {i : Nat} (g : Grown a D H0 m i H1) (hD : D ≠ a) (hn : H0 D = none) (hi : i ≤ 1000) (e : Exb a H1 H2) (B : Box H2 a (m + 3 * i + 3)) (r0 : 0 ≤ r) (r1 : r ≤ 255) :
    ∃ acc, H2 D = some (.lst acc) ∧ acc.length < sizeLine ∧ Grown a D H0 m (i + 1) (upd H2 D (.lst (acc ++ [V.int r]))) := by
  obtain ⟨e1, B1, xs, hl, ho, h⟩ := g
  have B2 : Box (upd H2 D (.lst (IV xs ++ [V.int r]))) a (m + 3 * i + 3) := by
    obtain ⟨d, m', c, k, hb, q⟩ := B
    exact ⟨d, m', c, k, by rw [upd_ne (Ne.symm hD)]; exact hb, q⟩
  refine ⟨IV xs, e D _ hD h, by rw [iv_len, hl]; exact Evl.sz_lt (by omega), ?_, B2.le (by omega), xs ++ [r], by simp [hl], oct_snoc ho r0 r1, by rw [upd_same, iv_snoc]⟩
  intro b o n q
  have hb : b ≠ D := by
    rintro rfl
    rw [hn] at q
    cases q
  rw [upd_ne hb]
  exact e b o n (e1 b o n q)
/-- keywords in other orders than the parameters' -/
abbrev g1 : List Value → List Value → List Value := fun _ ws => [ws.getD 0 .none]
abbrev g1V : List V → List V → List V := fun _ ws => [ws.getD 0 .non]
abbrev g21 : List Value → List Value → List Value := fun _ ws => [ws.getD 1 .none, ws.getD 0 .none]
abbrev g21V : List V → List V → List V := fun _ ws => [ws.getD 1 .non, ws.getD 0 .non]
abbrev g321 : List Value → List Value → List Value := fun _ ws => [ws.getD 2 .none, ws.getD 1 .none, ws.getD 0 .none]
abbrev g321V : List V → List V → List V := fun _ ws => [ws.getD 2 .non, ws.getD 1 .non, ws.getD 0 .non]
theorem same_ne {x : V} {A B : Prop} (h : B) : if (!decide (x = x)) = true then A else B := by
  rw [decide_eq_true rfl]
  exact iteF h
theorem same_int {x y : Int} {A B : Prop} (e : x = y) (h : B) : if (!decide (V.int x = V.int y)) = true then A else B := by
  subst e
  exact same_ne h
theorem same_bl {x y : Bool} {A B : Prop} (e : x = y) (h : B) : if (!decide (V.bl x = V.bl y)) = true then A else B := by
  subst e
  exact same_ne h
theorem if_dec {p : Prop} [Decidable p] {A B : Prop} (h1 : p → A) (h2 : ¬ p → B) : if decide p = true then A else B := by
  by_cases z : p
  · rw [decide_eq_true z]
    exact iteT (h1 z)
  · rw [decide_eq_false z]
    exact iteF (h2 z)
theorem two_ways {x y : Int} {ta tb : TE} {σ : L2.St} {H : Hp} {Q : VK} (S : V → Hp → Prop) (ha : x = y → ∀ Q' : VK, (∀ v H', S v H' → Q' v H') → ta σ H Q')
    (hb : x ≠ y → ∀ Q' : VK, (∀ v H', S v H' → Q' v H') → tb σ H Q') (hQ : ∀ v H', S v H' → Q v H') : if decide (V.int x = V.int y) = true then ta σ H Q else tb σ H Q :=
  if_eq (fun z => ha z Q hQ) (fun z => hb z Q hQ)
theorem sm_fallen (n : Nat) (as bs : List Int) : ∀ (k : Int), 0 ≤ k → k + (as.length : Int) ≤ 10000 → Sm (fallenL k as bs) := by
  induction as generalizing bs with
  | nil =>
    intro k _ _
    cases bs <;> exact fun n hn => by cases hn
  | cons a as ih =>
    intro k hk hl
    cases bs with
    | nil => exact fun n hn => by cases hn
    | cons b bs =>
      have r := ih bs (k + 1) (by omega) (by simp at hl; omega)
      rw [fallenL]
      split
      · intro n hn
        cases hn with
        | head => simp at hl; omega
        | tail _ hn => exact r n hn
      · exact r
theorem zip8 {f : Int → Int → Int} {a0 a1 a2 a3 a4 a5 a6 a7 b0 b1 b2 b3 b4 b5 b6 b7 : Int} : List.zipWith f [a7, a6, a5, a4, a3, a2, a1, a0] [b7, b6, b5, b4, b3, b2, b1, b0] = [f a7 b7, f a6 b6, f a5 b5, f a4 b4, f a3 b3, f a2 b2, f a1 b1, f a0 b0] := rfl
theorem xor_bits {x y : Int} (hx : 0 ≤ x ∧ x ≤ 255) (hy : 0 ≤ y ∧ y ≤ 255) : bitsOf (Builtin.bitXor x y) = List.zipWith (fun a b => if a = b then 0 else 1) (bitsOf x) (bitsOf y) := by
  obtain ⟨a, rfl⟩ := nat_of hx.1
  obtain ⟨b, rfl⟩ := nat_of hy.1
  rw [Bits.bitXor_pp hx.1 hy.1, Int.toNat_natCast, Int.toNat_natCast, bitsOf_tb, bitsOf_tb, bitsOf_tb, zip8]
  simp only [tb_xor]
theorem and_bits {x y : Int} (hx : 0 ≤ x ∧ x ≤ 255) (hy : 0 ≤ y ∧ y ≤ 255) : bitsOf (Builtin.bitAnd x y) = List.zipWith (fun a b => if a = 1 ∧ b = 1 then 1 else 0) (bitsOf x) (bitsOf y) := by
  obtain ⟨a, rfl⟩ := nat_of hx.1
  obtain ⟨b, rfl⟩ := nat_of hy.1
  rw [bitAnd_pp hx.1 hy.1, Int.toNat_natCast, Int.toNat_natCast, bitsOf_tb, bitsOf_tb, bitsOf_tb, zip8]
  simp only [tb_and]
theorem xor_range {x y : Int} (hx : 0 ≤ x ∧ x ≤ 255) (hy : 0 ≤ y ∧ y ≤ 255) : 0 ≤ Builtin.bitXor x y ∧ Builtin.bitXor x y ≤ 255 := by
  rw [Bits.bitXor_pp hx.1 hy.1]
  have h := xor_oct (a := x.toNat) (b := y.toNat) (by omega) (by omega)
  omega
/-- what falls, octet by octet -/
def fallO (x y : Int) : Int := Builtin.bitAnd x (Builtin.bitXor x y)
def riseO (x y : Int) : Int := Builtin.bitAnd y (Builtin.bitXor x y)
theorem fallO_range {x y : Int} (hx : 0 ≤ x ∧ x ≤ 255) (hy : 0 ≤ y ∧ y ≤ 255) : 0 ≤ fallO x y ∧ fallO x y ≤ 255 := (oct_and hx (xor_range hx hy)).1
theorem riseO_range {x y : Int} (hx : 0 ≤ x ∧ x ≤ 255) (hy : 0 ≤ y ∧ y ≤ 255) : 0 ≤ riseO x y ∧ riseO x y ≤ 255 := (oct_and hy (xor_range hx hy)).1
theorem zw_self {f g : Int → Int → Int} (h : ∀ a b : Int, f a (g a b) = (fun a b => f a (g a b)) a b) : ∀ as bs : List Int, List.zipWith f as (List.zipWith g as bs) = List.zipWith (fun a b => f a (g a b)) as bs
  | [], _ => by simp
  | _ :: _, [] => by simp
  | a :: as, b :: bs => by simp [zw_self h as bs]
theorem zw_other {f g : Int → Int → Int} : ∀ as bs : List Int, List.zipWith f bs (List.zipWith g as bs) = List.zipWith (fun a b => f b (g a b)) as bs
  | [], _ => by simp
  | _ :: _, [] => by simp
  | a :: as, b :: bs => by simp [zw_other as bs]
theorem ones_fall {xs ys : List Int} (ox : Oct xs) (oy : Oct ys) (hl : xs.length = ys.length) : onesL 0 (bitsL (both fallO xs ys)) = fallenL 0 (bitsL xs) (bitsL ys) := by
  have e : bitsL (both fallO xs ys) = List.zipWith (fun a b => if a = 1 ∧ (if a = b then (0 : Int) else 1) = 1 then (1 : Int) else 0) (bitsL xs) (bitsL ys) := by
    refine bitsL_both (fun x y hx hy => ?_) xs ys ox oy
    unfold fallO
    rw [and_bits hx (xor_range hx hy), xor_bits hx hy, zw_self fun _ _ => rfl]
  rw [e]
  refine ones_of (fun as bs k => fallenL k as bs) (fun a b => a = 1 ∧ b = 0) (fun _ => by simp [fallenL]) (fun a as b bs k => by rw [fallenL]) ?_ _ _ 0 (by rw [bitsL_len, bitsL_len, hl]) (bitsL_bit xs) (bitsL_bit ys)
  intro a b ha hb
  rcases ha with rfl | rfl <;> rcases hb with rfl | rfl <;> decide
theorem fallen_swap : ∀ (as bs : List Int) (k : Int) , fallenL k bs as = (fun (as bs : List Int) (k : Int) => fallenL k bs as) as bs k := fun _ _ _ => rfl
theorem ones_rise {xs ys : List Int} (ox : Oct xs) (oy : Oct ys) (hl : xs.length = ys.length) : onesL 0 (bitsL (both riseO xs ys)) = fallenL 0 (bitsL ys) (bitsL xs) := by
  have e : bitsL (both riseO xs ys) = List.zipWith (fun a b => if b = 1 ∧ (if a = b then (0 : Int) else 1) = 1 then (1 : Int) else 0) (bitsL xs) (bitsL ys) := by
    refine bitsL_both (fun x y hx hy => ?_) xs ys ox oy
    unfold riseO
    rw [and_bits hy (xor_range hx hy), xor_bits hx hy, zw_other]
  rw [e]
  refine ones_of (fun as bs k => fallenL k bs as) (fun a b => b = 1 ∧ a = 0) (fun _ => by simp [fallenL]) (fun a as b bs k => by rw [fallenL]) ?_ _ _ 0 (by rw [bitsL_len, bitsL_len, hl]) (bitsL_bit xs) (bitsL_bit ys)
  intro a b ha hb
  rcases ha with rfl | rfl <;> rcases hb with rfl | rfl <;> decide
theorem ones_diff {xs ys : List Int} (ox : Oct xs) (oy : Oct ys) (hl : xs.length = ys.length) : onesL 0 (bitsL (both Builtin.bitXor xs ys)) = diffL 0 (bitsL xs) (bitsL ys) := by
  have e : bitsL (both Builtin.bitXor xs ys) = List.zipWith (fun a b => if a = b then (0 : Int) else 1) (bitsL xs) (bitsL ys) :=
    bitsL_both (fun x y hx hy => xor_bits hx hy) xs ys ox oy
  rw [e]
  refine ones_of (fun as bs k => diffL k as bs) (fun a b => ¬ a = b) (fun _ => by simp [diffL]) (fun a as b bs k => ?_) ?_ _ _ 0 (by rw [bitsL_len, bitsL_len, hl]) (bitsL_bit xs) (bitsL_bit ys)
  · rw [diffL]
    by_cases z : a = b <;> simp [z]
  · intro a b ha hb
    rcases ha with rfl | rfl <;> rcases hb with rfl | rfl <;> decide
/-- the zeros of an octet -/
def zO (n : Nat) : Int := 8 - (([n / 128 % 2, n / 64 % 2, n / 32 % 2, n / 16 % 2, n / 8 % 2, n / 4 % 2, n / 2 % 2, n / 1 % 2].count 1 : Nat) : Int)
theorem zO_eq : ∀ n : Nat, n < 256 → zO n = (((bitsOf (n : Int)).count 0 : Nat) : Int) := by decide +kernel
theorem zO_sum : ∀ os : List Int, Oct os → (os.map fun o => zO o.toNat).sum = zc (bitsL os)
  | [], _ => rfl
  | o :: os, h => by
    have r := zO_sum os fun x hx => h x (List.mem_cons_of_mem _ hx)
    have ho := h o (List.mem_cons_self ..)
    obtain ⟨n, rfl⟩ := nat_of ho.1
    rw [List.map_cons, List.sum_cons, r, Int.toNat_natCast, zO_eq n (by omega), bitsL_cons]
    unfold zc
    rw [List.count_append]
    omega
theorem ty_int (K : PySem.W.Frag) (H : Hp) (i : Int) : TyX K H (.int i) (.type "int") := .base (.int i)
theorem bitAnd_nn (a b : Nat) : Builtin.bitAnd (a : Int) (b : Int) = ((a &&& b : Nat) : Int) := by
  rw [bitAnd_pp (by omega) (by omega)]
  rfl
theorem worth_nat (j : Nat) : (128 : Int) / 2 ^ j = ((128 / 2 ^ j : Nat) : Int) := by
  simp
/-- at bit n of octets -/
theorem at_bit {xs : List Int} {n : Nat} (ox : Oct xs) (h : n < 8 * xs.length) : ∃ o : Nat, o < 256 ∧ xs[n / 8]? = some (o : Int) ∧ (bitsL xs)[n]? = (bitsOf (o : Int))[n % 8]? := by
  obtain ⟨x, hx⟩ := get_lt (l := xs) (i := n / 8) (by omega)
  have hm := ox x (List.mem_of_getElem? hx)
  obtain ⟨o, rfl⟩ := nat_of hm.1
  refine ⟨o, by omega, hx, ?_⟩
  have e := bitsL_get xs (n / 8) (n % 8) (by omega)
  rw [hx] at e
  have e2 : 8 * (n / 8) + n % 8 = n := by omega
  rw [e2] at e
  exact e
theorem both_at {g : Int → Int → Int} {xs ys : List Int} {i : Nat} {x y u : V} (hx : (IV xs)[i]? = some x) (hy : (IV ys)[i]? = some y) (hu : (IV (both g xs ys))[i]? = some u) : ∃ m n : Int, x = .int m ∧ y = .int n ∧ u = .int (g m n) := by
  obtain ⟨m, hm, rfl⟩ := iv_get hx
  obtain ⟨n, hn, rfl⟩ := iv_get hy
  obtain ⟨k, hk, rfl⟩ := iv_get hu
  obtain ⟨m', n', hm', hn', rfl⟩ := both_get hk
  rw [hm] at hm'
  rw [hn] at hn'
  cases hm'
  cases hn'
  exact ⟨_, _, rfl, rfl, rfl⟩
theorem bitXor_nn (a b : Nat) : Builtin.bitXor (a : Int) (b : Int) = ((a ^^^ b : Nat) : Int) := by
  rw [Bits.bitXor_pp (by omega) (by omega)]
  rfl
/-- one unlike bit on -/
theorem one_turn {os done as' bs' U : List Int} {m : Int} {i : Nat} {p : Int} {rest : List Int} (ho : Oct os) (hb : bitsL os = done ++ as') (bb : Bit bs') (hl : as'.length = bs'.length) (hu : diffL (done.length : Int) as' bs' = p :: rest) :
    ∃ (n o : Nat) (x y : Int) (pre as2 bs2 : List Int), p = (n : Int) ∧ o < 256 ∧ os[n / 8]? = some (o : Int) ∧ n / 8 < os.length ∧ as'.length = pre.length + 1 + as2.length ∧ as2.length = bs2.length ∧ Bit bs2 ∧
      (∀ m, turned as' bs' m = pre ++ (if m % 2 = 1 then y else x) :: turned as2 bs2 (m / 2)) ∧ rest = diffL ((done.length + pre.length + 1 : Nat) : Int) as2 bs2 ∧ bitsL os = (done ++ pre ++ [x]) ++ as2 ∧
      Oct (os.set (n / 8) ((o ^^^ (128 / 2 ^ (n % 8)) : Nat) : Int)) ∧ bitsL (os.set (n / 8) ((o ^^^ (128 / 2 ^ (n % 8)) : Nat) : Int)) = (done ++ pre ++ [y]) ++ as2 := by
  obtain ⟨pre, x, y, as2, bs2, h1, h2, h3, h4, h5, h6, h7⟩ := diff_at as' bs' _ p rest hl hu
  have lb := bitsL_len os
  have hn : done.length + pre.length < 8 * os.length := by
    rw [← lb, hb, h1]
    simp
  obtain ⟨o, o1, o2, o3⟩ := at_bit ho hn
  have bx : (bitsL os)[done.length + pre.length]? = some x := by
    rw [hb, h1, List.getElem?_append_right (by omega), Nat.add_sub_cancel_left, List.getElem?_append_right (by omega)]
    simp
  have bx2 : (bitsOf (o : Int))[(done.length + pre.length) % 8]? = some x := by rw [← o3]; exact bx
  have hx : x = 0 ∨ x = 1 := bitsL_bit os x (List.mem_of_getElem? bx)
  have hy : y = 0 ∨ y = 1 := bb y (by rw [h2]; simp)
  have yx : y = 1 - x := by omega
  obtain ⟨t1, t2⟩ := bit_turn o o1 ((done.length + pre.length) % 8) (by omega)
  have gd : (bitsOf (o : Int)).getD ((done.length + pre.length) % 8) 0 = x := by rw [List.getD_eq_getElem?_getD, bx2]; rfl
  rw [gd, ← yx] at t2
  have st := bitsL_set os ((done.length + pre.length) / 8) ((done.length + pre.length) % 8) _ _ _ (by omega) o2 t2
  have e8 : 8 * ((done.length + pre.length) / 8) + (done.length + pre.length) % 8 = done.length + pre.length := by omega
  rw [e8] at st
  refine ⟨done.length + pre.length, o, x, y, pre, as2, bs2, by rw [h4]; simp, o1, o2, by omega, by rw [h1]; simp; omega, h6, fun b hbm => bb b (by rw [h2]; simp [hbm]), h7, by rw [h5, h4]; congr 1, ?_, ?_, ?_⟩
  · rw [hb, h1]
    simp
  · intro z hz
    rcases List.mem_or_eq_of_mem_set hz with z1 | z1
    · exact ho z z1
    · omega
  · rw [st, hb, h1, List.append_assoc, List.append_assoc, List.set_append_right _ _ (by omega), Nat.add_sub_cancel_left]
    congr 1
    rw [List.set_append_right _ _ (Nat.le_refl _), Nat.sub_self]
    rfl
theorem Sv.tupOf {H : Hp} {a : Addr} {xs : List V} {t : Bool} {Q : VK} (S : Sv t K H a xs) (q : ∀ p H', Evl.Ex H H' → SqT K H' p xs → Q (.ref p) H') : rTupI K [.ref a] H Q := by
  unfold rTupI
  cases t with
  | false => exact ⟨a, xs, rfl, .inl ⟨S, fun l hl => q l _ (Evl.Ex.new hl) (SqT.of upd_same)⟩⟩
  | true => exact ⟨a, xs, rfl, .inr ⟨S, q a H (Evl.Ex.refl _) S⟩⟩
theorem Sv.listOf {H : Hp} {a : Addr} {xs : List V} {t : Bool} {Q : VK} (S : Sv t K H a xs) (q : ∀ p, H p = none → Q (.ref p) (upd H p (.lst xs))) : rListI K [.ref a] H Q := by
  unfold rListI
  exact ⟨a, xs, rfl, S.either, q⟩
theorem test_false {c : TT} {t u : TS} {D : Ends} {σ : L2.St} {H : Hp} (hc : ∀ Q' : Bool → Hp → Prop, (∀ H1, Evl.Ex H H1 → Q' false H1) → c σ H Q') (hu : ∀ H1, Evl.Ex H H1 → u D σ H1) : tIfI c t u D σ H := by
  unfold tIfI
  exact hc _ fun H1 e => iteF (hu H1 e)
theorem mem3 {w p q r : Int} {A B : Prop} (h1 : (w = p ∨ w = q ∨ w = r) → A) (h2 : B) : if (if false = true then !inV (V.int w) [.int p, .int q, .int r] else inV (V.int w) [.int p, .int q, .int r]) = true then A else B := by
  have e : (if false = true then !inV (V.int w) [.int p, .int q, .int r] else inV (V.int w) [.int p, .int q, .int r]) = decide (w = p ∨ w = q ∨ w = r) := by
    simp [inV, eqV, Bool.beq_eq_decide_eq, eq_comm]
  rw [e]
  exact if_dec h1 fun _ => h2
theorem in3 (w p q r : Int) : inV (.int w) [.int p, .int q, .int r] = decide (w = p ∨ w = q ∨ w = r) := by
  simp [inV, eqV, Bool.beq_eq_decide_eq, eq_comm]
abbrev tn (xs ys : List Int) (m : Int) : List Int := octetsL (turned (bitsL xs) (bitsL ys) m)
theorem tn_spec {xs ys : List Int} (m : Int) (hl : xs.length = ys.length) : bitsL (tn xs ys m) = turned (bitsL xs) (bitsL ys) m ∧ Oct (tn xs ys m) ∧ (tn xs ys m).length = xs.length := by
  have lx := bitsL_len xs
  have ly := bitsL_len ys
  have l := turned_len (bitsL xs) (bitsL ys) m (by omega)
  exact octetsL_spec (by omega) (turned_bit _ _ m (bitsL_bit xs) (bitsL_bit ys))
theorem sm_oct {xs : List Int} (h : Oct xs) : Sm xs := fun n hn => by
  have := h n hn
  omega
theorem ex_b {a : Addr} {H0 H H' : Hp} (e : Evl.Ex H0 H) (h : H0 a = none) (x : Exb a H H') : Evl.Ex H0 H' := fun b o q => x b o (fun z => by rw [z, h] at q; cases q) (e b o q)
theorem same_eq {x : V} {A B : Prop} (h : A) : if decide (x = x) = true then A else B := by
  rw [decide_eq_true rfl]
  exact iteT h
theorem ones_ok {k : Nat} (h : k ≤ 4096) : 0 ≤ (2 : Int) ^ k - 1 ∧ (2 : Int) ^ k - 1 < MM := by
  have p := pow_nn k
  have q : (2 : Int) ^ k ≤ MM := pow_mono h
  omega
theorem same_v {x y : V} {A B : Prop} (e : x = y) (h : B) : if (!decide (x = y)) = true then A else B := by
  subst e
  exact same_ne h
theorem bits_rep (o b : Int) (h : bitsOf o = List.replicate 8 b) : ∀ c : Nat, bitsL (List.replicate c o) = List.replicate (8 * c) b
  | 0 => rfl
  | c + 1 => by
    rw [List.replicate_succ, bitsL_cons, bits_rep o b h c, h, List.replicate_append_replicate]
    congr 1
    omega
theorem bits_ones (c : Nat) : bitsL (List.replicate c 255) = List.replicate (8 * c) 1 := bits_rep 255 1 (by decide) c
theorem bits_none (c : Nat) : bitsL (List.replicate c 0) = List.replicate (8 * c) 0 := bits_rep 0 0 (by decide) c
theorem oct_0 (c : Nat) : Oct (List.replicate c 0) := fun o h => by rw [List.eq_of_mem_replicate h]; omega
theorem zc_ones (n : Nat) : zc (List.replicate n 1) = 0 := by
  unfold zc
  rw [List.count_replicate]
  rfl
theorem zc_none (n : Nat) : zc (List.replicate n 0) = n := by
  unfold zc
  rw [List.count_replicate_self]
theorem le_rep : ∀ n : Nat, Le (List.replicate n 0) (List.replicate n 1)
  | 0 => Le.refl _
  | n + 1 => by
    rw [List.replicate_succ, List.replicate_succ]
    have := le_rep n
    simp [Le, this]
theorem fallen_rep : ∀ (n : Nat) (k : Int), fallenL k (List.replicate n 1) (List.replicate n 0) = (List.range n).map fun (i : Nat) => k + (i : Int)
  | 0, k => rfl
  | n + 1, k => by
    rw [List.replicate_succ, List.replicate_succ, fallenL, if_pos ⟨rfl, rfl⟩, fallen_rep n (k + 1), List.range_succ_eq_map, List.map_cons, List.map_map]
    congr 1
    · simp
    · apply List.map_congr_left
      intro i _
      simp
      omega
theorem due_long {c n : Nat} {dd : List Int} (hn : n = 512) (h : n ≤ c) (hd : dd = List.replicate n 0 ++ List.replicate (c - n) 255) : octetsL (turned (bitsL (List.replicate c 255)) (bitsL (List.replicate c 0)) (2 ^ 4096 - 1)) = dd := by
  subst hd
  have n8 : 4096 = 8 * n := by omega
  rw [n8]
  clear n8 hn
  have e : 8 * c = 8 * n + 8 * (c - n) := by omega
  rw [bits_ones, bits_none, e, turned_first]
  have e2 : List.replicate (8 * n) (0 : Int) ++ List.replicate (8 * (c - n)) 1 = bitsL (List.replicate n 0 ++ List.replicate (c - n) 255) := by
    rw [bitsL_append, bits_none, bits_ones]
  rw [e2, octetsL_bitsL]
  intro o ho
  rcases List.mem_append.mp ho with z | z
  · exact oct_0 _ o z
  · exact oct_255 _ o z
theorem rep_flat (k : Nat) (o : Int) : (List.replicate k [V.int o]).flatten = IV (List.replicate k o) := by
  rw [iv_rep]
  simp
/-- (o,) * k -/
theorem mulT1 {H : Hp} {t : Addr} {k o : Int} {Q : VK} (S : SqT K H t [V.int o]) (h1 : 1 ≤ k) (h2 : k ≤ 1000) (q : ∀ (n : Nat) p H', (n : Int) = k → Evl.Ex H H' → SqT K H' p (IV (List.replicate n o)) → Q (.ref p) H') : rMulU1 K (.ref t) (.int k) H Q := by
  unfold rMulU1
  by_cases e : k = 1
  · subst e
    exact .inr ⟨t, _, rfl, rfl, S, q 1 t H rfl (Evl.Ex.refl _) S⟩
  · refine .inl (.inr (.inr ⟨t, k, _, rfl, rfl, S, by simp, by omega, h2, by simp, fun p hp => q k.toNat p _ (by omega) (Evl.Ex.new hp) ?_⟩))
    rw [rep_flat]
    exact SqT.of upd_same
theorem mulL1 {H : Hp} {t : Addr} {k o : Int} {Q : VK} (S : H t = some (.lst [V.int o])) (h1 : 1 ≤ k) (h2 : k ≤ 1000) (q : ∀ (n : Nat) p H', (n : Int) = k → H p = none → Evl.Ex H H' → H' p = some (.lst (IV (List.replicate n o))) → Q (.ref p) H') : rMulU1 K (.ref t) (.int k) H Q := by
  unfold rMulU1
  refine .inl (.inr (.inl ⟨t, _, _, rfl, rfl, S, by omega, by omega, ?_, fun p hp => q k.toNat p _ (by omega) hp (Evl.Ex.new hp) ?_⟩))
  · exact Evl.sz_of (by simp; omega)
  · rw [upd_same, rep_flat]
theorem mulI1 {H : Hp} {i j : Int} {Q : VK} (c : CMulX i j) (q : Q (.int (i * j)) H) : rMulU1 K (.int i) (.int j) H Q := by
  unfold rMulU1
  exact .inl (.inl ⟨i, j, rfl, rfl, c, q⟩)
theorem rg_iv (n : Nat) : rgV 0 (n : Int) = IV ((List.range n).map fun (i : Nat) => (0 : Int) + (i : Int)) := by
  have e : ((n : Int) - 0).toNat = n := by omega
  have e2 : ∀ l : List Int, IV l = l.map V.int := fun _ => rfl
  unfold rgV
  rw [e, e2, List.map_map]
  rfl
end
end VB
/-! errors with a value: made, raised, caught by several clauses with a name, their value read -/
namespace VB
open PySem PySem.Spec PyProof.Rows L2
/-! ### try: .. except A as n: .. except B as n: .. -/
/-- what the clauses wish of an exception of the body, one behind the other; slot i is n's -/
def wManyAs (K : PySem.W.Frag) (i : Nat) (Wout : WX) (D : Ends) : List (Value × (Addr → Value → Option Addr → TS)) → WX
  | [] => Wout
  | (c, ts) :: r => fun cls d σ H => ∃ b, PySem.W.exmOne K cls c = some b ∧
      (b = true → ∀ a, H a = none → ts a cls d { nx := fun σ' H' => D.nx (σ'.set i none) H', rt := D.rt, bk := fun σ' H' => D.bk (σ'.set i none) H', ct := fun σ' H' => D.ct (σ'.set i none) H' } (σ.set i (some (.ref a))) H) ∧
      (b = false → wManyAs K i Wout D r cls d σ H)
inductive HdsAs (X : Cx) (i : Nat) (n : Str) : List ExceptHandler → List (Value × (Addr → Value → Option Addr → TS)) → Prop
  | nil : HdsAs X i n [] []
  | cons {x : Str} {c : Value} {ts : Addr → Value → Option Addr → TS} {b₀ : Stmt} {suite : List Stmt} {np pos' : Pos} {hds : List ExceptHandler} {l : List (Value × (Addr → Value → Option Addr → TS))} (hc : Names X x c)
      (hsu : ∀ (a : Addr) (oe : Obj) (cls : Value) (d : Option Addr) (pn : List (Addr × Obj)), Zc cls d oe → (∃ vs, oe.data = .fields vs) → PSs (X.suite a ((a, oe) :: pn)) (b₀ :: suite) (ts a cls d)) (r : HdsAs X i n hds l) :
      HdsAs X i n (.ExceptHandler (some (.Name x np)) (some n) (b₀ :: suite) pos' :: hds) ((c, ts) :: l)
section
variable {X : Cx} {body : List Stmt} {h₀ : ExceptHandler} {hds : List ExceptHandler} {l : List (Value × (Addr → Value → Option Addr → TS))} {pos : Pos} {tb : WX → TS} {Wout : WX} {i : Nat} {n : Str}
theorem ps_try_manyAs (hs : X.stack = X.env :: X.outer) (hf : X.env.frame = some X.env.locals) (hN : X.N.Nodup) (hi : X.N[i]? = some n) (hln : X.env.kindOf n = some .local) (tk : Takes X Wout)
    (hb : ∀ (W : WX) (pn : List (Addr × Obj)) (xe : Value → Shared → Prop), Takes (X.tr pn xe) W → PassesOwn (model X.prog X.w) X.A X.env xe → PSs (X.tr pn xe) body (tb W))
    (hh : HdsAs X i n (h₀ :: hds) l) : PS X (.Try body (h₀ :: hds) [] [] pos) (fun D σ H => tb (wManyAs X.K i Wout D l) D σ H) := by
  refine ⟨fun pins s σ H D I h => ?_⟩
  have ok := I.ok
  have hfr : X.A.frames = some (X.env :: X.outer) := by rw [ok.frames, hs]
  have hloc : Loc X.env.scope n := .inl hln
  refine wpAny_Try_except ?_
  refine wpAny_mono ((hb (wManyAs X.K i Wout D l) (X.pn ++ pins) (fun e s₁ => wpAny (model X.prog X.w) X.A (noteFrame e X.env) (fun _ s₂ => wpAny (model X.prog X.w) X.A (setFlight e none) (fun _ s₃ =>
    wpAny (model X.prog X.w) X.A (handleBy e X.env (h₀ :: hds)) (SP X pins D) X.xe s₃) X.xe s₂) X.xe s₁) (fun u s' xx => ?_) PassesOwn.looking).run [] s σ H D (I.toTry _) h) (fun f s1 hsp => ?_) (fun e s1 he => he)
  · -- the catch
    obtain ⟨a, B, sI, pins', σ', H', cls, d, rfl, J', nb, up, sky, na, os, ag, w⟩ := xx
    have J : Inv X pins σ' H' sI := J'.ofTry ok
    have sky' : Sky B (X.env :: X.outer) a (Zc cls d) X.env.locals s'.heap := by rw [← hs]; exact sky
    show wpAny (model X.prog X.w) X.A (noteFrame (.ref a) X.env) _ _ _
    refine Sky.land Zc.steady hfr hf sky' fun h3 fl3 up3 => ?_
    have J3 : Inv X pins σ' H' { s' with heap := h3 } := J.landed nb fl3.1 (up.trans up3) os ag
    obtain ⟨oe3, vs3, he3, hz3, hd3⟩ := fl3.there
    have notFr : ∀ {h : Heap} {o : Obj} {vs : Array Value}, h.FunFrames B (X.env :: X.outer) → h.get? a = some o → o.data = .fields vs → a ∉ frs (X.env :: X.outer) := fun {h o vs} ff e dd hm => by
      obtain ⟨_, o', e', hnf⟩ := ff.mem hm
      rw [e] at e'; cases e'
      exact hnf _ dd
    have nfr := notFr fl3.2.2.1 he3 hd3
    have nL : a ≠ X.env.locals := fun z => nfr (List.mem_filterMap.mpr ⟨X.env, List.mem_cons_self, by rw [hf, z]⟩)
    have nF : a ∉ X.fs := fun hm => by
      obtain ⟨e, he, q⟩ := List.mem_filterMap.mp hm
      exact nfr (List.mem_filterMap.mpr ⟨e, List.mem_cons_of_mem _ he, q⟩)
    have S3 := J3.suite he3 hd3 na nL nF
    have go : ∀ {hds' : List ExceptHandler} {l' : List (Value × (Addr → Value → Option Addr → TS))}, HdsAs X i n hds' l' → wManyAs X.K i Wout D l' cls d σ' H' →
        wpAny (model X.prog X.w) X.A (handleBy (.ref a) X.env hds') (SP X pins D) X.xe { s' with heap := h3 } := by
      intro hds' l' hk
      induction hk with
      | nil =>
        intro w
        refine wpAny_handleBy_nil ?_
        obtain ⟨k1, k2, k3, oe, vs, T, oT, ts', he, hz, hd, h1, hr⟩ := id fl3
        unfold PySem.passOn
        refine wpAny_bind (wpAny_field he hd h1 ?_)
        rw [if_neg (show ¬ ((Value.ref T == Value.none) = true) from by simp)]
        have fin : wpAny (model X.prog X.w) X.A (setFlight (.ref a) X.env.frame) (fun _ s4 => wpAny (model X.prog X.w) X.A (throw (.ref a) : Sem Flow) (SP X pins D) X.xe s4) X.xe { s' with heap := h3 } := by
          rw [hf]
          refine HandSPX.setFlight_upZ fl3 fun h4 hh4 up4 => wpAny_throw (tk _ _ ?_)
          exact ⟨a, B, sI, pins, σ', H', cls, d, rfl, J, nb, (up.trans up3).trans up4, .inr (.inr (by rw [hs]; exact hh4)), na, os, ag, w⟩
        first
          | exact wpAny_bind (wpAny_pure (wpAny_bind fin))
          | exact wpAny_bind fin
      | @cons x c ts b₀ suite np pos' hds2 l2 hc hsu r ih =>
        intro w
        obtain ⟨b, hb1, hyes, hno⟩ := w
        refine wpAny_handleBy_cons (codeAny_handlers_test ?_) (by intro q; cases q)
        have LT : PySem.W.Looks (model X.prog X.w) h3 (typeOf (.ref a)) cls := fun A Q E s k q => wpAny_typeOf_ref (k _ _ he3) (by rw [hz3.1]; exact q)
        have LM := PySem.W.exm_one (M := model X.prog X.w) (J3.kIn) LT hb1
        have test : ∀ {Q : Value → Shared → Prop} {E : Value → Shared → Prop}, Q c { s' with heap := h3 } → wpAny (model X.prog X.w) (X.A.mark (some (.ref a))) (eval (.Name x np) X.env) Q E { s' with heap := h3 } := fun {Q E} q => by
          obtain ⟨hg, hdbg, hm | ⟨hm, hv, hnn⟩⟩ := hc
          · exact ld_glob (X := X.suite a ((a, oe3) :: (X.pn ++ pins))) S3 hg hm q hdbg
          · exact ld_blt (X := X.suite a ((a, oe3) :: (X.pn ++ pins))) S3 hg hm hv q hnn hdbg
        refine test (LM.here ?_)
        cases b with
        | true =>
          refine codeAny_handlers_suite_as ?_
          refine HandSPX.lands_againZ fl3 fun h4 fl4 up4 => ?_
          have J4 : Inv X pins σ' H' { s' with heap := h4 } := J.landed nb fl4.1 ((up.trans up3).trans up4) os ag
          obtain ⟨oe4, vs4, he4, hz4, hd4⟩ := fl4.there
          have S4 := J4.suite he4 hd4 na nL nF
          refine store_ok (X := X.suite a ((a, oe4) :: (X.pn ++ pins))) (v := .ref a) S4 hN hi hloc rfl (fun s5 S5 => ?_) (.inr hln)
          refine wpAny_mono ((hsu a oe4 cls d (X.pn ++ pins) hz4 ⟨_, hd4⟩).run [] s5 _ H' _ S5 (hyes rfl a na)) (fun f s6 hsp => ?_) (fun _ _ z => False.elim z)
          have end_ : ∀ {σ6 : L2.St} {H6 : Hp} {Q : Shared → Prop}, Inv (X.suite a ((a, oe4) :: (X.pn ++ pins))) [] σ6 H6 s6 → (∀ s7, Inv X pins (σ6.set i none) H6 s7 → Q s7) →
              wpAny (model X.prog X.w) X.A (do bindName X.env n .none; unbindBehindTheSuite X.env n pos') (fun _ s7 => Q s7) X.xe s6 := fun {σ6 H6 Q} S6 hq => gone_ok (S6.unsuite ok) hN hi hln hq
          cases f with
          | next =>
            obtain ⟨σ6, H6, S6, q6⟩ := hsp
            exact end_ S6 fun s7 J7 => ⟨_, _, J7, q6⟩
          | brk =>
            obtain ⟨σ6, H6, S6, q6⟩ := hsp
            exact end_ S6 fun s7 J7 => ⟨_, _, J7, q6⟩
          | cont =>
            obtain ⟨σ6, H6, S6, q6⟩ := hsp
            exact end_ S6 fun s7 J7 => ⟨_, _, J7, q6⟩
          | ret u =>
            obtain ⟨v6, σ6, H6, S6, r6, q6⟩ := hsp
            exact end_ S6 fun s7 J7 => ⟨_, _, _, J7, r6, q6⟩
        | false =>
          show wpAny _ X.A (handleBy (.ref a) X.env hds2) _ _ _
          exact ih (hno rfl)
    exact go hh w
  · cases f with
    | next =>
      obtain ⟨σ', H', J', q⟩ := hsp
      exact wpAny_execs_nil ⟨σ', H', J'.ofTry ok, q⟩
    | brk =>
      obtain ⟨σ', H', J', q⟩ := hsp
      exact ⟨σ', H', J'.ofTry ok, q⟩
    | cont =>
      obtain ⟨σ', H', J', q⟩ := hsp
      exact ⟨σ', H', J'.ofTry ok, q⟩
    | ret u =>
      obtain ⟨v, σ', H', J', r, q⟩ := hsp
      exact ⟨v, σ', H', J'.ofTry ok, r, q⟩
end
/-! ### calls within a try -/
section
variable {X : Cx} {CX : CXT} {k n : Nat} {ps ks : List Str} {sp : Sp} {E : L2.St → XK} {x : Str} {p pos : Pos}
  {e : Expr} {es : List Expr} {kws : List Keyword} {t tk : TA} {g : List Value → List Value → List Value} {gV : List V → List V → List V}
theorem backS {pins : List (Addr × Obj)} {σ : L2.St} {H : Hp} {s s' : Shared} {Q : VK} {E : XK} {r : Result}
    (hx : PassesAt CX X σ E) (I : Inv X pins σ H s) (hq : CR CX X.stack X.prog X.w H s Q E r s') :
    match r with
    | .ok (.ret u) => EP X pins σ Q u s'
    | .ok _ => False
    | .error e => X.xe e s' := by
  cases r with
  | error e => exact hx pins H s e s' I hq
  | ok fl =>
    cases fl with
    | ret u => exact I.after hq
    | next => exact hq
    | brk => exact hq
    | cont => exact hq
theorem enterS {f : Addr} {fd : FuncData} {pins : List (Addr × Obj)} {σ : L2.St} {H : Hp} {s : Shared} {Q : VK} {E : XK}
    {args : Args} {us : List Value} {vs : List V} (F : Fg X.prog X.w X.K X.mg X.base CX k f fd ps sp)
    (hr : Rm k X.A) (hx : PassesAt CX X σ E) (I : Inv X pins σ H s) (hb : BindsTo s fd args (ps.zip us))
    (r : Vals vs us) (h : sp vs H Q E) :
    wpAny (model X.prog X.w) X.A (call (.ref f) args.pos args.kw) (EP X pins σ Q) X.xe s := by
  refine wpAny_call (codeAny_mono (F.go X.A X.stack s H args us vs Q E hr I.env0 hb r h) ?_)
  intro r s' hq
  have z := backS hx I hq
  cases r with
  | error e => exact z
  | ok fl =>
    cases fl with
    | ret u => exact z
    | next => exact z.elim
    | brk => exact z.elim
    | cont => exact z.elim
theorem pe_calS (C : Cal X.prog X.w X.K X.mg X.base CX k x ps sp) (hr : Rm k X.A) (hx : ∀ σ, PassesAt CX X σ (E σ))
    (ha : PA X (e :: es) t) (hg : Gl X x := by rfl) (hdb : (x == ("__debug__" : Str)) = false := by decide)
    (he : starEach (e :: es) X.env = (false, eval e X.env) :: starEach es X.env := by rfl)
    (hpl : (backTo pos (starEach es X.env)).any (·.1) = false := by rfl) :
    PE X (.Call (.Name x p) (e :: es) [] pos) (tCallS sp E t) := by
  obtain ⟨f, fd, F, hm, hk, hb⟩ := C.ex
  constructor
  intro pins s σ H Q I h
  refine wpAny_Call_Name_kw (ld_glob I hg hm ?_ hdb)
  refine PySem.W.callWith_K (h₀ := X.base) I.ok.mod.kin hk (thn (ha.run pos pins s σ H _ I h) ?_) he hpl
  rintro us s1 ⟨vs, H1, I1, r, q⟩
  have q : sp vs H1 Q (E σ) := q
  have l : (us ++ []).length = ps.length := by
    rw [List.append_nil, ← r.length]
    exact F.cnt _ _ _ _ q
  have b := hb s1 us I1.kIn l
  rw [List.append_nil] at b
  exact ⟨I1.kIn, enterS (args := ⟨us, []⟩) F hr (hx σ) I1 b r q⟩
def tCallSN (n m : Nat) (sp : Sp) (gV : List V → List V → List V) (E : L2.St → XK) (tk : TA) : TE := fun σ H Q => tk σ H fun zs H2 => zs.length = m ∧ sp (gV [] zs) H2 Q (E σ)
theorem pe_calkS (C : CalK X.prog X.w X.K X.mg X.base CX k x ps 0 ks g gV sp) (hr : Rm k X.A) (hx : ∀ σ, PassesAt CX X σ (E σ))
    (hkw : PK X kws tk) (hg : Gl X x := by rfl)
    (hall : (backToKw pos (keywordEach kws X.env)).all (·.1.isSome) = true := by rfl)
    (hks : (backToKw pos (keywordEach kws X.env)).filterMap (·.1) = ks := by rfl)
    (hdb : (x == ("__debug__" : Str)) = false := by decide)
    (hpl : ((backTo pos (starEach [] X.env)).any (·.1) || (backToKw pos (keywordEach kws X.env)).any (·.1.isNone)) = false := by rfl) :
    PE X (.Call (.Name x p) [] kws pos) (tCallSN 0 ks.length sp gV E tk) := by
  obtain ⟨f, fd, F, hm, hk, hb⟩ := C.ex
  constructor
  intro pins s σ H Q I h
  refine wpAny_Call_Name_kw (ld_glob I hg hm ?_ hdb)
  have h : tk σ H fun zs H2 => zs.length = ks.length ∧ sp (gV [] zs) H2 Q (E σ) := h
  refine PySem.W.callWith_KW0 (h₀ := X.base) I.ok.mod.kin hk hall (thn (hkw.run pos pins s σ H _ I h) ?_) hpl
  rintro ws s2 ⟨zs, H2, I2, rz, l2, q2⟩
  refine ⟨I2.kIn, ?_⟩
  rw [hks]
  exact enterS (args := ⟨[], ks.zip ws⟩) F hr (hx σ) I2
    (hb.to s2 [] ws I2.kIn rfl (rz.length.symm.trans l2)) (hb.rel .nil rz) q2
end
/-! ### errors that carry one value -/
/-- the __init__ of a class statement -/
def initOf : Stmt → Stmt
  | .ClassDef (body := b) .. => b.headD (.Pass ⟨0, 0, 0, 0⟩)
  | s => s
/-- the class x at C, its __init__ at fI, its value's name g -/
structure ErrC (K : PySem.W.Frag) (mg : Str → Option Value) (x g : Str) (C fI : Addr) : Prop where
  oex : OexC K C
  gC : mg x = some (.ref C)
  iC : PySem.W.findIn K (.ref C) "__init__" = some (some (.ref fI))
  tI : PySem.W.typeIn K (.ref fI) = some (.type "function")
  noG : PySem.W.findIn K (.ref C) g = some none
  xf : XfC K C
/-- what __init__ does -/
def spInit (K : PySem.W.Frag) (g : Str) : Sp := fun vs H Q _ => ∃ (a C : Addr) (y : V), vs = [.ref a, y] ∧ OexC K C ∧ PySem.W.findIn K (.ref C) g = some none ∧ H a = some (exo a C none) ∧
  ∀ dx, H dx = none → dx ≠ a → Q .non (upd (upd H dx (exd dx [(g, y)])) a (exo a C (some dx)))
/-- the reading of C(y), at its end -/
theorem made {K : PySem.W.Frag} {g : Str} {C : Addr} {y : V} {H1 : Hp} {Q : XK} (T : OexC K C) (hn : PySem.W.findIn K (.ref C) g = some none) (q : ∀ d, H1 d = none → Q (.ref C) (some d) (upd H1 d (.xd [(g, y)]))) :
    [y].length ≤ 1000 ∧ ∀ a, H1 a = none → spInit K g (.ref a :: ([y] ++ [])) (upd H1 a (exo a C none))
      (fun v H2 => v = .non ∧ ∃ (d : Addr) (fs : List (Str × V)), H2 a = some (exo a C (some d)) ∧ H2 d = some (exd d fs) ∧ H1 d = none ∧ Q (.ref C) (some d) (upd (del H2 a) d (.xd fs))) (fun _ _ _ => False) := by
  refine ⟨by simp, fun a na => ⟨a, C, y, rfl, T, hn, upd_same, fun dx nd ne => ⟨rfl, dx, [(g, y)], upd_same, ?_, ?_, ?_⟩⟩⟩
  · rw [upd_ne ne, upd_same]
  · rw [upd_ne ne] at nd
    exact nd
  · rw [upd_ne ne] at nd
    have e : upd (del (upd (upd (upd H1 a (exo a C none)) dx (exd dx [(g, y)])) a (exo a C (some dx))) a) dx (.xd [(g, y)]) = upd H1 dx (.xd [(g, y)]) := by
      funext b
      by_cases hb : b = dx
      · subst hb
        rw [upd_same, upd_same]
      · rw [upd_ne hb, upd_ne hb]
        by_cases ha : b = a
        · subst ha
          rw [del_same, na]
        · rw [del_ne ha, upd_ne ha, upd_ne hb, upd_ne ha]
    rw [e]
    exact q dx nd
end VB
/-! methods and makings, of defs told as Fg -/
namespace VB
open PySem PySem.Spec PyProof.Rows L2
theorem Rm.make {k : Nat} {A : Around} (r : Rm (k + 1) A) (C : Addr) (us : List Value) (kw : List (Str × Value)) : Rm k (A.under (.builtin "type.__call__" ⟨.ref C :: us, kw⟩)) :=
  ⟨r.rm.make C us kw, r.gd⟩
section
variable (P : Program) (w : World) (K : PySem.W.Frag) (mg : Str → Option Value) (base : Heap) (CX : CXT) (k : Nat)
/-- a method of the class at C -/
structure CalM (C : Addr) (m : Str) (ps : List Str) (sp : Sp) : Prop where
  ex : ∃ (f : Addr) (fd : FuncData), Fg P w K mg base CX k f fd ps sp ∧ Cls K C ∧ Meth K C m f ∧ Binds K fd ps []
/-- .. called with keywords -/
structure CalMK (C : Addr) (m : Str) (ps : List Str) (n : Nat) (ks : List Str) (g : List Value → List Value → List Value) (gV : List V → List V → List V) (sp : Sp) : Prop where
  ex : ∃ (f : Addr) (fd : FuncData), Fg P w K mg base CX k f fd ps sp ∧ Cls K C ∧ Meth K C m f ∧ KBn K fd ps n ks g gV
/-- the class x, made -/
structure Mak (x : Str) (C : Addr) (ps : List Str) (sp : Sp) : Prop where
  ex : ∃ (f : Addr) (fd : FuncData), Fg P w K mg base CX k f fd ps sp ∧ Mk K C f ∧ mg x = some (.ref C) ∧ Binds K fd ps []
structure MakK (x : Str) (C : Addr) (ps : List Str) (n : Nat) (ks : List Str) (g : List Value → List Value → List Value) (gV : List V → List V → List V) (sp : Sp) : Prop where
  ex : ∃ (f : Addr) (fd : FuncData), Fg P w K mg base CX k f fd ps sp ∧ Mk K C f ∧ mg x = some (.ref C) ∧ KBn K fd ps n ks g gV
end
section
variable {X : Cx} {CX : CXT} {k n : Nat} {ps ks : List Str} {sp : Sp} {E : XK} {x m : Str} {p pos apos : Pos} {C : Addr}
  {e o : Expr} {es : List Expr} {kws : List Keyword} {t tk : TA} {ta : TE}
  {g : List Value → List Value → List Value} {gV : List V → List V → List V}
/-- what a call of a method is, step by step -/
abbrev askM (X : Cx) (o : Expr) (m : Str) (pl : Sem Bool) (apos pos : Pos) (zs : List Expr) : Sem Value := do let u ← eval o X.env; standAt apos.atName; let (g, as) ← holding [u] (getMethod u m pl); callWith pos g as (backTo pos (starEach zs X.env)) (backToKw pos (keywordEach [] X.env))
theorem pe_calM {pl : Sem Bool} (M : CalM X.prog X.w X.K X.mg X.base CX k C m ps sp) (hr : Rm k X.A) (hx : Passes CX X E) (he : PE X o ta) (ha : PA X (e :: es) t)
    (hst : starEach (e :: es) X.env = (false, eval e X.env) :: starEach es X.env := by rfl) (hpl : (backTo pos (starEach es X.env)).any (·.1) = false := by rfl)
    (ht : eval (.Call (.Attribute o m apos) (e :: es) [] pos) X.env = askM X o m pl apos pos (e :: es) := by rfl) :
    PE X (.Call (.Attribute o m apos) (e :: es) [] pos) (tMeth C m sp [] E ta t) := by
  obtain ⟨f, fd, F, c, hm, hb⟩ := M.ex
  constructor
  intro pins s σ H Q I h
  refine PySem.W.methodCall_KW (pl := pl) (thn (he.run pins s σ H _ I h) ?_) ht
  rintro u s1 ⟨x, H1, I1, rx, a, dx, fs, rfl, ea, l, q⟩
  obtain rfl : u = Value.ref a := rx
  refine getmeth_ok I1 ea c hm l ?_
  refine PySem.W.callWith_K (first := [.ref a]) (h₀ := X.base) I.ok.mod.kin hm.kp (thn (ha.run pos pins s1 σ H1 _ I1 q) ?_) hst hpl
  rintro us s2 ⟨vs, H2, I2, r, q2⟩
  have q3 : sp (.ref a :: (vs ++ [])) H2 Q E := q2
  rw [List.append_nil] at q3
  have r2 : Vals (V.ref a :: vs) (Value.ref a :: us) := .cons rfl r
  have b := hb s2 (.ref a :: us) I2.kIn (by rw [List.append_nil, ← r2.length]; exact F.cnt _ _ _ _ q3)
  rw [List.append_nil] at b
  exact ⟨I2.kIn, enter (args := ⟨.ref a :: us, []⟩) F hr hx I2 b r2 q3⟩
theorem pe_calM0 {pl : Sem Bool} (M : CalM X.prog X.w X.K X.mg X.base CX k C m ps sp) (hr : Rm k X.A) (hx : Passes CX X E) (he : PE X o ta)
    (ht : eval (.Call (.Attribute o m apos) [] [] pos) X.env = askM X o m pl apos pos [] := by rfl) :
    PE X (.Call (.Attribute o m apos) [] [] pos) (tMeth C m sp [] E ta tNil) := by
  obtain ⟨f, fd, F, c, hm, hb⟩ := M.ex
  constructor
  intro pins s σ H Q I h
  refine PySem.W.methodCall_KW (pl := pl) (thn (he.run pins s σ H _ I h) ?_) ht
  rintro u s1 ⟨x, H1, I1, rx, a, dx, fs, rfl, ea, l, q⟩
  obtain rfl : u = Value.ref a := rx
  refine getmeth_ok I1 ea c hm l ?_
  have q3 : sp [.ref a] H1 Q E := q
  have b := hb s1 [.ref a] I1.kIn (F.cnt _ _ _ _ q3)
  exact PySem.W.callWith_K0 (first := [.ref a]) I1.kIn hm.kp (enter (args := ⟨[.ref a], []⟩) F hr hx I1 b (show Vals [V.ref a] [Value.ref a] from .cons rfl .nil) q3)
theorem run_mak {f : Addr} {fd : FuncData} {pins : List (Addr × Obj)} {σ : L2.St} {H : Hp} {s : Shared} {Q : VK} {us : List Value} {kw : List (Str × Value)} {zs : List Value} {vs : List V} (M : Mk X.K C f) (F : Fg X.prog X.w X.K X.mg X.base CX k f fd ps sp) (hr : Rm (k + 1) X.A)
    (hx : Passes CX X E) (I : Inv X pins σ H s)
    (h : ∀ x dx, H x = none → H dx = none → dx ≠ x → sp (.ref x :: vs) (upd (upd H dx (.own x)) x (.ins C dx [])) (fun v H2 => v = .non ∧ Q (.ref x) H2) E)
    (hb : ∀ (s2 : Shared), X.K.In s2.heap → BindsTo s2 fd ⟨.ref (s.heap.objs.size + 1) :: us, kw⟩ (ps.zip (.ref (s.heap.objs.size + 1) :: zs))) (r : Vals vs zs) :
    wpAny (model X.prog X.w) X.A (call (.ref C) us kw) (EP X pins σ Q) X.xe s := by
  have hq := h (s.heap.objs.size + 1) s.heap.objs.size (I.hok.fresh (Nat.le_succ _)) (I.hok.fresh (Nat.le_refl _)) (Nat.ne_of_lt (Nat.lt_succ_self _))
  have I2 := Inv.made (C := C) I
  refine wpAny_call (make_map (f := f) I.kIn M.makes M.init (beq_iff_eq.mp M.fn) (codeAny_mono (F.go _ X.stack _ _ ⟨.ref (s.heap.objs.size + 1) :: us, kw⟩ (.ref (s.heap.objs.size + 1) :: zs) _ _ E (hr.make C us kw)
    (I2.env0.make C us kw) (hb _ I2.kIn) (show Vals (V.ref (s.heap.objs.size + 1) :: vs) (Value.ref (s.heap.objs.size + 1) :: zs) from .cons rfl r) hq) ?_))
  intro r' s' hq'
  cases r' with
  | error e => exact hx pins σ _ _ e s' I2 hq'
  | ok fl =>
    cases fl with
    | ret u =>
      obtain ⟨v, H', I3, rv, ev, q3⟩ := I2.after hq'
      subst ev
      exact ⟨rv, ⟨V.ref (s.heap.objs.size + 1), H', I3, rfl, q3⟩⟩
    | next => exact False.elim hq'
    | brk => exact False.elim hq'
    | cont => exact False.elim hq'
theorem pe_mak (M : Mak X.prog X.w X.K X.mg X.base CX k x C ps sp) (hr : Rm (k + 1) X.A) (hx : Passes CX X E) (ha : PA X (e :: es) t) (hg : Gl X x := by rfl) (hdb : (x == ("__debug__" : Str)) = false := by decide)
    (he : starEach (e :: es) X.env = (false, eval e X.env) :: starEach es X.env := by rfl) (hpl : (backTo pos (starEach es X.env)).any (·.1) = false := by rfl) :
    PE X (.Call (.Name x p) (e :: es) [] pos) (tMake C sp [] E t) := by
  obtain ⟨f, fd, F, mk, hm, hb⟩ := M.ex
  constructor
  intro pins s σ H Q I h
  refine wpAny_Call_Name_kw (ld_glob I hg hm ?_ hdb)
  refine PySem.W.callWith_K (h₀ := X.base) I.ok.mod.kin mk.kp (thn (ha.run pos pins s σ H _ I h) ?_) he hpl
  rintro us s1 ⟨vs, H1, I1, r, q⟩
  refine ⟨I1.kIn, run_mak (vs := vs) (zs := us) mk F hr hx I1 (fun x dx a b c => ?_) (fun s2 k2 => ?_) r⟩
  · have z := q x dx a b c
    rw [List.append_nil] at z
    exact z
  · have q0 := q (s1.heap.objs.size + 1) s1.heap.objs.size (I1.hok.fresh (Nat.le_succ _)) (I1.hok.fresh (Nat.le_refl _)) (Nat.ne_of_lt (Nat.lt_succ_self _))
    have l := F.cnt _ _ _ _ q0
    have b := hb s2 (.ref (s1.heap.objs.size + 1) :: us) k2 (by rw [List.append_nil, ← l, List.append_nil, List.length_cons, List.length_cons, r.length])
    rw [List.append_nil] at b
    exact b
/-- +: ints, lists, and tuples of any length -/
def rAddA (K : PySem.W.Frag) : R2 := fun x y H Q => rAddU K x y H Q ∨ rCatA K x y H Q
theorem u_addA {K : PySem.W.Frag} (hK : X.K = K := by rfl) : OpR X (binaryOp .Add) (rAddA K) := by
  subst hK
  exact (u_add rfl).or op_catA
/-- an item of a list, at a place from the front -/
def rGetL (K : PySem.W.Frag) : R2 := fun x y H Q => ∃ p xs i z, x = .ref p ∧ y = .int (i : Nat) ∧ SqL K H p xs ∧ xs[i]? = some z ∧ i < 1000000 ∧ Q z H
theorem get_list {K : PySem.W.Frag} (hK : X.K = K := by rfl) : PGet X (rGetL K) := by
  subst hK
  intro pins s σ H x y v u Q I rx ry h
  obtain ⟨p, xs, i, z, rfl, rfl, hq, he, hi, q⟩ := h
  cases rx
  obtain ⟨t, rfl⟩ := ry
  obtain ⟨its, r, pl, hz⟩ := I.list hq
  obtain ⟨w, ew, rw'⟩ := r.get he
  exact wpAny_getItem_list pl.isList (by omega) (by omega) (by simpa using ew) ⟨z, H, I, rw', q⟩
theorem pe_fldU {K : PySem.W.Frag} {f : Str} (he : PE X e ta) (hb : attributeBase e f X.env (eval e X.env) = eval e X.env) (hK : X.K = K := by rfl) : PE X (.Attribute e f pos) (tFld K ta f) := by
  subst hK
  exact pe_fld he hb
theorem ps_fldU {K : PySem.W.Frag} {value : Expr} {tv : TE} {f : Str} {pos' : Pos} (ha : PE X o ta) (hv : PE X value tv) (hs : swapsWith value (some (.Attribute o f pos')) pos.line X.env = pure false) (hK : X.K = K := by rfl) : PS X (.Assign [.Attribute o f pos'] value pos) (sFld K ta tv f) := by
  subst hK
  exact ps_fld ha hv hs
theorem ps_fldaugU {K : PySem.W.Frag} {value : Expr} {tv : TE} {f : Str} {tpos : Pos} {op : Operator} {rd : V → V → Hp → VK → Prop} (ha : PE X o ta) (hv : PE X value tv) (hop : InOp X op rd) (hK : X.K = K := by rfl) : PS X (.AugAssign (.Attribute o f tpos) op value pos) (sFldAug K ta tv rd f) := by
  subst hK
  exact ps_fldaug ha hv hop
theorem pe_dpop2U {f : Expr} {cpos : Pos} {td ty tx : TE} (ho : PE X o td) (he : PE X e ty) (hf : PE X f tx) (h1 : attributeBase o "pop" X.env (eval o X.env) = eval o X.env := by rfl)
    (h2 : ((backTo cpos (starEach [e, f] X.env)).all (fun x => !x.1) && (backToKw cpos (keywordEach [] X.env)).all (fun x => x.1.isSome)
      && decide (([e, f] : List Expr).length + ([] : List Keyword).length + (if ([] : List Keyword).isEmpty then 0 else 1) < 30)) = true := by rfl)
    (h3 : (apos.endLine == cpos.line) = true := by rfl) (h4 : backTo cpos (starEach [e, f] X.env) = [(false, eval e X.env), (false, eval f X.env)] := by rfl) :
    PE X (.Call (.Attribute o "pop" apos) [e, f] [] cpos) (tDPop2 td ty tx) := pe_dpop2 ho he hf ⟨h1, h2, h3, h4⟩
end
end VB
/-! repr of data, of truths and of ints -/
namespace VB
open PySem PySem.Spec PyProof.Rows L2
section
variable {X : Cx}
theorem call_repr_bl : CallR X (.builtin "repr") (fun xs H Q => ∃ b : Bool, xs = [.bl b] ∧ Q (.str (if b then "True" else "False")) H) := by
  intro pins s σ H xs us Q I r h
  obtain ⟨b, rfl, q⟩ := h
  obtain ⟨u, rfl, ru⟩ := vals1 r
  cases (show u = Value.bool b from ru)
  exact PySem.P.repr_of_bool ⟨.str _, H, I.tok _, ⟨_, rfl⟩, q⟩
end
def rReprU (K : PySem.W.Frag) : List V → Hp → VK → Prop := fun xs H Q => rRepr K xs H Q ∨ ((∃ i, xs = [.int i] ∧ i.natAbs.log2 < 1920 ∧ Q (.str (toString i)) H) ∨ ∃ b : Bool, xs = [.bl b] ∧ Q (.str (if b then "True" else "False")) H)
section
variable {X : Cx} {K : PySem.W.Frag} {H : Hp} {Q : VK}
theorem u_reprU {k : Nat} (hr : Rm k X.A) (hK : X.K = K := by rfl) : CallR X (.builtin "repr") (rReprU K) := by
  subst hK
  exact (call_repr hr).or (CallR.or (SkE.call_repr_int (X := X)) (call_repr_bl (X := X)))
theorem rp_bl (b : Bool) (q : Q (.str (if b then "True" else "False")) H) : rReprU K [.bl b] H Q := .inr (.inr ⟨b, rfl, q⟩)
theorem rp_int {i : Int} (h : i.natAbs.log2 < 1920) (q : Q (.str (toString i)) H) : rReprU K [.int i] H Q := .inr (.inl ⟨i, rfl, h, q⟩)
end
end VB
/-! raising an error that carries one value -/
namespace VB
open PySem PySem.Spec PyProof.Rows L2
/-- the class x at C with the value's name g, and its __init__ -/
structure MkE (P : Program) (w : World) (K : PySem.W.Frag) (mg : Str → Option Value) (base : Heap) (x g : Str) (C fI : Addr) : Prop where
  err : ErrC K mg x g C fI
  ini : ∃ fd, FnOk P w K mg base CX0 1 fI fd ["self", g] (spInit K g) ∧ Binds K fd ["self", g] []
section
variable {X : Cx} {x g : Str} {C fI : Addr} {p pos : Pos} {e : Expr} {ta : TA}
theorem pmk_err {k : Nat} (M : MkE X.prog X.w X.K X.mg X.base x g C fI) (hr : Rm k X.A) (ha : PA X [e] ta) (hk : 2 ≤ k := by omega) (hg : Gl X x := by rfl) (hdb : (x == ("__debug__" : Str)) = false := by decide)
    (he : starEach [e] X.env = (false, eval e X.env) :: starEach [] X.env := by rfl) (hpl : (backTo pos (starEach [] X.env)).any (·.1) = false := by rfl) :
    PMk X (.Call (.Name x p) [e] [] pos) (tMkO C (spInit X.K g) [] ta) := by
  obtain ⟨fd, F, b⟩ := M.ini
  exact pmk_oex M.err.oex M.err.iC M.err.tI F (hr.rm.mono hk) b .nil pass0 hg M.err.gC ha hdb he hpl
theorem ps_raiseE {k : Nat} {W : WX} (M : MkE X.prog X.w X.K X.mg X.base x g C fI) (hr : Rm k X.A) (tk : Takes X W) (hc : X.calm = true) (ha : PA X [e] ta) {pos' : Pos} (hk : 2 ≤ k := by omega) (hg : Gl X x := by rfl) (hdb : (x == ("__debug__" : Str)) = false := by decide)
    (he : starEach [e] X.env = (false, eval e X.env) :: starEach [] X.env := by rfl) (hpl : (backTo pos (starEach [] X.env)).any (·.1) = false := by rfl) :
    PS X (.Raise (some (.Call (.Name x p) [e] [] pos)) none pos') (fun _ σ H => tMkO C (spInit X.K g) [] ta σ H fun cls d H' => W cls d σ H') :=
  ps_raise hc tk (pmk_err M hr ha hk hg hdb he hpl)
end
end VB
/-! methods called within a try -/
namespace VB
open PySem PySem.Spec PyProof.Rows L2
def tMethS (C : Addr) (m : Str) (sp : Sp) (E : L2.St → XK) (ta : TE) (t : TA) : TE := fun σ H Q => tMeth C m sp [] (E σ) ta t σ H Q
section
variable {X : Cx} {CX : CXT} {k n : Nat} {ps ks : List Str} {sp : Sp} {E : L2.St → XK} {x m : Str} {p pos apos : Pos} {C : Addr} {e o : Expr} {es : List Expr} {t tk : TA} {ta : TE}
theorem pe_calMS {pl : Sem Bool} (M : CalM X.prog X.w X.K X.mg X.base CX k C m ps sp) (hr : Rm k X.A) (hx : ∀ σ, PassesAt CX X σ (E σ)) (he : PE X o ta) (ha : PA X (e :: es) t)
    (hst : starEach (e :: es) X.env = (false, eval e X.env) :: starEach es X.env := by rfl) (hpl : (backTo pos (starEach es X.env)).any (·.1) = false := by rfl)
    (ht : eval (.Call (.Attribute o m apos) (e :: es) [] pos) X.env = askM X o m pl apos pos (e :: es) := by rfl) :
    PE X (.Call (.Attribute o m apos) (e :: es) [] pos) (tMethS C m sp E ta t) := by
  obtain ⟨f, fd, F, c, hm, hb⟩ := M.ex
  constructor
  intro pins s σ H Q I h
  refine PySem.W.methodCall_KW (pl := pl) (thn (he.run pins s σ H _ I h) ?_) ht
  rintro u s1 ⟨x, H1, I1, rx, a, dx, fs, rfl, ea, l, q⟩
  obtain rfl : u = Value.ref a := rx
  refine getmeth_ok I1 ea c hm l ?_
  refine PySem.W.callWith_K (first := [.ref a]) (h₀ := X.base) I.ok.mod.kin hm.kp (thn (ha.run pos pins s1 σ H1 _ I1 q) ?_) hst hpl
  rintro us s2 ⟨vs, H2, I2, r, q2⟩
  have q3 : sp (.ref a :: (vs ++ [])) H2 Q (E σ) := q2
  rw [List.append_nil] at q3
  have r2 : Vals (V.ref a :: vs) (Value.ref a :: us) := .cons rfl r
  have b := hb s2 (.ref a :: us) I2.kIn (by rw [List.append_nil, ← r2.length]; exact F.cnt _ _ _ _ q3)
  rw [List.append_nil] at b
  exact ⟨I2.kIn, enterS (args := ⟨.ref a :: us, []⟩) F hr (hx σ) I2 b r2 q3⟩
theorem takes_no : Takes X (fun _ _ _ _ => False) := fun _ _ ⟨_, _, _, _, _, _, _, _, _, _, _, _, _, _, _, _, w⟩ => w.elim
theorem op_isT : OpR X (compareOp .Is) (fun x y H Q => ∃ b : Bool, y = .bl b ∧ (x = .non ∨ ∃ a, x = .bl a) ∧ Q (.bl (decide (x = .bl b))) H) := by
  intro pins s σ H x y v u Q I rx ry h
  obtain ⟨b, rfl, hx, q⟩ := h
  cases (show u = Value.bool b from ry)
  rcases hx with rfl | ⟨a, rfl⟩
  · cases (show v = Value.none from rx)
    exact wpAny_is_other rfl (fun z => by cases z) ⟨.bl false, H, I, rfl, by simpa using q⟩
  · cases (show v = Value.bool a from rx)
    by_cases e : a = b
    · subst e
      exact wpAny_is_self rfl ⟨.bl true, H, I, rfl, by simpa using q⟩
    · exact wpAny_is_other rfl (fun z => e (Value.bool.inj z)) ⟨.bl false, H, I, rfl, by simpa [e] using q⟩
end
end VB
/-! methods with keywords within a try, makings within a try, makings with keywords -/
namespace VB
open PySem PySem.Spec PyProof.Rows L2
def tMethKS (C : Addr) (m : Str) (sp : Sp) (n : Nat) (gV : List V → List V → List V) (E : L2.St → XK) (ta : TE) (tk : TA) : TE := fun σ H Q => ta σ H fun x H1 => ∃ a dx fs, x = .ref a ∧ H1 a = some (.ins C dx fs) ∧ fs.lookup m = none ∧
  tk σ H1 fun zs H2 => zs.length = n ∧ sp (gV [.ref a] zs) H2 Q (E σ)
def tMakeS (C : Addr) (sp : Sp) (E : L2.St → XK) (t : TA) : TE := fun σ H Q => tMake C sp [] (E σ) t σ H Q
section
variable {X : Cx} {CX : CXT} {k n : Nat} {ps ks : List Str} {sp : Sp} {x m : Str} {p pos apos : Pos} {C : Addr} {e o : Expr} {es : List Expr} {kws : List Keyword} {t tk : TA} {ta : TE}
  {g : List Value → List Value → List Value} {gV : List V → List V → List V}
abbrev askMK (X : Cx) (o : Expr) (m : Str) (pl : Sem Bool) (apos pos : Pos) (kws : List Keyword) : Sem Value := do let u ← eval o X.env; standAt apos.atName; let (g, as) ← holding [u] (getMethod u m pl); callWith pos g as (backTo pos (starEach [] X.env)) (backToKw pos (keywordEach kws X.env))
theorem pe_calMkS {E : L2.St → XK} {pl : Sem Bool} (M : CalMK X.prog X.w X.K X.mg X.base CX k C m ps 1 ks g gV sp) (hr : Rm k X.A) (hx : ∀ σ, PassesAt CX X σ (E σ)) (he : PE X o ta) (hkw : PK X kws tk)
    (hall : (backToKw pos (keywordEach kws X.env)).all (·.1.isSome) = true := by rfl)
    (hks : (backToKw pos (keywordEach kws X.env)).filterMap (·.1) = ks := by rfl)
    (hpl : ((backTo pos (starEach [] X.env)).any (·.1) || (backToKw pos (keywordEach kws X.env)).any (·.1.isNone)) = false := by rfl)
    (ht : eval (.Call (.Attribute o m apos) [] kws pos) X.env = askMK X o m pl apos pos kws := by rfl) :
    PE X (.Call (.Attribute o m apos) [] kws pos) (tMethKS C m sp ks.length gV E ta tk) := by
  obtain ⟨f, fd, F, c, hm, hb⟩ := M.ex
  constructor
  intro pins s σ H Q I h
  refine PySem.W.methodCall_KW (pl := pl) (thn (he.run pins s σ H _ I h) ?_) ht
  rintro u s1 ⟨x, H1, I1, rx, a, dx, fs, rfl, ea, l, q⟩
  obtain rfl : u = Value.ref a := rx
  refine getmeth_ok I1 ea c hm l ?_
  refine PySem.W.callWith_KW0 (first := [.ref a]) (h₀ := X.base) I.ok.mod.kin hm.kp hall (thn (hkw.run pos pins s1 σ H1 _ I1 q) ?_) hpl
  rintro ws s2 ⟨zs, H2, I2, rz, l2, q2⟩
  refine ⟨I2.kIn, ?_⟩
  rw [hks]
  have r1 : Vals [V.ref a] [Value.ref a] := .cons rfl .nil
  exact enterS (args := ⟨[.ref a], ks.zip ws⟩) F hr (hx σ) I2 (hb.to s2 [.ref a] ws I2.kIn rfl (rz.length.symm.trans l2)) (hb.rel r1 rz) q2
theorem run_makS {E : XK} {f : Addr} {fd : FuncData} {pins : List (Addr × Obj)} {σ : L2.St} {H : Hp} {s : Shared} {Q : VK} {us : List Value} {kw : List (Str × Value)} {zs : List Value} {vs : List V} (M : Mk X.K C f) (F : Fg X.prog X.w X.K X.mg X.base CX k f fd ps sp) (hr : Rm (k + 1) X.A)
    (hx : PassesAt CX X σ E) (I : Inv X pins σ H s)
    (h : ∀ x dx, H x = none → H dx = none → dx ≠ x → sp (.ref x :: vs) (upd (upd H dx (.own x)) x (.ins C dx [])) (fun v H2 => v = .non ∧ Q (.ref x) H2) E)
    (hb : ∀ (s2 : Shared), X.K.In s2.heap → BindsTo s2 fd ⟨.ref (s.heap.objs.size + 1) :: us, kw⟩ (ps.zip (.ref (s.heap.objs.size + 1) :: zs))) (r : Vals vs zs) :
    wpAny (model X.prog X.w) X.A (call (.ref C) us kw) (EP X pins σ Q) X.xe s := by
  have hq := h (s.heap.objs.size + 1) s.heap.objs.size (I.hok.fresh (Nat.le_succ _)) (I.hok.fresh (Nat.le_refl _)) (Nat.ne_of_lt (Nat.lt_succ_self _))
  have I2 := Inv.made (C := C) I
  refine wpAny_call (make_map (f := f) I.kIn M.makes M.init (beq_iff_eq.mp M.fn) (codeAny_mono (F.go _ X.stack _ _ ⟨.ref (s.heap.objs.size + 1) :: us, kw⟩ (.ref (s.heap.objs.size + 1) :: zs) _ _ E (hr.make C us kw)
    (I2.env0.make C us kw) (hb _ I2.kIn) (show Vals (V.ref (s.heap.objs.size + 1) :: vs) (Value.ref (s.heap.objs.size + 1) :: zs) from .cons rfl r) hq) ?_))
  intro r' s' hq'
  cases r' with
  | error e => exact hx pins _ _ e s' I2 hq'
  | ok fl =>
    cases fl with
    | ret u =>
      obtain ⟨v, H', I3, rv, ev, q3⟩ := I2.after hq'
      subst ev
      exact ⟨rv, ⟨V.ref (s.heap.objs.size + 1), H', I3, rfl, q3⟩⟩
    | next => exact False.elim hq'
    | brk => exact False.elim hq'
    | cont => exact False.elim hq'
theorem pe_makS {E : L2.St → XK} (M : Mak X.prog X.w X.K X.mg X.base CX k x C ps sp) (hr : Rm (k + 1) X.A) (hx : ∀ σ, PassesAt CX X σ (E σ)) (ha : PA X (e :: es) t) (hg : Gl X x := by rfl) (hdb : (x == ("__debug__" : Str)) = false := by decide)
    (he : starEach (e :: es) X.env = (false, eval e X.env) :: starEach es X.env := by rfl) (hpl : (backTo pos (starEach es X.env)).any (·.1) = false := by rfl) :
    PE X (.Call (.Name x p) (e :: es) [] pos) (tMakeS C sp E t) := by
  obtain ⟨f, fd, F, mk, hm, hb⟩ := M.ex
  constructor
  intro pins s σ H Q I h
  refine wpAny_Call_Name_kw (ld_glob I hg hm ?_ hdb)
  refine PySem.W.callWith_K (h₀ := X.base) I.ok.mod.kin mk.kp (thn (ha.run pos pins s σ H _ I h) ?_) he hpl
  rintro us s1 ⟨vs, H1, I1, r, q⟩
  refine ⟨I1.kIn, run_makS (vs := vs) (zs := us) mk F hr (hx σ) I1 (fun x dx a b c => ?_) (fun s2 k2 => ?_) r⟩
  · have z := q x dx a b c
    rw [List.append_nil] at z
    exact z
  · have q0 := q (s1.heap.objs.size + 1) s1.heap.objs.size (I1.hok.fresh (Nat.le_succ _)) (I1.hok.fresh (Nat.le_refl _)) (Nat.ne_of_lt (Nat.lt_succ_self _))
    have l := F.cnt _ _ _ _ q0
    have b := hb s2 (.ref (s1.heap.objs.size + 1) :: us) k2 (by rw [List.append_nil, ← l, List.append_nil, List.length_cons, List.length_cons, r.length])
    rw [List.append_nil] at b
    exact b
def tMakK (C : Addr) (sp : Sp) (n : Nat) (gV : List V → List V → List V) (E : XK) (tk : TA) : TE := fun σ H Q => tk σ H fun zs H2 => zs.length = n ∧ ∀ x dx, H2 x = none → H2 dx = none → dx ≠ x → sp (gV [.ref x] zs) (upd (upd H2 dx (.own x)) x (.ins C dx [])) (fun v H3 => v = .non ∧ Q (.ref x) H3) E
/-- C(k = v, ..) -/
theorem pe_makK {E : XK} (M : MakK X.prog X.w X.K X.mg X.base CX k x C ps 1 ks g gV sp) (hr : Rm (k + 1) X.A) (hx : Passes CX X E) (hkw : PK X kws tk) (hg : Gl X x := by rfl)
    (hall : (backToKw pos (keywordEach kws X.env)).all (·.1.isSome) = true := by rfl) (hks : (backToKw pos (keywordEach kws X.env)).filterMap (·.1) = ks := by rfl) (hdb : (x == ("__debug__" : Str)) = false := by decide)
    (hpl : ((backTo pos (starEach [] X.env)).any (·.1) || (backToKw pos (keywordEach kws X.env)).any (·.1.isNone)) = false := by rfl) :
    PE X (.Call (.Name x p) [] kws pos) (tMakK C sp ks.length gV E tk) := by
  obtain ⟨f, fd, F, mk, hm, hb⟩ := M.ex
  constructor
  intro pins s σ H Q I h
  refine wpAny_Call_Name_kw (ld_glob I hg hm ?_ hdb)
  refine PySem.W.callWith_KW0 (h₀ := X.base) I.ok.mod.kin mk.kp hall (thn (hkw.run pos pins s σ H _ I h) ?_) hpl
  rintro ws s2 ⟨zs, H2, I2, rz, l2, q2⟩
  refine ⟨I2.kIn, ?_⟩
  rw [hks]
  have hq := q2 (s2.heap.objs.size + 1) s2.heap.objs.size (I2.hok.fresh (Nat.le_succ _)) (I2.hok.fresh (Nat.le_refl _)) (Nat.ne_of_lt (Nat.lt_succ_self _))
  have I3 := Inv.made (C := C) I2
  have r1 : Vals [V.ref (s2.heap.objs.size + 1)] [Value.ref (s2.heap.objs.size + 1)] := .cons rfl .nil
  have r2 := hb.rel r1 rz
  refine wpAny_call (make_map (f := f) I2.kIn mk.makes mk.init (beq_iff_eq.mp mk.fn) (codeAny_mono (F.go _ X.stack _ _ ⟨[Value.ref (s2.heap.objs.size + 1)], ks.zip ws⟩ (g [Value.ref (s2.heap.objs.size + 1)] ws) _ _ E (hr.make C [] (ks.zip ws))
    (I3.env0.make C [] (ks.zip ws)) (hb.to _ [Value.ref (s2.heap.objs.size + 1)] ws I3.kIn rfl (rz.length.symm.trans l2)) r2 hq) fun r s' hq' => ?_))
  cases r with
  | error e => exact hx pins σ _ _ e s' I3 hq'
  | ok fl =>
    cases fl with
    | ret u =>
      obtain ⟨v, H', I4, rv, ev, q3⟩ := I3.after hq'
      subst ev
      exact ⟨rv, ⟨V.ref (s2.heap.objs.size + 1), H', I4, rfl, q3⟩⟩
    | next => exact False.elim hq'
    | brk => exact False.elim hq'
    | cont => exact False.elim hq'
end
end VB
/-! a list, longer by a tuple's items -/
namespace VB
open PySem PySem.Spec PyProof.Rows L2
theorem list_extend_tup (l : Addr) (items : Array Value) (n : Nat) (b : Addr) (items2 : Array Value) (n2 : Nat) (dd : Option Addr) (sl : Array (Option Value)) (hs0 : ¬(!items.isEmpty && Builtin.List.listTooLong (items.size + items2.size)) = true) (hs1 : items.size ≤ sizeLine) (hs2 : items.size + items2.size ≤ sizeLine + 1) :
    Meets (Builtin.«list.extend» ⟨[.ref l, .ref b], []⟩) (fun _ R s => s.heap.get? l = some { cls := .type "list", dict := none, data := .seq items n, slots := #[] } ∧ s.heap.get? b = some { cls := .type "tuple", dict := dd, data := .seq items2 n2, slots := sl } ∧ R (.ok (.ret Value.none)) { s with heap := s.heap.update l (Obj.mapSeq fun x => x ++ items2), toks := s.toks }) :=
  .of_wp fun prog w A R s h => by
    obtain ⟨hp, g, d, tk, os⟩ := s; obtain ⟨hl, hb, h⟩ := h; have f1 := AutoSeq1.idx_int; have f2 := AutoSeq1.sub_tuple_tuple; have f3 := AutoSeq1.sub_list_list; have f4 := AutoSeq1.sub_tuple_list; have f5 := AutoSeq1.sub_list_tuple;
    have hz' : (items ++ items2).size ≤ sizeLine + 1 := by rw [Array.size_append]; exact hs2
    wp_walk using (wpAny_updateSeq hl rfl (hz := hs1) (_hz' := hz')), wpAny_loadPart' hl, wpAny_loadPart' hb; exact ⟨_, rfl, h⟩
def rExtT (K : PySem.W.Frag) : V → List V → Hp → VK → Prop := fun x vs H Q => ∃ l b xs zs, x = .ref l ∧ vs = [.ref b] ∧ H l = some (.lst xs) ∧ SqT K H b zs ∧ xs.length + zs.length ≤ sizeLine ∧ Q .non (upd H l (.lst (xs ++ zs)))
def rExtU (K : PySem.W.Frag) : V → List V → Hp → VK → Prop := fun x vs H Q => rExtend x vs H Q ∨ rExtT K x vs H Q
section
variable {X : Cx} {K : PySem.W.Frag}
theorem mt_extU (hK : X.K = K := by rfl) : MtM X "list.extend" (rExtU K) := by
  subst hK
  intro pins s σ H x vs v us Q I rx rv h
  rcases h with h | h
  · exact mt_extend pins s σ H x vs v us Q I rx rv h
  obtain ⟨l, b, xs, zs, rfl, rfl, hH, hB, hz, q⟩ := h
  cases rx
  obtain ⟨u, rfl, ru⟩ := rv.one
  cases ru
  obtain ⟨z, its, n, r, hl, e⟩ := I.lstM hH
  obtain ⟨its2, r2, ⟨⟨cls, dd, data, sl⟩, e2, hc, n2, hd⟩, hl2⟩ := I.tuple hB
  simp only at hc hd
  subst hc hd
  have l1 := r.length
  have l2 := r2.length
  have hsz : its.toArray.size + its2.toArray.size ≤ sizeLine := by rw [List.size_toArray, List.size_toArray]; omega
  have hlong : ¬ (!its.toArray.isEmpty && Builtin.List.listTooLong (its.toArray.size + its2.toArray.size)) = true := by
    rw [notLongL hsz, Bool.and_false]
    exact Bool.false_ne_true
  refine call_meets F.slot_list_extend ⟨_, e, rfl⟩ F.entry_list_extend (F.args_list_extend_2 _ _)
    (list_extend_tup l its.toArray n b its2.toArray n2 dd sl hlong (by rw [List.size_toArray]; omega) (by omega)) ⟨e, e2, ?_⟩
  refine ⟨.non, _, I.lset (its' := its ++ its2) hH e (by simp) (r.append r2) ?_, rfl, q⟩
  rw [List.length_append]
  omega
theorem u_max1 (hc : X.calm = true) (hK : X.K = K := by rfl) : CallR X (.builtin "max") (rMax K) := by
  subst hK
  exact cr_max hc
end
/-- what isinstance asks of instances of the class at C -/
structure InsC (K : PySem.W.Frag) (C : Addr) : Prop where
  ha : PySem.W.findIn K (.ref C) "__class__" = some (some (.builtin "object.__class__"))
  hn : PySem.W.specialIn K (.builtin "object.__class__") "__get__" = some (some (.builtin "getset_descriptor.__get__"))
  htk : PySem.W.takesIn K (.builtin "object.__class__") = some true
  hm : PySem.W.mroIn K C (.type "object") = some true
  kit : PySem.W.kitOne K (.ref C) (.ref C) = some true
def insB (K : PySem.W.Frag) (C : Addr) : Bool := decide (PySem.W.findIn K (.ref C) "__class__" = some (some (.builtin "object.__class__"))) && (decide (PySem.W.specialIn K (.builtin "object.__class__") "__get__" = some (some (.builtin "getset_descriptor.__get__"))) && (decide (PySem.W.takesIn K (.builtin "object.__class__") = some true) &&
  (decide (PySem.W.mroIn K C (.type "object") = some true) && decide (PySem.W.kitOne K (.ref C) (.ref C) = some true))))
theorem insB_ok {K : PySem.W.Frag} {C : Addr} (h : insB K C = true) : InsC K C := by
  unfold insB at h
  obtain ⟨h1, h⟩ := Bool.and_eq_true_iff.mp h
  obtain ⟨h2, h⟩ := Bool.and_eq_true_iff.mp h
  obtain ⟨h3, h⟩ := Bool.and_eq_true_iff.mp h
  obtain ⟨h4, h5⟩ := Bool.and_eq_true_iff.mp h
  exact ⟨of_decide_eq_true h1, of_decide_eq_true h2, of_decide_eq_true h3, of_decide_eq_true h4, of_decide_eq_true h5⟩
end VB
/-! error classes that carry one value, from what is looked at -/
namespace VB
open PySem PySem.Spec PyProof.Rows L2
def oexB (K : PySem.W.Frag) (C : Addr) : Bool := match K.lookup C with
  | some ⟨.type "type", _, .cls cd, sl⟩ => (match cd.mro, sl.toList with
    | .ref C' :: bm, [_, _, _, _, some (.builtin n), _] => decide (C' = C) && (decide (n = "ValueError.__new__") && (!cd.hasDel && (cd.hasDict && PySem.HandSPX.refsVE bm)))
    | _, _ => false)
  | _ => false
theorem oexB_cls {K : PySem.W.Frag} {C : Addr} (q : oexB K C = true) : ∃ nm q N bs bm sn sub ab col dd k0 k1 k2 k3 k5, K.lookup C = some (excClassObj nm q C N bs bm true sn sub ab col dd k0 k1 k2 k3 k5 "ValueError.__new__") ∧ PySem.HandSPX.refsVE bm = true := by
  unfold oexB at q
  split at q
  · rename_i dd cd sl ho
    split at q
    · rename_i C' bm k0 k1 k2 k3 n k5 hm hs
      simp only [Bool.and_eq_true, decide_eq_true_eq, Bool.not_eq_true'] at q
      obtain ⟨rfl, rfl, hdel, hdic, ht⟩ := q
      obtain ⟨nm, bs, mro, ns, qn, hd, sn, sub, ab, col, del⟩ := cd
      dsimp only at hm hdel hdic
      subst hm hdel hdic
      have hsl : sl = #[k0, k1, k2, k3, some (.builtin "ValueError.__new__"), k5] := by
        obtain ⟨l⟩ := sl
        simp only at hs
        rw [hs]
      subst hsl
      exact ⟨nm, qn, ns, bs, bm, sn, sub, ab, col, dd, k0, k1, k2, k3, k5, ho, ht⟩
    · cases q
  · cases q
def errB (K : PySem.W.Frag) (x g : Str) : Bool := oexB K (He.ga K x) && (decide (PySem.W.findIn K (.ref (He.ga K x)) "__setattr__" = some (some (.builtin "object.__setattr__"))) && (decide (PySem.W.subIn K (.ref (He.ga K x)) (.type "BaseException") = some true) && (decide (PySem.W.typeIn K (.ref (He.ga K x)) = some (.type "type")) && (PySem.W.keepIn K (.ref (He.ga K x)) &&
  (decide (PySem.W.findIn K (.ref (He.ga K x)) "__init__" = some (some (.ref (He.ma K (He.ga K x) "__init__")))) && (decide (PySem.W.typeIn K (.ref (He.ma K (He.ga K x) "__init__")) = some (.type "function")) && (decide (PySem.W.findIn K (.ref (He.ga K x)) g = some none) && (xfB K (He.ga K x) && decide (PySem.W.exmOne K (.ref (He.ga K x)) (.ref (He.ga K x)) = some true)))))))))
theorem errB_ok {K : PySem.W.Frag} {mg : Str → Option Value} {x g : Str} (h : errB K x g = true) (gC : mg x = some (.ref (He.ga K x))) : ErrC K mg x g (He.ga K x) (He.ma K (He.ga K x) "__init__") ∧ PySem.W.exmOne K (.ref (He.ga K x)) (.ref (He.ga K x)) = some true := by
  unfold errB at h
  obtain ⟨h1, h⟩ := Bool.and_eq_true_iff.mp h
  obtain ⟨h2, h⟩ := Bool.and_eq_true_iff.mp h
  obtain ⟨h3, h⟩ := Bool.and_eq_true_iff.mp h
  obtain ⟨h4, h⟩ := Bool.and_eq_true_iff.mp h
  obtain ⟨h5, h⟩ := Bool.and_eq_true_iff.mp h
  obtain ⟨h6, h⟩ := Bool.and_eq_true_iff.mp h
  obtain ⟨h7, h⟩ := Bool.and_eq_true_iff.mp h
  obtain ⟨h8, h⟩ := Bool.and_eq_true_iff.mp h
  obtain ⟨h9, h10⟩ := Bool.and_eq_true_iff.mp h
  exact ⟨⟨⟨oexB_cls h1, of_decide_eq_true h2, of_decide_eq_true h3, of_decide_eq_true h4, h5⟩, gC, of_decide_eq_true h6, of_decide_eq_true h7, of_decide_eq_true h8, xfB_ok h9⟩, of_decide_eq_true h10⟩
end VB
namespace K0
open PySem PySem.Spec PyProof.Rows L2 VB
def top (i : Nat) : Stmt := PySem.Challenge.pw_onewaybits_k00_errors.main.body.getD i (.Pass ⟨0, 0, 0, 0⟩)
def mtop (i j : Nat) : Stmt := match top i with | .ClassDef _ _ _ b _ _ _ _ _ _ _ => b.getD j (.Pass ⟨0, 0, 0, 0⟩) | _ => .Pass ⟨0, 0, 0, 0⟩
abbrev s__law_cell : Stmt := top 29
theorem sc__law_cell : FnScope ["_law_script", "_law_k"] ["_law_script", "_law_k"] (defScope s__law_cell) := ⟨rfl, rfl, rfl, by decide +kernel, rfl, by decide +kernel, by decide +kernel⟩
abbrev s__law_box : Stmt := top 30
theorem sc__law_box : FnScope ["_law_great"] ["_law_great"] (defScope s__law_box) := ⟨rfl, rfl, rfl, by decide +kernel, rfl, by decide +kernel, by decide +kernel⟩
abbrev s__law_take : Stmt := top 31
theorem sc__law_take : FnScope ["_law_box_here", "_law_many", "_law_digit", "_law_mixed"] ["_law_box_here", "_law_many"] (defScope s__law_take) := ⟨rfl, rfl, rfl, by decide +kernel, rfl, by decide +kernel, by decide +kernel⟩
abbrev s__law_by_place : Stmt := top 32
theorem sc__law_by_place : FnScope ["_law_thing_here", "_law_found"] ["_law_thing_here"] (defScope s__law_by_place) := ⟨rfl, rfl, rfl, by decide +kernel, rfl, by decide +kernel, by decide +kernel⟩
abbrev s__law_by_name : Stmt := top 33
theorem sc__law_by_name : FnScope ["_law_thing_here", "_law_found"] ["_law_thing_here"] (defScope s__law_by_name) := ⟨rfl, rfl, rfl, by decide +kernel, rfl, by decide +kernel, by decide +kernel⟩
abbrev s__law_sorts : Stmt := top 34
theorem sc__law_sorts : FnScope ["_law_e", "_law_found"] ["_law_e"] (defScope s__law_sorts) := ⟨rfl, rfl, rfl, by decide +kernel, rfl, by decide +kernel, by decide +kernel⟩
abbrev s__law_is : Stmt := top 35
theorem sc__law_is : FnScope ["_law_e", "_law_spot", "_law_sorts_here", "_law_k"] ["_law_e", "_law_spot"] (defScope s__law_is) := ⟨rfl, rfl, rfl, by decide +kernel, rfl, by decide +kernel, by decide +kernel⟩
abbrev s__law_kept : Stmt := top 36
theorem sc__law_kept : FnScope ["_law_e"] ["_law_e"] (defScope s__law_kept) := ⟨rfl, rfl, rfl, by decide +kernel, rfl, by decide +kernel, by decide +kernel⟩
abbrev s__law_thing : Stmt := top 37
theorem sc__law_thing : FnScope ["_law_box_here", "_law_menu"] ["_law_box_here"] (defScope s__law_thing) := ⟨rfl, rfl, rfl, by decide +kernel, rfl, by decide +kernel, by decide +kernel⟩
abbrev s__law_all_right : Stmt := top 38
theorem sc__law_all_right : FnScope ["_law_box_here", "_law_first", "_law_last", "_law_lists", "_law_turn", "_law_spot", "_law_e"] ["_law_box_here"] (defScope s__law_all_right) := ⟨rfl, rfl, rfl, by decide +kernel, rfl, by decide +kernel, by decide +kernel⟩
abbrev s__law_raised : Stmt := top 39
theorem sc__law_raised : FnScope ["_law_way", "_law_thing_here"] ["_law_way", "_law_thing_here"] (defScope s__law_raised) := ⟨rfl, rfl, rfl, by decide +kernel, rfl, by decide +kernel, by decide +kernel⟩
abbrev s__law_caught : Stmt := top 40
theorem sc__law_caught : FnScope ["_law_box_here", "_law_thing_here", "_law_way", "_law_met", "_law_e"] ["_law_box_here", "_law_thing_here"] (defScope s__law_caught) := ⟨rfl, rfl, rfl, by decide +kernel, rfl, by decide +kernel, by decide +kernel⟩
abbrev s__law_very_right : Stmt := top 41
theorem sc__law_very_right : FnScope ["_law_grown", "_law_kept_here", "_law_inner", "_law_outer", "_law_e", "_law_thing_here"] [] (defScope s__law_very_right) := ⟨rfl, rfl, rfl, by decide +kernel, rfl, by decide +kernel, by decide +kernel⟩
abbrev s_law : Stmt := top 42
theorem sc_law : FnScope ["_law_script", "_law_bare", "_law_box_here", "_law_k"] ["_law_script"] (defScope s_law) := ⟨rfl, rfl, rfl, by decide +kernel, rfl, by decide +kernel, by decide +kernel⟩
abbrev FnP (K : PySem.W.Frag) (x : Str) (st : Stmt) (f : Addr) (fd : FuncData) : Prop := FunD K x x (defArgs st) (defBody st) (defScope st) [] [] f fd
abbrev FnM (K : PySem.W.Frag) (m q : Str) (st : Stmt) (f : Addr) (fd : FuncData) : Prop := FunD K m q (defArgs st) (defBody st) (defScope st) [] [] f fd
structure Txt (K : PySem.W.Frag) (mg : Str → Option Value) : Prop where
  f_ValueError : mg "ValueError" = none
  f_abs : mg "abs" = none
  f_dict : mg "dict" = none
  f_int : mg "int" = none
  f_isinstance : mg "isinstance" = none
  f_len : mg "len" = none
  f_max : mg "max" = none
  f_min : mg "min" = none
  f_range : mg "range" = none
  f_repr : mg "repr" = none
  f_sum : mg "sum" = none
  g_FlashError : mg "FlashError" = some (.ref (He.ga K "FlashError"))
  g_InvalidBlock : mg "InvalidBlock" = some (.ref (He.ga K "InvalidBlock"))
  g_InvalidChip : mg "InvalidChip" = some (.ref (He.ga K "InvalidChip"))
  g_InvalidCount : mg "InvalidCount" = some (.ref (He.ga K "InvalidCount"))
  g_InvalidData : mg "InvalidData" = some (.ref (He.ga K "InvalidData"))
  g_InvalidDeed : mg "InvalidDeed" = some (.ref (He.ga K "InvalidDeed"))
  g_InvalidImage : mg "InvalidImage" = some (.ref (He.ga K "InvalidImage"))
  g_InvalidLine : mg "InvalidLine" = some (.ref (He.ga K "InvalidLine"))
  g_InvalidMask : mg "InvalidMask" = some (.ref (He.ga K "InvalidMask"))
  g_InvalidName : mg "InvalidName" = some (.ref (He.ga K "InvalidName"))
  g_InvalidNumber : mg "InvalidNumber" = some (.ref (He.ga K "InvalidNumber"))
  g_InvalidOctets : mg "InvalidOctets" = some (.ref (He.ga K "InvalidOctets"))
  g_InvalidOp : mg "InvalidOp" = some (.ref (He.ga K "InvalidOp"))
  g_InvalidPage : mg "InvalidPage" = some (.ref (He.ga K "InvalidPage"))
  g_InvalidPath : mg "InvalidPath" = some (.ref (He.ga K "InvalidPath"))
  g_InvalidPlans : mg "InvalidPlans" = some (.ref (He.ga K "InvalidPlans"))
  g_InvalidRecord : mg "InvalidRecord" = some (.ref (He.ga K "InvalidRecord"))
  g_InvalidRecords : mg "InvalidRecords" = some (.ref (He.ga K "InvalidRecords"))
  g_InvalidScript : mg "InvalidScript" = some (.ref (He.ga K "InvalidScript"))
  g_InvalidShape : mg "InvalidShape" = some (.ref (He.ga K "InvalidShape"))
  g_InvalidTree : mg "InvalidTree" = some (.ref (He.ga K "InvalidTree"))
  g_NoRoom : mg "NoRoom" = some (.ref (He.ga K "NoRoom"))
  g_NoThing : mg "NoThing" = some (.ref (He.ga K "NoThing"))
  g_NotReady : mg "NotReady" = some (.ref (He.ga K "NotReady"))
  g_NothingToUndo : mg "NothingToUndo" = some (.ref (He.ga K "NothingToUndo"))
  g_PowerCut : mg "PowerCut" = some (.ref (He.ga K "PowerCut"))
  g_TooMany : mg "TooMany" = some (.ref (He.ga K "TooMany"))
end K0
/-! repr of data, of truths, of ints, of None and of texts -/
namespace VB
open PySem PySem.Spec PyProof.Rows L2
section
variable {X : Cx}
theorem call_repr_non : CallR X (.builtin "repr") (fun xs H Q => xs = [.non] ∧ Q (.str "None") H) := by
  intro pins s σ H xs us Q I r h
  obtain ⟨rfl, q⟩ := h
  obtain ⟨u, rfl, ru⟩ := vals1 r
  cases (show u = Value.none from ru)
  exact PySem.P.repr_of_none ⟨.str _, H, I.tok _, ⟨_, rfl⟩, q⟩
theorem call_repr_str : CallR X (.builtin "repr") (fun xs H Q => ∃ x : Str, xs = [.str x] ∧ (reprText x).length ≤ sizeLine ∧ Q (.str (reprText x)) H) := by
  intro pins s σ H xs us Q I r h
  obtain ⟨x, rfl, hl, q⟩ := h
  obtain ⟨u, rfl, ru⟩ := vals1 r
  obtain ⟨t, rfl⟩ := (show ∃ t, u = Value.str x t from ru)
  exact PySem.P.repr_of_str ⟨.str _, H, I.tok _, ⟨_, rfl⟩, q⟩ hl
end
def rReprA (K : PySem.W.Frag) : List V → Hp → VK → Prop := fun xs H Q => rReprU K xs H Q ∨ ((xs = [.non] ∧ Q (.str "None") H) ∨ ∃ x : Str, xs = [.str x] ∧ (reprText x).length ≤ sizeLine ∧ Q (.str (reprText x)) H)
section
variable {X : Cx} {K : PySem.W.Frag} {H : Hp} {Q : VK}
theorem u_reprA {k : Nat} (hr : Rm k X.A) (hK : X.K = K := by rfl) : CallR X (.builtin "repr") (rReprA K) := by
  subst hK
  exact (u_reprU hr).or (call_repr_non.or call_repr_str)
end
end VB
/-! repr of an int of any size below the limit of digits, where nothing has set that limit -/
namespace VB
open PySem PySem.Spec PyProof.Rows L2
section
variable {prog : Program} {w : World} {A : Around} {E : Value → Shared → Prop} {s : Shared} {a : Int} {t : Tok}
theorem call_int_repr_big {Q : Value → Shared → Prop} (hn : s.heap.NoDigits) (ha : a.natAbs < 10 ^ 4300) (h : Q (.str (toString a) s.toks) { s with toks := s.toks + 1 }) :
    wpAny (model prog w) A (call (.builtin "int.__repr__") [.int a t]) Q E s := by
  refine wpAny_call_entry F.slot_int_repr (typeIs_int s a t) F.entry_int_repr ?_ (F.args_int_repr_1 _)
  unfold Builtin.«int.__repr__»
  show wpAny _ _ (do let r ← Builtin.overDigitLimit? a; _) _ _ s
  exact wpAny_bind (overDigitLimit_any hn (fun hlt => wpAny_bind (wpAny_mkStr (wpAny_pure ⟨_, rfl, h⟩) (int_text_fits10 hlt))) (fun hge => absurd hge (Nat.not_le.mpr ha)))
theorem repr_of_int_big {Q : Value → Shared → Prop} (hn : s.heap.NoDigits) (ha : a.natAbs < 10 ^ 4300) (h : Q (.str (toString a) s.toks) { s with toks := s.toks + 1 }) :
    wpAny (model prog w) A (call (.builtin "repr") [.int a t]) Q E s := by
  have hT := typeIs_int s a t
  have hv : [Value.int a t].any Value.onHeap = false := rfl
  refine Calls.call_function_entry F.kind_repr F.plain_repr F.entry_repr (F.args_repr1 _) ?_
  unfold Builtin.«repr»
  refine wpAny_bind (m := oneArg "repr" _) (wpAny_pure ?_)
  simp only [cRoomFor, hv, Bool.false_eq_true, if_false, pure_bind]
  refine wpAny_bind (wpAny_specialOf (name := Str.ofString "__repr__") hT F.slot_int_repr.lookup ?_)
  refine wpAny_bind (m := callSpecialIfBound? (.int a t) (Str.ofString "__repr__")) (wpAny_callSpecialIfBound?_slot (name := Str.ofString "__repr__") hT F.slot_int_repr (call_int_repr_big hn ha ?_))
  refine wpAny_bind (wpAny_isInstance (T := "str") (b := true) rfl isSubtype_str_str ?_)
  exact wpAny_pure ⟨_, rfl, h⟩
end
section
variable {X : Cx}
def rReprB : List V → Hp → VK → Prop := fun xs H Q => ∃ i, xs = [.int i] ∧ i.natAbs < 10 ^ 4300 ∧ Q (.str (toString i)) H
theorem call_repr_big (hd : X.base.NoDigits) : CallR X (.builtin "repr") rReprB := by
  intro pins s σ H xs us Q I r h
  obtain ⟨i, rfl, hz, q⟩ := h
  obtain ⟨u, rfl, t, rfl⟩ := vals1 r
  exact repr_of_int_big (hd.keeps I.bk) hz ⟨.str _, H, I.tok _, ⟨_, rfl⟩, q⟩
end
theorem first_callD {P : Program} {w : World} {K : PySem.W.Frag} {mg mb : Str → Option Value} {CX : CXT} {k : Nat}
    {fa a : Addr} {fd : FuncData} {x : Str} {sp : Sp} {s : Shared} {vs : List Value} {ns : List Int}
    (KX : K.In s.heap) (hns : s.heap.Ns mainGlobals mg) (hb : s.heap.Ns builtinsNs mb)
    (hbb : ∀ x : Str, x ≠ "__name__" → mb x = bootBuiltins x) (hlim : s.heap.NoLimit) (hdig : s.heap.NoDigits) (hg : s.gens = #[])
    (ha : s.heap.get? a = some { cls := .type "list", data := .seq vs.toArray }) (hi : IntsAre vs ns)
    (hl : ns.length ≤ sizeLine) (hr : Rm k callerA)
    (F : ∀ base : Heap, K.In base → base.Ns mainGlobals mg → base.NoDigits → Fg P w K mg base CX k fa fd [x] sp)
    (hbind : ∀ (s : Shared) (u : Value), BindsTo s fd ⟨[u], []⟩ [(x, u)])
    (hsp : ∀ H : Hp, Only H → SqL K H a (ns.map V.int) → sp [.ref a] H (fun v _ => v = .bl true) fun _ _ _ => False)
    (hCX : ∀ H e s', CX [] H s (fun _ _ _ => False) e s' → False) :
    codeAny (model P w) callerA (.call (.ref fa) ⟨[.ref a], []⟩)
      (fun r s' => r = .ok (.ret (.bool true)) ∧ OldK s.heap s'.heap ∧ s'.os = s.os ∧ AllBare s'.gens) s := by
  -- what is tracked at first: the script at most
  let o : Obj := { cls := .type "list", data := .seq vs.toArray }
  have main : ∀ H : Hp, (∀ b, H b = none ∨ (b = a ∧ H b = some (.frz o (.lst (ns.map V.int))) ∧ K.lookup a = none)) →
      SqL K H a (ns.map V.int) → HOk P w H s.heap → codeAny (model P w) callerA (.call (.ref fa) ⟨[.ref a], []⟩)
      (fun r s' => r = .ok (.ret (.bool true)) ∧ OldK s.heap s'.heap ∧ s'.os = s.os ∧ AllBare s'.gens) s := by
    intro H hH hS hok
    have dictFree : ∀ {b : Addr} {ob : Obj} {es : Array DictEntry} {ep : Nat}, s.heap.get? b = some ob →
        ob.data = .dict es ep → H b = none := by
      intro b ob es ep e d
      rcases hH b with q | ⟨rfl, q, _⟩
      · exact q
      · rw [ha] at e
        cases e
        exact nomatch d
    have nsB : ∀ {b : Addr} {m : Str → Option Value}, s.heap.Ns b m → (hidT s.heap H).Ns b m := by
      rintro b m ⟨ob, es, ep, e, d, r⟩
      exact ⟨ob, es, ep, hidT_get e (dictFree e d), d, r⟩
    have kB : K.In (hidT s.heap H) := by
      intro b ob e
      refine hidT_get (KX b ob e) ?_
      rcases hH b with q | ⟨rfl, _, q⟩
      · exact q
      · rw [e] at q
        cases q
    have lim' : (hidT s.heap H).NoLimit := by
      obtain ⟨mc, h1, h2⟩ := hlim
      exact ⟨mc, nsB h1, h2⟩
    have dig' : (hidT s.heap H).NoDigits := by
      obtain ⟨mc, h1, h2⟩ := hdig
      exact ⟨mc, nsB h1, h2⟩
    have md : Mod K mg (hidT s.heap H) := ⟨kB, nsB hns, ⟨mb, nsB hb, hbb⟩, lim'⟩
    have nob : ∀ b ∈ frs ([] : List Env), H b = none := fun b hb => by cases hb
    have e0 : Env0 P w K mg (hidT s.heap H) callerA [] s H :=
      ⟨rfl, md, fun b ob e => of_hidT e, Nat.le_of_eq (hidT_size _ _), trivial, nob, hok, .of_eq hg⟩
    have oH : Only H := by
      intro b
      rcases hH b with q | ⟨_, q, _⟩
      · exact .inl q
      · exact .inr ⟨_, _, q⟩
    have run := (F _ kB (nsB hns) dig').go callerA [] s H ⟨[.ref a], []⟩ [.ref a] [.ref a] _ _ hr e0
      (hbind s (.ref a)) (.cons rfl .nil) (hsp H oH hS)
    refine codeAny_mono run ?_
    intro r s' h
    match r, h with
    | .error e, h => exact (hCX H e s' h).elim
    | .ok .next, h => exact False.elim h
    | .ok .brk, h => exact False.elim h
    | .ok .cont, h => exact False.elim h
    | .ok (.ret u), h =>
      obtain ⟨v, H', os, bare, un, hok', rv, q⟩ := h
      have q : v = .bl true := q
      subst q
      have ru : u = Value.bool true := rv
      subst ru
      refine ⟨rfl, OldK.of_keep ?_, os, bare⟩
      intro b ob e
      rcases hH b with q | ⟨_, q, _⟩
      · exact un.keep b ob e q (fun z => by cases z) (fun z => by cases z)
      · obtain ⟨e1, _⟩ := hok b _ q
        obtain ⟨e2, _⟩ := hok' b _ (un.frzs b o _ q)
        rw [e] at e1
        cases e1
        exact e2
  have rv := vals_ints hi
  cases hk : K.lookup a with
  | some ob =>
    have e := KX a ob hk
    rw [ha] at e
    cases e
    refine main (fun _ => none) (fun b => .inl rfl) (.inr ⟨_, vs.toArray, _, hk, rfl, rfl, rfl, ?_, by simpa using rv⟩) (fun b u z => by cases z)
    rw [List.size_toArray, hi.length]
    exact hl
  | none =>
    let H1 : Hp := fun b => if b = a then some (.frz o (.lst (ns.map V.int))) else none
    have at1 : H1 a = some (.frz o (.lst (ns.map V.int))) := if_pos rfl
    refine main H1 ?_ (.inl (.inr ⟨o, at1⟩)) ?_
    · intro b
      by_cases hb : b = a
      · subst hb
        exact .inr ⟨rfl, at1, hk⟩
      · exact .inl (if_neg hb)
    · intro b u z
      by_cases hb : b = a
      · subst hb
        rw [at1] at z
        cases z
        exact ⟨ha, by rw [List.length_map]; exact hl, vs, _, rv, ha⟩
      · have z' : H1 b = none := if_neg hb
        rw [z'] at z
        cases z

/-- law_walk, the heap's digits let be -/
theorem law_walkD {l : PySem.W.OpenLaw} {n k : Nat} {q : Program} {loose : List Str} {XP : (Str → Option Value) → Heap → Prop}
    {YP : World → Heap → Prop} {d : DefRec} {CX : CXT} {x : Str}
    (hn : l.most = some n) (hn2 : n ≤ sizeLine) (hdf : d.params.defaults = []) (hr : Rm k callerA)
    (F : ∀ (w : World) (mg : Str → Option Value) (fa : Addr) (h : Heap), YP w h → h.Ns mainGlobals mg → mg d.name = some (.ref fa) → h.NoDigits →
      ∃ (K : PySem.W.Frag) (fd : FuncData) (sp : Sp), K.In h ∧ (∀ (s : Shared) (u : Value), BindsTo s fd ⟨[u], []⟩ [(x, u)]) ∧
        (∀ (H : Hp) (a : Addr) (ns : List Int), ns.length ≤ n → Only H → SqL K H a (ns.map V.int) →
          sp [.ref a] H (fun v _ => v = .bl true) fun _ _ _ => False) ∧
        ∀ base : Heap, K.In base → base.Ns mainGlobals mg → base.NoDigits → Fg l.prog w K mg base CX k fa fd [x] sp)
    (hCX : ∀ (H : Hp) (s : Shared) (e : Value) (s' : Shared), CX [] H s (fun _ _ _ => False) e s' → False) :
    PySem.W.WalkO q loose XP YP l.row.toRowW d [] (fun f vs => PySem.call f vs) := by
  refine Att.attach_call hn hdf ?_
  intro w s₀ s₁ mg mb fa o pm cd doc a vs ns G Y ho hd hcd hmg hobj hints hlen hg
  obtain ⟨K, fd, sp, KX, hb, hsp, hF⟩ := F w mg fa _ Y G.T.g hmg G.T.nodigits
  exact first_callD KX G.T.g G.T.b G.T.builtins G.T.nolimit G.T.nodigits hg hobj hints (Nat.le_trans hlen hn2) hr hF hb
    (fun H hO hS => hsp H a ns hlen hO hS) (fun H e s' => hCX H s₁ e s')
end VB
/-! repr of a list of flat values, ints of any size below the limit of digits among them -/
namespace VB
open PySem PySem.Spec PyProof.Rows L2
/-- what a flat value is shown as -/
inductive Tx : V → Str → Prop
  | non : Tx .non "None"
  | bl (b : Bool) : Tx (.bl b) (if b then "True" else "False")
  | int (i : Int) (h : i.natAbs < 10 ^ 4300) : Tx (.int i) (toString i)
  | str (x : Str) (h : (reprText x).length ≤ sizeLine) : Tx (.str x) (reprText x)
section
variable {prog : Program} {w : World} {A : Around} {E : Value → Shared → Prop} {s : Shared} {a : Int} {t : Tok}
theorem pyReprObj_big {Q : Value → Shared → Prop} (hn : s.heap.NoDigits) (ha : a.natAbs < 10 ^ 4300) (h : Q (.str (toString a) s.toks) { s with toks := s.toks + 1 }) :
    wpAny (model prog w) A (pyReprObj (.int a t)) Q E s := by
  have hT := typeIs_int s a t
  have hv : [Value.int a t].any Value.onHeap = false := rfl
  unfold pyReprObj
  simp only [cRoomFor, hv, Bool.false_eq_true, if_false, pure_bind]
  refine wpAny_bind (wpAny_specialOf (name := Str.ofString "__repr__") hT F.slot_int_repr.lookup ?_)
  refine wpAny_bind (m := callSpecialIfBound? (.int a t) (Str.ofString "__repr__")) (wpAny_callSpecialIfBound?_slot (name := Str.ofString "__repr__") hT F.slot_int_repr (call_int_repr_big hn ha ?_))
  refine wpAny_bind (wpAny_isInstance (T := "str") (b := true) rfl isSubtype_str_str ?_)
  exact wpAny_pure h
theorem reprK_tx {h₀ : Heap} {y : V} {u : Value} {x : Str} (hd : h₀.NoDigits) (r : RelV y u) (e : Tx y x) : ReprK prog w [] h₀ 0 u x := by
  cases e with
  | non => cases r; exact .of_is ReprIs.none _ _ _
  | bl b => cases r; exact .of_is (ReprIs.bool b) _ _ _
  | str z hz =>
    obtain ⟨k, rfl⟩ := r
    exact .of_is (ReprIs.str z k hz) _ _ _
  | int i hi =>
    obtain ⟨k, rfl⟩ := r
    intro base hb A g E s Q hg hcl hu hk hQ
    rw [pyReprUnder_leaf (v := .int i k) (by omega) (fun _ z => nomatch z)]
    unfold pyRepr
    exact wpAny_bind (pyReprObj_big (hd.keeps hk) hi (wpAny_pure (hQ s.heap _ fun _ _ z => z)))
end
section
variable {X : Cx} {k : Nat}
/-- repr(l), l a list of flat values, not empty -/
def rReprL (K : PySem.W.Frag) : List V → Hp → VK → Prop := fun xs H Q => ∃ (a : Addr) (ys : List V) (ts : List Str), xs = [.ref a] ∧ SqL K H a ys ∧ ys ≠ [] ∧ Paired Tx ys ts ∧ (listText ts).length ≤ sizeLine ∧ Q (.str (listText ts)) H
theorem paired_at {α β : Type} {R : α → β → Prop} : ∀ {xs : List α} {ys : List β}, Paired R xs ys → ∀ {i : Nat} {x : α}, xs[i]? = some x → ∃ y, ys[i]? = some y ∧ R x y
  | _, _, .nil, _, _, h => by cases h
  | _, _, .cons r t, 0, _, h => by cases h; exact ⟨_, rfl, r⟩
  | _, _, .cons r t, i + 1, _, h => paired_at t (i := i) h
theorem paired_len {α β : Type} {R : α → β → Prop} : ∀ {xs : List α} {ys : List β}, Paired R xs ys → xs.length = ys.length
  | _, _, .nil => rfl
  | _, _, .cons _ t => congrArg (· + 1) (paired_len t)
theorem call_reprL (hr : Rm k X.A) (hd : X.base.NoDigits) : CallR X (.builtin "repr") (rReprL X.K) := by
  intro pins s σ H xs us Q I r h
  obtain ⟨a, ys, ts, rfl, hs, ne, pt, hz, q⟩ := h
  obtain ⟨u, rfl, ru⟩ := vals1 r
  cases (show u = Value.ref a from ru)
  obtain ⟨its, rv, ⟨⟨cls, dd, data, sl⟩, n, ho, hc, hdn, hdt⟩, hlen⟩ := I.list hs
  simp only at hc hdt
  subst hc hdt
  have hu := hr.rm.un
  have hD : s.heap.NoDigits := hd.keeps I.bk
  cases its with
  | nil => cases rv; exact absurd rfl ne
  | cons x l =>
    have hl := rv.length
    have hl2 := paired_len pt
    refine call_repr_slot (T := "list") (by omega) ⟨_, ho, rfl⟩ F.slot_list_repr.toG ?_
    refine call_list_reprK (as := []) (d := 0) ho rfl rfl (fun z => nomatch z) (by simpa using (hl2.symm.trans hl)) (fun i y hy => ?_) (A := X.A.in1) (g := []) hr.gd (fun b _ => Clear.nil b) (by show X.A.units + 1 + (0 + 1) < cLine; omega) (fun _ _ z => z) (fun h' u' tk kp => ⟨_, _, rfl, ?_⟩) hz
    · have hy' : (x :: l)[i]? = some y := by simpa using hy
      have hi : i < ys.length := by
        obtain ⟨h1, _⟩ := List.getElem?_eq_some_iff.mp hy'
        rw [hl]
        exact h1
      obtain ⟨t, ht, hT⟩ := paired_at pt (List.getElem?_eq_getElem hi)
      obtain ⟨u2, hu2, ru2⟩ := rv.get (List.getElem?_eq_getElem hi)
      rw [hu2] at hy'
      cases hy'
      exact ⟨t, ht, reprK_tx hD ru2 hT⟩
    · exact ⟨.str (listText ts), H, I.un (Un.kept kp) (I.hok.kept kp), ⟨u', rfl⟩, q⟩
end
end VB
/-! repr of a dict whose keys and values are flat -/
namespace VB
open PySem PySem.Spec PyProof.Rows L2
/-- an entry's text -/
def TxE (p : Key × V) (x : Str) : Prop := ∃ a b : Str, Tx (kV p.1) a ∧ Tx p.2 b ∧ x = a ++ ": " ++ b
theorem key_rel {k : Key} {v : Value} (h : keyIs k v = true) : RelV (kV k) v := by
  rcases keyIs_shape h with ⟨i, t, rfl, rfl⟩ | ⟨x, t, rfl, rfl⟩
  · exact ⟨t, rfl⟩
  · exact ⟨t, rfl⟩
theorem entriesK {prog : Program} {w : World} {h₀ : Heap} (hd : h₀.NoDigits) : ∀ {kvs : List (Key × V)} {vs : List (Key × Value)} {es : List DictEntry} {ps : List Str},
    L2.KV kvs vs → Pairs (mixKind prog w) es vs → Paired TxE kvs ps → ReprEntriesK prog w [] h₀ 0 es ps
  | _, _, _, _, .nil, .nil, .nil => .nil
  | _, _, _, _, .cons r rs, .cons hk hv ts, .cons te tt => by
    obtain ⟨a, b, ta, tb, rfl⟩ := te
    obtain ⟨e1, rv⟩ := r
    refine .cons (reprK_tx hd (key_rel ?_) ta) (reprK_tx hd (hv ▸ rv) tb) (entriesK hd rs ts tt)
    rw [e1]
    exact hk
section
variable {X : Cx} {k : Nat}
def rReprD : List V → Hp → VK → Prop := fun xs H Q => ∃ (a : Addr) (kvs : List (Key × V)) (ps : List Str), xs = [.ref a] ∧ H a = some (.dK kvs) ∧ Paired TxE kvs ps ∧ (dictText ps).length ≤ sizeLine ∧ Q (.str (dictText ps)) H
theorem call_reprD (hr : Rm k X.A) (hd : X.base.NoDigits) : CallR X (.builtin "repr") rReprD := by
  intro pins s σ H xs us Q I r h
  obtain ⟨a, kvs, ps, rfl, ha, pt, hz, q⟩ := h
  obtain ⟨u, rfl, ru⟩ := vals1 r
  cases (show u = Value.ref a from ru)
  have hx : ObjOk X.prog X.w H s.heap a (.dK kvs) := I.hok a _ ha
  obtain ⟨_, hsys, vs, hkv, o, es, ep, ho, hex, hda, _, hp, _⟩ := hx
  have hu := hr.rm.un
  have hD : s.heap.NoDigits := hd.keeps I.bk
  have hc : o.cls = .type "dict" := hex.1
  refine call_repr_slot (T := "dict") (by omega) ⟨o, ho, hc⟩ F.slot_dict_repr ?_
  refine call_dict_reprK (as := []) (d := 0) ho hc hda hsys (fun z => nomatch z) (entriesK hD hkv hp pt) (A := X.A.in1) (g := []) hr.gd (fun b _ => Clear.nil b) (by show X.A.units + 1 + (0 + 1) < cLine; omega) (fun _ _ z => z) (fun h' u' tk kp => ⟨_, _, rfl, ?_⟩) hz
  exact ⟨.str (dictText ps), H, I.un (Un.kept kp) (I.hok.kept kp), ⟨u', rfl⟩, q⟩
end
end VB
/-! repr of lists, tuples and dicts in one another, ints of any size below the limit of digits -/
namespace VB
open PySem PySem.Spec PyProof.Rows L2
mutual
/-- y is shown as t; bs: the lists, tuples and dicts that are opened for it; d: how deep -/
inductive Shw (H : Hp) : V → Str → List Addr → Nat → Prop
  | flat {y : V} {t : Str} : Tx y t → Shw H y t [] 0
  | dct {a : Addr} {kvs : List (Key × V)} {ps : List Str} : H a = some (.dK kvs) → Paired TxE kvs ps → Shw H (.ref a) (dictText ps) [a] 1
  | lst0 {a : Addr} : H a = some (.lst []) → Shw H (.ref a) "[]" [] 0
  | lst {a : Addr} {ys : List V} {ts : List Str} {bs : List Addr} {d : Nat} : H a = some (.lst ys) → ys ≠ [] → ShwAll H ys ts bs d → a ∉ bs → Shw H (.ref a) (listText ts) (a :: bs) (d + 1)
  | tup {a : Addr} {ys : List V} {ts : List Str} {bs : List Addr} {d : Nat} : H a = some (.tup ys) → ShwAll H ys ts bs d → a ∉ bs → Shw H (.ref a) (tupleText ts) (a :: bs) (d + 1)
inductive ShwAll (H : Hp) : List V → List Str → List Addr → Nat → Prop
  | nil {bs : List Addr} {d : Nat} : ShwAll H [] [] bs d
  | cons {y : V} {t : Str} {cs bs : List Addr} {e d : Nat} {ys : List V} {ts : List Str} : Shw H y t cs e → (∀ b ∈ cs, b ∈ bs) → e ≤ d → ShwAll H ys ts bs d → ShwAll H (y :: ys) (t :: ts) bs d
end
section
variable {P : Program} {w : World} {H : Hp} {h₀ : Heap}
theorem all_at {as : List Addr} {d : Nat} : ∀ {us : List Value} {ts : List Str}, ReprAllK P w as h₀ d us ts → ∀ {i : Nat} {u : Value}, us[i]? = some u → ∃ t, ts[i]? = some t ∧ ReprK P w as h₀ d u t
  | _, _, .nil, _, _, h => by cases h
  | _, _, .cons r t, 0, _, h => by cases h; exact ⟨_, rfl, r⟩
  | _, _, .cons r t, i + 1, _, h => all_at t (i := i) h
mutual
theorem shw_K (hok : HOk P w H h₀) (hd : h₀.NoDigits) : ∀ {y : V} {t : Str} {bs : List Addr} {d : Nat} {u : Value}, Shw H y t bs d → RelV y u → ReprK P w bs h₀ d u t
  | _, _, _, _, _, .flat tx, r => reprK_tx hd r tx
  | _, _, _, _, u, .dct (a := a) ha pt, r => by
    cases (show u = Value.ref a from r)
    have hx : ObjOk P w H h₀ a (.dK _) := hok a _ ha
    obtain ⟨_, hsys, vs, hkv, o, es, ep, ho, hex, hda, _, hp, _⟩ := hx
    exact ReprK.dict ho hex.1 hda hsys (fun z => nomatch z) (entriesK hd hkv hp pt)
  | _, _, _, _, u, .lst0 (a := a) ha, r => by
    cases (show u = Value.ref a from r)
    have hx : ObjOk P w H h₀ a (.lst _) := hok a _ ha
    obtain ⟨_, its, n, rv, ho⟩ := hx
    cases rv
    exact ReprK.listEmpty ho rfl rfl
  | _, _, _, _, u, .lst (a := a) ha ne hs na, r => by
    cases (show u = Value.ref a from r)
    have hx : ObjOk P w H h₀ a (.lst _) := hok a _ ha
    obtain ⟨_, its, n, rv, ho⟩ := hx
    have k := shw_all hok hd hs rv
    cases its with
    | nil => cases rv; exact absurd rfl ne
    | cons x l => exact ReprK.list ho rfl rfl na (by simpa using k.length_eq) (fun i y hy => all_at k (by simpa using hy))
  | _, _, _, _, u, .tup (a := a) ha hs na, r => by
    cases (show u = Value.ref a from r)
    have hx : ObjOk P w H h₀ a (.tup _) := hok a _ ha
    obtain ⟨_, its, rv, ho⟩ := hx
    have k := shw_all hok hd hs rv
    obtain ⟨o, e2, hc, n2, hdt⟩ := ho
    exact ReprK.tuple e2 hc hdt na (by simpa using k)
theorem shw_all (hok : HOk P w H h₀) (hd : h₀.NoDigits) : ∀ {ys : List V} {ts : List Str} {bs : List Addr} {d : Nat} {us : List Value}, ShwAll H ys ts bs d → Vals ys us → ReprAllK P w bs h₀ d us ts
  | _, _, _, _, _, .nil, .nil => .nil
  | _, _, _, _, _, .cons s hb he t, .cons r rs => .cons (((shw_K hok hd s r).more hb).level_le he) (shw_all hok hd t rs)
end
end
section
variable {X : Cx} {k : Nat}
/-- repr(y) -/
def rReprS : List V → Hp → VK → Prop := fun xs H Q => ∃ (y : V) (t : Str) (bs : List Addr) (d : Nat), xs = [y] ∧ Shw H y t bs d ∧ d ≤ 60 ∧ t.length ≤ sizeLine ∧ Q (.str t) H
theorem call_reprS (hr : Rm k X.A) (hd : X.base.NoDigits) : CallR X (.builtin "repr") rReprS := by
  intro pins s σ H xs us Q I r h
  obtain ⟨y, t, bs, d, rfl, hs, h60, hz, q⟩ := h
  have hu := hr.rm.un
  have hD : s.heap.NoDigits := hd.keeps I.bk
  have fin : ∀ (h' : Heap) (u' tk : Tok), (∀ b o, s.heap.get? b = some o → h'.get? b = some o) → EP X pins σ Q (.str t u') { s with heap := h', toks := tk } := fun h' u' tk kp => ⟨.str t, H, I.un (Un.kept kp) (I.hok.kept kp), ⟨u', rfl⟩, q⟩
  cases hs with
  | flat tx =>
    cases tx with
    | non => exact call_repr_non pins s σ H _ us Q I r ⟨rfl, q⟩
    | bl b => exact call_repr_bl pins s σ H _ us Q I r ⟨b, rfl, q⟩
    | int i hi => exact call_repr_big hd pins s σ H _ us Q I r ⟨i, rfl, hi, q⟩
    | str x hx => exact call_repr_str pins s σ H _ us Q I r ⟨x, rfl, hx, q⟩
  | dct ha pt => exact call_reprD hr hd pins s σ H _ us Q I r ⟨_, _, _, rfl, ha, pt, hz, q⟩
  | @lst0 a ha =>
    obtain ⟨u, rfl, ru⟩ := vals1 r
    cases (show u = Value.ref a from ru)
    have hx : ObjOk X.prog X.w H s.heap a (.lst _) := I.hok a _ ha
    obtain ⟨_, its, n, rv, ho⟩ := hx
    cases rv
    exact call_repr_slot (T := "list") (by omega) ⟨_, ho, rfl⟩ F.slot_list_repr.toG (call_list_repr_empty ⟨_, ho, rfl⟩ ho rfl ⟨_, _, rfl, fin s.heap _ _ fun _ _ z => z⟩)
  | @lst a ys ts bs d ha ne hs na =>
    obtain ⟨u, rfl, ru⟩ := vals1 r
    cases (show u = Value.ref a from ru)
    have hx : ObjOk X.prog X.w H s.heap a (.lst _) := I.hok a _ ha
    obtain ⟨_, its, n, rv, ho⟩ := hx
    have kk := shw_all (P := X.prog) (w := X.w) I.hok hD hs rv
    cases its with
    | nil => cases rv; exact absurd rfl ne
    | cons x l =>
      refine call_repr_slot (T := "list") (by omega) ⟨_, ho, rfl⟩ F.slot_list_repr.toG ?_
      exact call_list_reprK ho rfl rfl na (by simpa using kk.length_eq) (fun i y hy => all_at kk (by simpa using hy)) (A := X.A.in1) (g := []) hr.gd (fun b _ => Clear.nil b) (by show X.A.units + 1 + (d + 1) < cLine; omega) (fun _ _ z => z) (fun h' u' tk kp => ⟨_, _, rfl, fin h' u' tk kp⟩) hz
  | @tup a ys ts bs d ha hs na =>
    obtain ⟨u, rfl, ru⟩ := vals1 r
    cases (show u = Value.ref a from ru)
    have hx : ObjOk X.prog X.w H s.heap a (.tup _) := I.hok a _ ha
    obtain ⟨_, its, rv, o, e2, hc, n2, hdt⟩ := hx
    have kk := shw_all (P := X.prog) (w := X.w) I.hok hD hs rv
    refine call_repr_slot (T := "tuple") (by omega) ⟨o, e2, hc⟩ F.slot_tuple_repr ?_
    exact call_tuple_reprK e2 hc hdt na (by simpa using kk) (A := X.A.in1) (g := []) hr.gd (fun b _ => Clear.nil b) (by show X.A.units + 1 + (d + 1) < cLine; omega) (fun _ _ z => z) (fun h' u' tk kp => ⟨_, _, rfl, fin h' u' tk kp⟩) hz
end
end VB
/-! isinstance of a caught error that has a dict; == and index of own instances -/
namespace VB
open PySem PySem.Spec PyProof.Rows L2
/-- what isinstance asks of instances of the error class D, and that they are of class F -/
structure IsE (K : PySem.W.Frag) (D F : Addr) : Prop where
  ha : PySem.W.findIn K (.ref D) "__class__" = some (some (.builtin "object.__class__"))
  hn : PySem.W.specialIn K (.builtin "object.__class__") "__get__" = some (some (.builtin "getset_descriptor.__get__"))
  ht : PySem.W.takesIn K (.builtin "object.__class__") = some true
  hm : PySem.W.mroIn K D (.type "object") = some true
  kit : PySem.W.kitOne K (.ref D) (.ref F) = some true
def isEB (K : PySem.W.Frag) (D F : Addr) : Bool := decide (PySem.W.findIn K (.ref D) "__class__" = some (some (.builtin "object.__class__"))) && (decide (PySem.W.specialIn K (.builtin "object.__class__") "__get__" = some (some (.builtin "getset_descriptor.__get__"))) && (decide (PySem.W.takesIn K (.builtin "object.__class__") = some true) &&
  (decide (PySem.W.mroIn K D (.type "object") = some true) && decide (PySem.W.kitOne K (.ref D) (.ref F) = some true))))
theorem isEB_ok {K : PySem.W.Frag} {D F : Addr} (h : isEB K D F = true) : IsE K D F := by
  unfold isEB at h
  obtain ⟨h1, h⟩ := Bool.and_eq_true_iff.mp h
  obtain ⟨h2, h⟩ := Bool.and_eq_true_iff.mp h
  obtain ⟨h3, h⟩ := Bool.and_eq_true_iff.mp h
  obtain ⟨h4, h5⟩ := Bool.and_eq_true_iff.mp h
  exact ⟨of_decide_eq_true h1, of_decide_eq_true h2, of_decide_eq_true h3, of_decide_eq_true h4, of_decide_eq_true h5⟩
/-- isinstance(e, F), e the caught error -/
def rIsED (D F a : Addr) (cls : Value) (d : Option Addr) : List V → Hp → VK → Prop := fun xs H Q => xs = [.ref a, .ref F] ∧ cls = .ref D ∧ ∃ (dd : Addr) (fs : List (Str × V)), d = some dd ∧ H dd = some (.xd fs) ∧ Q (.bl true) H
theorem call_isED {X : Cx} {a D F : Addr} {oe : Obj} {cls : Value} {d : Option Addr} {pn : List (Addr × Obj)} (T : XfC X.K D) (C : IsE X.K D F) (hz : Zc cls d oe) (hf : ∃ vs, oe.data = .fields vs) : CallR (X.suite a ((a, oe) :: pn)) (.builtin "isinstance") (rIsED D F a cls d) := by
  intro pins s σ H xs us Q I r h
  obtain ⟨rfl, ec, dd, fs, ed, ea, q⟩ := h
  cases r with
  | cons rx rr =>
    cases rr with
    | cons rt rr =>
      cases rr
      cases rx
      cases rt
      subst ec
      subst ed
      obtain ⟨hget, _⟩ := I.pin (a, oe) (List.mem_append.mpr (.inl List.mem_cons_self))
      obtain ⟨vs, hd⟩ := hf
      have hx : ObjOk X.prog X.w H s.heap dd (.xd fs) := I.hok dd _ ea
      obtain ⟨mA, hns, hr⟩ := hx
      obtain ⟨od, ho, hl⟩ := lookIn_ns hns
      have J : PySem.W.InstAt s.heap a oe D (some od) := ⟨hget, hz.1, by unfold PySem.W.notCls; rw [hd] <;> rfl, by rw [hz.2]; exact ho⟩
      have hcl : (PySem.W.clsIn X.K D).isSome = true := by
        obtain ⟨cd, hc, _⟩ := PySem.W.any_some T.hdC
        rw [hc]
        rfl
      exact PySem.W.kia_one (PySem.W.kitx_exc hcl T.ga T.gg T.exC C.ha C.hn C.ht C.hm) I.kIn J C.kit (fun z => nomatch z) fun tk => ⟨.bl true, H, I.kept (t' := tk) fun _ _ z => z, rfl, q⟩
/-- what == asks of the class -/
def nsB (K : PySem.W.Frag) (N : Addr) : Bool := match K.lookup N with
  | some ⟨_, _, .dict es _, _⟩ => es.toList.all (fun e => match e.key with | .str _ _ => true | _ => false) && ((es.toList.find? (·.key.isStr "__eq__")).isNone && (es.toList.find? (·.key.isStr "__ne__")).isNone)
  | _ => false
def slB : List (Option Value) → Bool
  | [_, _, _, _, some (.builtin _), _] => true
  | _ => false
def cmpB (K : PySem.W.Frag) (C : Addr) : Bool := match K.lookup C with
  | some ⟨c, _, .cls cd, sl⟩ => decide (c = .type "type") && (decide (cd.mro = [.ref C, .type "object"]) && (!cd.hasDel && (slB sl.toList && nsB K cd.ns)))
  | _ => false
theorem cmp_ok {K : PySem.W.Frag} {h : Heap} {C a dx : Addr} (B : cmpB K C = true) (X : K.In h) (ha : h.get? a = some (PySem.W.instObj C dx)) : h.CmpInst a C [.type "object"] := by
  unfold cmpB at B
  split at B
  · rename_i c dd cd sl ho
    obtain ⟨b1, B⟩ := Bool.and_eq_true_iff.mp B
    obtain ⟨b2, B⟩ := Bool.and_eq_true_iff.mp B
    obtain ⟨b3, B⟩ := Bool.and_eq_true_iff.mp B
    obtain ⟨b4, b5⟩ := Bool.and_eq_true_iff.mp B
    have e1 : c = .type "type" := of_decide_eq_true b1
    have e2 : cd.mro = [.ref C, .type "object"] := of_decide_eq_true b2
    have e3 : cd.hasDel = false := by simpa using b3
    obtain ⟨nm, bs, mro, N, q, hdct, sn, sub, ab, col, del⟩ := cd
    dsimp only at e2 e3 b5
    subst e1 e2 e3
    obtain ⟨sl⟩ := sl
    unfold slB at b4
    split at b4
    · rename_i k0 k1 k2 k3 newId k5 es
      dsimp only at es
      subst es
      unfold nsB at b5
      split at b5
      · rename_i c' d' es ep sl' hN
        obtain ⟨n1, b5⟩ := Bool.and_eq_true_iff.mp b5
        obtain ⟨n2, n3⟩ := Bool.and_eq_true_iff.mp b5
        refine ⟨_, nm, q, N, bs, hdct, sn, sub, ab, col, dd, k0, k1, k2, k3, k5, newId, nsFind es, ha, rfl, X _ _ ho, ⟨_, es, ep, X _ _ hN, rfl, fun e he => ?_, fun _ => rfl⟩, ?_, ?_⟩
        · have := List.all_eq_true.mp n1 e (by simpa using he)
          split at this
          · rename_i n t hk
            exact ⟨n, t, hk⟩
          · cases this
        · show (es.find? fun e => e.key.isStr "__eq__").map (·.val) = none
          rw [← Array.find?_toList]
          rw [Option.isNone_iff_eq_none] at n2
          rw [n2]
          rfl
        · show (es.find? fun e => e.key.isStr "__ne__").map (·.val) = none
          rw [← Array.find?_toList]
          rw [Option.isNone_iff_eq_none] at n3
          rw [n3]
          rfl
      · cases b5
    · cases b4
  · cases B
/-- a == b, two own instances without an __eq__ of their own -/
def rEqI (C : Addr) : R2 := fun x y H Q => ∃ (a b da db : Addr) (fa fb : List (Str × V)), x = .ref a ∧ y = .ref b ∧ a ≠ b ∧ H a = some (.ins C da fa) ∧ H b = some (.ins C db fb) ∧ Q (.bl false) H
theorem op_eqI {X : Cx} {C : Addr} {k : Nat} (hr : Rm k X.A) (B : cmpB X.K C = true) : OpR X (compareOp .Eq) (rEqI C) := by
  intro pins s σ H x y v u Q I rx ry h
  obtain ⟨a, b, da, db, fa, fb, rfl, rfl, ne, ea, eb, q⟩ := h
  cases rx
  cases ry
  have oa : ObjOk X.prog X.w H s.heap a (.ins C da fa) := I.hok a _ ea
  have ob : ObjOk X.prog X.w H s.heap b (.ins C db fb) := I.hok b _ eb
  obtain ⟨_, _, _, ga, _⟩ := oa
  obtain ⟨_, _, _, gb, _⟩ := ob
  have hu := hr.rm.units
  obtain ⟨hp, g, d, t, os⟩ := s
  exact compareOp_eq_other F.cmp_object F.cmp_object (cmp_ok B I.kIn ga) (cmp_ok B I.kIn gb) ne (by omega) ⟨.bl false, H, I, rfl, q⟩
/-- l.index(b), l = [a, b] -/
def rIdx2 (C : Addr) : V → List V → Hp → VK → Prop := fun x xs H Q => ∃ (l a b da db : Addr) (fa fb : List (Str × V)), x = .ref l ∧ xs = [.ref b] ∧ H l = some (.lst [.ref a, .ref b]) ∧ a ≠ b ∧ H a = some (.ins C da fa) ∧ H b = some (.ins C db fb) ∧ Q (.int 1) H
theorem mt_idx2 {X : Cx} {C : Addr} {k : Nat} (hr : Rm k X.A) (B : cmpB X.K C = true) : MtR X "list.index" (rIdx2 C) := by
  intro pins s σ H x xs v us Q I rx rxs h
  obtain ⟨l, a, b, da, db, fa, fb, rfl, rfl, hl, ne, ea, eb, q⟩ := h
  cases rx
  obtain ⟨u, rfl, ru⟩ := rxs.one
  cases ru
  have oa : ObjOk X.prog X.w H s.heap a (.ins C da fa) := I.hok a _ ea
  have ob : ObjOk X.prog X.w H s.heap b (.ins C db fb) := I.hok b _ eb
  obtain ⟨_, _, _, ga, _⟩ := oa
  obtain ⟨_, _, _, gb, _⟩ := ob
  have hu := hr.rm.units
  obtain ⟨z, its, n, r, _, ho⟩ := I.lstM hl
  obtain ⟨u1, r', rfl, r1, r2⟩ : ∃ u1 r', its = u1 :: r' ∧ RelV (.ref a) u1 ∧ Vals [.ref b] r' := by
    cases r with
    | cons r1 r2 => exact ⟨_, _, rfl, r1, r2⟩
  obtain ⟨u2, rfl, r3⟩ := r2.one
  cases r1
  cases r3
  refine call_meets PySem.F.slot_list_index ⟨_, ho, rfl⟩ PySem.F.entry_list_index (PySem.F.args_list_index_2 _ _)
    (SeqAt.list_indexAt l #[Value.ref a, Value.ref b] n none #[] (.ref b) (fun y => y == .ref b) 1 (by show 1 < 2; omega) (by omega) ?_ ?_) ⟨ho, fun y hy => ?_, ?_⟩
  · exact beq_self_eq_true _
  · intro m hm hm1
    obtain rfl : m = 0 := by omega
    show (Value.ref a == Value.ref b) = false
    exact beq_eq_false_iff_ne.mpr fun z => ne (Value.ref.inj z)
  · have : y = .ref a ∨ y = .ref b := by simpa using hy
    rcases this with rfl | rfl
    · have e : (Value.ref a == Value.ref b) = false := beq_eq_false_iff_ne.mpr fun z => ne (Value.ref.inj z)
      rw [e]
      refine SeqAt.EqAt.of_refs ne fun prog w E Q hq => ?_
      obtain ⟨hp, g, d, t, os⟩ := s
      exact richCompare_eq_other F.cmp_object F.cmp_object (cmp_ok B I.kIn ga) (cmp_ok B I.kIn gb) ne (by show X.A.units + 1 < cLine; omega) hq
    · rw [beq_self_eq_true]
      exact SeqAt.EqAt.same _
  · exact ⟨.int 1, H, I.tok _, ⟨_, rfl⟩, q⟩
end VB
/-! an own error class called: C(e), C(g = e); as a value, and for a raise -/
namespace PySem
namespace HandSPX
open Builtin Builtin.ObjectAttr
section
variable {P : Program} {w : World} {M : Model} {A : Around} {E : Value → Shared → Prop} {R : Result → Shared → Prop} {h : Heap} {g : Array GenState} {d : Drawn} {t : Nat} {os : OsState}
variable {nm q : Str} {C N : Addr} {bs bm bB : List Value} {hd : Bool} {sn : List Str} {sub : List Value} {ab : Bool} {col : Option Bool} {dd : Option Addr} {k0 k1 k2 k3 k5 : Option Value} {B nI iI : String} {us : List Value} {kw : List (Str × Value)}
theorem kwNewChk (F : ExcBaseFacts B nI iI bB) (tail : ∀ X : String, bm.contains (.type X) = bB.contains (.type X)) {Q : Unit → Shared → Prop}
    (cC : h.get? C = some (excClassObj nm q C N bs bm hd sn sub ab col dd k0 k1 k2 k3 k5 nI)) (z : Q () ⟨h, g, d, t, os⟩) :
    wpAny M A (checkBuiltinCall nI ⟨.ref C :: us, kw⟩) Q E ⟨h, g, d, t, os⟩ := by
  have isB : (Value.ref C :: bm).contains (.type B) = true := by
    rw [List.contains_cons, tail, F.hasB]
    simp
  have star := F.noStar
  simp only [checkBuiltinCall, F.newKind, F.newSplit, F.newRow]
  repeat first
    | refine wpAny_loadPart_at cC ?_
    | (refine wpAny_isSubtype_exc cC ?_; rw [isB])
    | refine wpAny_staticBase_exc cC ?_
    | refine wpAny_madeBy_exc cC ?_
    | simp only [bne_self_eq_false, Bool.false_eq_true, if_false]
    | wp_step
  exact z
theorem kwNew (F : ExcBaseFacts B nI iI bB) (tail : ∀ X : String, bm.contains (.type X) = bB.contains (.type X))
    (cC : h.get? C = some (excClassObj nm q C N bs bm hd sn sub ab col dd k0 k1 k2 k3 k5 nI)) (len : us.length ≤ sizeLine)
    (z : R (.ok (.ret (.ref (h.objs.size + 1)))) ⟨(h.push (W.kdv_tup us)).push (excO C h.objs.size), g, d, t, os⟩) :
    codeAny (model P w) A (.builtin nI ⟨.ref C :: us, kw⟩) R ⟨h, g, d, t, os⟩ := by
  have ends := F.ends
  have isB : (Value.ref C :: bm).contains (.type B) = true := by
    rw [List.contains_cons, tail, F.hasB]
    simp
  have noA : (Value.ref C :: bm).contains (.type "AttributeError") = false := by
    rw [List.contains_cons, tail, F.noAttr]
    rfl
  have noN : (Value.ref C :: bm).contains (.type "NameError") = false := by
    rw [List.contains_cons, tail, F.noName]
    rfl
  apply codeAny_builtinAt F.entry
  unfold Builtin.«BaseException.__new__»
  apply wpAt_bind
  show wpAt _ _ _ (stack >>= _) _ _ _
  apply wpAt_bind
  refine wpAt_stack fun p below => ?_
  apply wpAt_of_wpAny
  wp_walk
  apply wpAt_of_wpAny
  rw [F.owner]
  repeat first
    | with_reducible refine wpAny_madeHere_exc F.canon cC ?_
    | with_reducible refine wpAny_loadPart_at cC ?_
    | (with_reducible refine wpAny_isSubtype_exc cC ?_; first | rw [isB] | rw [noA] | rw [noN])
    | wp_step
  show R _ _
  rw [Heap.size_push]
  exact z
theorem kwTypeCall (F : ExcBaseFacts B nI iI bB) (tail : ∀ X : String, bm.contains (.type X) = bB.contains (.type X)) {f : Addr} {Q : Fin → Shared → Prop}
    (cC : h.get? C = some (excClassObj nm q C N bs bm hd sn sub ab col dd k0 k1 k2 k3 k5 nI)) (li : W.Looks (model P w) h (typeLookup (.ref C) "__init__") (some (.ref f)))
    (lb : ∀ v, W.Looks (model P w) h (bindSpecial (.ref f) v) (.ref f, [v])) (len : us.length ≤ sizeLine)
    (z : codeAny (model P w) A (.call (.ref f) ⟨.ref (h.objs.size + 1) :: us, kw⟩)
      (fun r s => match r with | .ok (.ret v) => v = .none ∧ Q (.done (.ret (.ref (h.objs.size + 1)))) s | .ok _ => False | .error e => E e s)
      ⟨(h.push (W.kdv_tup us)).push (excO C h.objs.size), g, d, t, os⟩) :
    wpAny (model P w) A (Builtin.«type.__call__» ⟨.ref C :: us, kw⟩) Q E ⟨h, g, d, t, os⟩ := by
  repeat first
    | with_reducible refine wpAny_loadPart_at cC ?_
    | with_reducible refine wpAny_madeBy_exc cC ?_
    | wp_step
  apply codeAny_call_builtin_code (Code.quiet_builtin _ F.quiet)
  apply kwNewChk F tail cC
  apply kwNew F tail cC len
  show wpAny _ _ _ _ _ _
  have up : ∀ b o, h.get? b = some o → ((h.push (W.kdv_tup us)).push (excO C h.objs.size)).get? b = some o := fun _ _ e =>
    Heap.get?_push_of_some _ (Heap.get?_push_of_some _ e)
  have cC' := up _ _ cC
  have ce : ((h.push (W.kdv_tup us)).push (excO C h.objs.size)).get? (h.objs.size + 1) = some (excO C h.objs.size) := by heap_get
  have self : (Value.ref C :: bm).contains (.ref C) = true := by simp
  have li' := li.keeps up
  have lb' := (lb (.ref (h.objs.size + 1))).keeps up
  unfold isInstance
  repeat first
    | with_reducible refine wpAny_loadPart_at ce ?_
    | (with_reducible refine wpAny_isSubtype_exc cC' ?_; rw [self])
    | wp_step
  show wpAny _ _ (typeLookup (.ref C) _) _ _ _
  apply li'.at
  apply wpAny_holding
  apply wpAny_bind
  apply lb'.at
  apply wpAny_bind
  apply wpAny_call
  refine codeAny_mono z fun r s y => ?_
  cases r with
  | error e => exact y
  | ok fl =>
    cases fl with
    | ret v =>
      obtain ⟨rfl, y⟩ := y
      first
        | exact wpAny_pure (wpAny_pure y)
        | (wp_walk; exact y)
    | next => exact y.elim
    | brk => exact y.elim
    | cont => exact y.elim
theorem kwTcChk {Q : Unit → Shared → Prop} (cC : h.get? C = some (excClassObj nm q C N bs bm hd sn sub ab col dd k0 k1 k2 k3 k5 nI)) (z : Q () ⟨h, g, d, t, os⟩) :
    wpAny M A (checkBuiltinCall "type.__call__" ⟨.ref C :: us, kw⟩) Q E ⟨h, g, d, t, os⟩ := by
  have sb := tc_sub
  have ty : (⟨h, g, d, t, os⟩ : Shared).TypeIs (.ref C) "type" := ⟨_, cC, rfl⟩
  simp only [checkBuiltinCall, tc_kind, tc_split]
  repeat any_goals first
    | assumption
    | with_reducible refine wpAny_loadPart_at cC ?_
    | with_reducible refine wpAny_onRaise ?_
    | with_reducible refine wpAny_map ?_
    | wp_step
theorem kwCall (F : ExcBaseFacts B nI iI bB) (tail : ∀ X : String, bm.contains (.type X) = bB.contains (.type X)) {f : Addr}
    (cC : h.get? C = some (excClassObj nm q C N bs bm hd sn sub ab col dd k0 k1 k2 k3 k5 nI)) (li : W.Looks (model P w) h (typeLookup (.ref C) "__init__") (some (.ref f)))
    (lb : ∀ v, W.Looks (model P w) h (bindSpecial (.ref f) v) (.ref f, [v])) (len : us.length ≤ sizeLine)
    (z : codeAny (model P w) (A.under (.builtin "type.__call__" ⟨.ref C :: us, kw⟩)) (.call (.ref f) ⟨.ref (h.objs.size + 1) :: us, kw⟩) (W.InitBack (h.objs.size + 1) R) ⟨(h.push (W.kdv_tup us)).push (excO C h.objs.size), g, d, t, os⟩) :
    codeAny (model P w) A (.call (.ref C) ⟨us, kw⟩) R ⟨h, g, d, t, os⟩ := by
  have lk := tc_lookup
  have bd := tc_bind (.ref C)
  have ty : (⟨h, g, d, t, os⟩ : Shared).TypeIs (.ref C) "type" := ⟨_, cC, rfl⟩
  apply codeAny_of_tree
  show wpAny _ _ (callAny (.ref C) _) _ _ _
  repeat any_goals first
    | assumption
    | with_reducible refine wpAny_loadPart_at cC ?_
    | wp_step
  refine ⟨rfl, codeAny_call_builtin_at (Code.quiet_builtin _ (by decide +kernel)) entry_typeCall ?_⟩
  apply kwTcChk cC
  apply kwTypeCall F tail cC li lb len
  refine codeAny_mono z fun r s y => ?_
  cases r with
  | error e => exact y
  | ok fl => cases fl <;> exact y
end
end HandSPX
end PySem
namespace VB
open PySem PySem.Spec PyProof.Rows L2
/-- what stands when an error with the value y was made at a: all of it tracked; or the heap without it, for a raise -/
structure NewE (X : Cx) (pins : List (Addr × Obj)) (σ : L2.St) (H1 : Hp) (C : Addr) (g : Str) (y : V) (a : Addr) (s : Shared) : Prop where
  free : H1 a = none
  ex : ∃ (d : Addr) (H2 : Hp), H1 d = none ∧ d ≠ a ∧ H2 = upd (upd (upd H1 a (exo a C none)) d (exd d [(g, y)])) a (exo a C (some d)) ∧ Inv X pins σ H2 s ∧
    ∃ (t0 : Addr) (G : Heap), Inv X pins σ (upd H1 d (.xd [(g, y)])) { s with heap := G } ∧ (∀ b o, G.get? b = some o → s.heap.get? b = some o) ∧ G.get? a = none ∧
      s.heap.get? a = some ({ cls := .ref C, dict := some d, data := .fields #[.ref t0, .none, .none, .none, .bool false, .none] } : Obj) ∧ (upd H1 d (.xd [(g, y)]) : Hp) a = none
section
variable {X : Cx} {pins : List (Addr × Obj)} {σ : L2.St} {H1 : Hp} {s1 : Shared} {x g : Str} {C fI : Addr} {fd : FuncData} {us : List Value} {kw : List (Str × Value)} {y : V} {u : Value}
theorem run_new (M : ErrC X.K X.mg x g C fI) (F1 : FnOk X.prog X.w X.K X.mg X.base CX0 1 fI fd ["self", g] (spInit X.K g)) (hr : Room 2 X.A) (I1 : Inv X pins σ H1 s1) (lu : us.length ≤ 1000) (ru : RelV y u)
    (hb : ∀ (s : Shared) (a : Addr), X.K.In s.heap → BindsTo s fd ⟨.ref a :: us, kw⟩ ((["self", g] : List Str).zip [.ref a, u])) {R : Value → Shared → Prop} (k : ∀ (a : Addr) (s : Shared), NewE X pins σ H1 C g y a s → R (.ref a) s) :
    codeAny (model X.prog X.w) X.A (.call (.ref C) ⟨us, kw⟩) (fun r s => match r with | .ok (.ret v) => R v s | .ok _ => False | .error e => X.xe e s) s1 := by
  obtain ⟨nm, q, N, bs, bm, sn, sub, ab, col, dd, k0, k1, k2, k3, k5, cC, tail⟩ := M.oex.cls
  obtain ⟨h, gs, dr, tk, os⟩ := s1
  have kIn := I1.kIn
  have up : ∀ b o, h.get? b = some o → ((h.push (PySem.W.kdv_tup us)).push (PySem.HandSPX.excO C h.objs.size)).get? b = some o := fun _ _ e => Heap.get?_push_of_some _ (Heap.get?_push_of_some _ e)
  have le : h.objs.size ≤ h.objs.size + 1 := Nat.le_succ _
  have na : H1 (h.objs.size + 1) = none := I1.hok.fresh le
  have I2 := I1.laid (t' := tk) (o := exo (h.objs.size + 1) C none) up le (exo_ok (by heap_get))
  have sp : spInit X.K g [.ref (h.objs.size + 1), y] (upd H1 (h.objs.size + 1) (exo (h.objs.size + 1) C none))
      (fun v H2 => v = .non ∧ ∃ d, H1 d = none ∧ d ≠ h.objs.size + 1 ∧ H2 = upd (upd (upd H1 (h.objs.size + 1) (exo (h.objs.size + 1) C none)) d (exd d [(g, y)])) (h.objs.size + 1) (exo (h.objs.size + 1) C (some d))) (fun _ _ _ => False) :=
    ⟨_, C, y, rfl, M.oex, M.noG, upd_same, fun d nd ne => ⟨rfl, d, by rw [upd_ne ne] at nd; exact nd, ne, rfl⟩⟩
  have vals : Vals [V.ref (h.objs.size + 1), y] [Value.ref (h.objs.size + 1), u] := .cons rfl (.cons ru .nil)
  refine PySem.HandSPX.kwCall F.excBase_ValueError (fun Y => PySem.HandSPX.refsVE_contains Y bm tail) (kIn _ _ cC) (PySem.W.looks_findIn kIn M.iC) (fun v => PySem.W.bind_fn kIn v M.tI) (Nat.le_trans lu (by decide)) ?_
  refine codeAny_mono (F1.run _ X.stack _ _ ⟨.ref (h.objs.size + 1) :: us, kw⟩ _ _ _ _ (hr.make C us kw) (I2.env0.make C us kw) (hb _ _ I2.kIn) vals sp) fun r s' z => ?_
  cases r with
  | error e => exact (show PassesAt CX0 X σ (fun _ _ _ => False) from fun _ _ _ _ _ _ c => c.elim) pins _ _ e s' I2 z
  | ok fl =>
    cases fl with
    | ret v =>
      obtain ⟨v', H2, os2, bare, un, hok, rv, rfl, d, nd, ne, eH⟩ := z
      obtain ⟨h2, g2, d2, t2, os'⟩ := s'
      obtain rfl : os' = os := os2
      have ea : H2 (h.objs.size + 1) = some (exo (h.objs.size + 1) C (some d)) := by rw [eH, upd_same]
      have ed : H2 d = some (exd d [(g, y)]) := by rw [eH, upd_ne ne, upd_same]
      have I3 := I2.call (h' := h2) (g' := g2) (d' := d2) (t' := t2) (ch := []) un hok bare (fun b z => absurd z (by simp))
      obtain ⟨t0, G, J, kG, ge, hoe, nz⟩ := mk_end0 (d2 := d2) (t2 := t2) I1 le up un hok rfl bare ea ed nd
      have eq : upd (del H2 (h.objs.size + 1)) d (.xd [(g, y)]) = upd H1 d (.xd [(g, y)]) := by
        funext b
        by_cases hb : b = d
        · rw [hb, upd_same, upd_same]
        · rw [upd_ne hb, upd_ne hb]
          by_cases ha : b = h.objs.size + 1
          · rw [ha, del_same, na]
          · rw [del_ne ha, eH, upd_ne ha, upd_ne hb, upd_ne ha]
      rw [eq] at J nz
      exact ⟨rv, k _ _ ⟨na, d, _, nd, ne, eH, I3, t0, G, J, kG, ge, hoe, nz⟩⟩
    | next => exact z.elim
    | brk => exact z.elim
    | cont => exact z.elim
end
/-- C(e), C(g = e) as a value: the error and its dict stand -/
def tMkW (C : Addr) (g : Str) (ta : TA) : TE := fun σ H Q => ta σ H fun vs H1 => ∃ y, vs = [y] ∧ ∀ a d, H1 a = none → H1 d = none → d ≠ a → Q (.ref a) (upd (upd (upd H1 a (exo a C none)) d (exd d [(g, y)])) a (exo a C (some d)))
/-- the same for a raise: its dict stands -/
def tMkR (C : Addr) (g : Str) (ta : TA) : L2.St → Hp → XK → Prop := fun σ H Q => ta σ H fun vs H1 => ∃ y, vs = [y] ∧ ∀ d, H1 d = none → Q (.ref C) (some d) (upd H1 d (.xd [(g, y)]))
abbrev gK1 : List Value → List Value → List Value := fun us ws => [us.getD 0 .none, ws.getD 0 .none]
abbrev gK1V : List V → List V → List V := fun us ws => [us.getD 0 .non, ws.getD 0 .non]
/-- the class, made with the keyword g -/
structure MkEK (P : Program) (w : World) (K : PySem.W.Frag) (mg : Str → Option Value) (base : Heap) (x g : Str) (C fI : Addr) : Prop where
  err : ErrC K mg x g C fI
  ini : ∃ fd, FnOk P w K mg base CX0 1 fI fd ["self", g] (spInit K g) ∧ KBn K fd ["self", g] 1 [g] gK1 gK1V
section
variable {X : Cx} {x g : Str} {C fI : Addr} {p pos : Pos} {e : Expr} {ta tk : TA} {kws : List Keyword} {k : Nat}
/-- C(e), whatever is made of it -/
theorem call_new (M : MkE X.prog X.w X.K X.mg X.base x g C fI) (hr : Room 2 X.A) (ha : PA X [e] ta) (hg : Gl X x) (hdb : (x == ("__debug__" : Str)) = false)
    (he : starEach [e] X.env = (false, eval e X.env) :: starEach [] X.env) (hpl : (backTo pos (starEach [] X.env)).any (·.1) = false) {pins : List (Addr × Obj)} {s : Shared} {σ : L2.St} {H : Hp} (I : Inv X pins σ H s) {Z : V → Hp → Prop} {Y : Value → Shared → Prop}
    (h : ta σ H fun vs H1 => ∃ y, vs = [y] ∧ Z y H1) (fin : ∀ (y : V) (H1 : Hp) (a : Addr) (s' : Shared), Z y H1 → NewE X pins σ H1 C g y a s' → Y (.ref a) s') :
    wpAny (model X.prog X.w) X.A (eval (.Call (.Name x p) [e] [] pos) X.env) Y X.xe s := by
  obtain ⟨fd, F1, hb⟩ := M.ini
  refine wpAny_Call_Name_kw (ld_glob I hg M.err.gC ?_ hdb)
  refine PySem.W.callWith_K (h₀ := X.base) I.ok.mod.kin M.err.oex.kC (thn (ha.run pos pins s σ H _ I h) fun us s1 ⟨vs, H1, I1, r1, y, ev, z⟩ => ⟨I1.kIn, ?_⟩) he hpl
  subst ev
  obtain ⟨u, rfl, ru⟩ := vals1 r1
  refine wpAny_call (codeAny_mono (run_new M.err F1 hr I1 (by simp) ru (fun s a ki => ?_) fun a s' N => fin y H1 a s' z N) fun r s' q => ?_)
  · have b := hb s [.ref a, u] ki rfl
    exact b
  · cases r with
    | error e => exact q
    | ok fl => cases fl <;> exact q
theorem call_newK (M : MkEK X.prog X.w X.K X.mg X.base x g C fI) (hr : Room 2 X.A) (hkw : PK X kws tk) (hg : Gl X x) (hdb : (x == ("__debug__" : Str)) = false) (hall : (backToKw pos (keywordEach kws X.env)).all (·.1.isSome) = true) (hks : (backToKw pos (keywordEach kws X.env)).filterMap (·.1) = [g])
    (hpl : ((backTo pos (starEach [] X.env)).any (·.1) || (backToKw pos (keywordEach kws X.env)).any (·.1.isNone)) = false) {pins : List (Addr × Obj)} {s : Shared} {σ : L2.St} {H : Hp} (I : Inv X pins σ H s) {Z : V → Hp → Prop} {Y : Value → Shared → Prop}
    (h : tk σ H fun vs H1 => ∃ y, vs = [y] ∧ Z y H1) (fin : ∀ (y : V) (H1 : Hp) (a : Addr) (s' : Shared), Z y H1 → NewE X pins σ H1 C g y a s' → Y (.ref a) s') :
    wpAny (model X.prog X.w) X.A (eval (.Call (.Name x p) [] kws pos) X.env) Y X.xe s := by
  obtain ⟨fd, F1, hb⟩ := M.ini
  refine wpAny_Call_Name_kw (ld_glob I hg M.err.gC ?_ hdb)
  refine PySem.W.callWith_KW0 (h₀ := X.base) I.ok.mod.kin M.err.oex.kC hall (thn (hkw.run pos pins s σ H _ I h) fun us s1 ⟨vs, H1, I1, r1, y, ev, z⟩ => ⟨I1.kIn, ?_⟩) hpl
  subst ev
  obtain ⟨u, rfl, ru⟩ := vals1 r1
  rw [hks]
  refine wpAny_call (codeAny_mono (run_new M.err F1 hr I1 (by simp) ru (fun s a ki => ?_) fun a s' N => fin y H1 a s' z N) fun r s' q => ?_)
  · exact hb.to s [.ref a] [u] ki rfl rfl
  · cases r with
    | error e => exact q
    | ok fl => cases fl <;> exact q
theorem pe_mkv (M : MkE X.prog X.w X.K X.mg X.base x g C fI) (hr : Rm k X.A) (ha : PA X [e] ta) (hk : 2 ≤ k := by omega) (hg : Gl X x := by rfl) (hdb : (x == ("__debug__" : Str)) = false := by decide)
    (he : starEach [e] X.env = (false, eval e X.env) :: starEach [] X.env := by rfl) (hpl : (backTo pos (starEach [] X.env)).any (·.1) = false := by rfl) : PE X (.Call (.Name x p) [e] [] pos) (tMkW C g ta) :=
  ⟨fun pins s σ H Q I h => call_new M (hr.rm.mono hk) ha hg hdb he hpl I h fun y H1 a s' z N => by
    obtain ⟨na, d, H2, nd, ne, rfl, I2, _⟩ := N
    exact ⟨.ref a, _, I2, rfl, z a d na nd ne⟩⟩
theorem pe_mkvK (M : MkEK X.prog X.w X.K X.mg X.base x g C fI) (hr : Rm k X.A) (hkw : PK X kws tk) (hk : 2 ≤ k := by omega) (hg : Gl X x := by rfl) (hdb : (x == ("__debug__" : Str)) = false := by decide)
    (hall : (backToKw pos (keywordEach kws X.env)).all (·.1.isSome) = true := by rfl) (hks : (backToKw pos (keywordEach kws X.env)).filterMap (·.1) = [g] := by rfl)
    (hpl : ((backTo pos (starEach [] X.env)).any (·.1) || (backToKw pos (keywordEach kws X.env)).any (·.1.isNone)) = false := by rfl) : PE X (.Call (.Name x p) [] kws pos) (tMkW C g tk) :=
  ⟨fun pins s σ H Q I h => call_newK M (hr.rm.mono hk) hkw hg hdb hall hks hpl I h fun y H1 a s' z N => by
    obtain ⟨na, d, H2, nd, ne, rfl, I2, _⟩ := N
    exact ⟨.ref a, _, I2, rfl, z a d na nd ne⟩⟩
theorem NewE.mkN {pins : List (Addr × Obj)} {σ : L2.St} {H1 : Hp} {y : V} {a : Addr} {s' : Shared} {Q : XK} (M : ErrC X.K X.mg x g C fI) (N : NewE X pins σ H1 C g y a s') (z : ∀ d, H1 d = none → Q (.ref C) (some d) (upd H1 d (.xd [(g, y)]))) : L2N.MkP X pins σ Q (.ref a) s' := by
  obtain ⟨na, d, H2, nd, ne, rfl, I2, t0, G, J, kG, ge, hoe, nz⟩ := N
  exact ⟨a, _, _, _, _, .ref C, some d, rfl, J, kG, ge, hoe, ⟨rfl, rfl, fun vs e => by cases e; rfl⟩, rfl, rfl, nz, rfl, I2.bare, raises_own M.oex.exC M.oex.tyC, z d nd⟩
/-- raise C(e), raise C(g = e), where the context is kept as None -/
theorem pmkN_err (M : MkE X.prog X.w X.K X.mg X.base x g C fI) (hr : Rm k X.A) (ha : PA X [e] ta) (hk : 2 ≤ k := by omega) (hg : Gl X x := by rfl) (hdb : (x == ("__debug__" : Str)) = false := by decide)
    (he : starEach [e] X.env = (false, eval e X.env) :: starEach [] X.env := by rfl) (hpl : (backTo pos (starEach [] X.env)).any (·.1) = false := by rfl) : L2N.PMk X (.Call (.Name x p) [e] [] pos) (tMkR C g ta) :=
  fun pins s σ H Q I h => call_new M (hr.rm.mono hk) ha hg hdb he hpl I h fun y H1 a s' z N => N.mkN M.err z
theorem pmkN_errK (M : MkEK X.prog X.w X.K X.mg X.base x g C fI) (hr : Rm k X.A) (hkw : PK X kws tk) (hk : 2 ≤ k := by omega) (hg : Gl X x := by rfl) (hdb : (x == ("__debug__" : Str)) = false := by decide)
    (hall : (backToKw pos (keywordEach kws X.env)).all (·.1.isSome) = true := by rfl) (hks : (backToKw pos (keywordEach kws X.env)).filterMap (·.1) = [g] := by rfl)
    (hpl : ((backTo pos (starEach [] X.env)).any (·.1) || (backToKw pos (keywordEach kws X.env)).any (·.1.isNone)) = false := by rfl) : L2N.PMk X (.Call (.Name x p) [] kws pos) (tMkR C g tk) :=
  fun pins s σ H Q I h => call_newK M (hr.rm.mono hk) hkw hg hdb hall hks hpl I h fun y H1 a s' z N => N.mkN M.err z
end
end VB
/-! errors as values: bare ones, their fields, isinstance, raised with keywords -/
namespace VB
open PySem PySem.Spec PyProof.Rows L2
/-- a bare error class (no __init__ of its own) -/
structure BareC (K : PySem.W.Frag) (mg : Str → Option Value) (x : Str) (C : Addr) : Prop where
  q : PySem.W.excIn K C PySem.HandSPX.veTail "ValueError.__new__" = true
  gC : mg x = some (.ref C)
  kC : PySem.W.keepIn K (.ref C) = true
  exC : PySem.W.subIn K (.ref C) (.type "BaseException") = some true
  tyC : PySem.W.typeIn K (.ref C) = some (.type "type")
section
variable {X : Cx} {x g : Str} {C fI : Addr} {p pos : Pos} {e : Expr} {ta : TA}
theorem pe_exc0 (M : BareC X.K X.mg x C) (hg : Gl X x := by rfl) (hdb : (x == ("__debug__" : Str)) = false := by decide) :
    PE X (.Call (.Name x p) [] [] pos) (fun σ H Q => ∀ a, H a = none → Q (.ref a) (upd H a (ExO (.ref C) a))) := by
  refine ⟨fun pins s σ H Q I h => ?_⟩
  refine wpAny_Call_Name_kw (ld_glob I hg M.gC ?_ hdb)
  refine PySem.W.callWith_K0 I.kIn M.kC ?_
  obtain ⟨bm, N, nm, qn, bs, hdct, sn, sub, ab, col, dd, k0, k1, k2, k3, k5, mN, hC, hN, hni, T⟩ := exc_obj I.kIn M.q
  refine wpAny_call_exc_subT F.excBase_ValueError T hC hN hni (fun h' a hm => ?_) (Nat.zero_le _)
  have hn : H a = none := I.hok.gone hm.new
  obtain ⟨t, ht, _, _⟩ := hm.there
  exact ⟨.ref a, upd H a (ExO (.ref C) a), I.laidN hm.keeps hm.new hn (exO_ok ht ⟨rfl, rfl⟩ rfl rfl rfl (show 4 < 6 by decide)), rfl, h a hn⟩
/-- raise C() of a bare class, where the context is kept as None -/
theorem pmkN_exc0 (M : BareC X.K X.mg x C) (hg : Gl X x := by rfl) (hdb : (x == ("__debug__" : Str)) = false := by decide) :
    L2N.PMk X (.Call (.Name x p) [] [] pos) (fun _ H Q => Q (.ref C) none H) := by
  intro pins s σ H Q I h
  refine wpAny_Call_Name_kw (ld_glob I hg M.gC ?_ hdb)
  refine PySem.W.callWith_K0 I.kIn M.kC ?_
  obtain ⟨bm, N, nm, qn, bs, hdct, sn, sub, ab, col, dd, k0, k1, k2, k3, k5, mN, hC, hN, hni, T⟩ := exc_obj I.kIn M.q
  exact wpAny_call_exc_subT F.excBase_ValueError T hC hN hni (fun h' e hm => L2N.mk_of I hm (raises_own M.exC M.tyC) h (I.hok.gone hm.new)) (Nat.zero_le _)
/-! ### fields and isinstance of an error that is tracked, or pinned by the context -/
/-- a caught error that is kept: all but its class, its dict is left open -/
def erO (a C : Addr) (d : Option Addr) : HO := .ext fun h => ∃ (oe : Obj) (vs : Array Value), h.get? a = some oe ∧ Zc (.ref C) d oe ∧ oe.data = .fields vs
/-- an error of the class at C stands at a, its dict (none | at d) -/
def ErrAt (H : Hp) (a C : Addr) (d : Option Addr) : Prop := H a = some (exo a C d) ∨ H a = some (erO a C d) ∨ (d = none ∧ H a = some (ExO (.ref C) a))
def FldAt (H : Hp) (d : Addr) (fs : List (Str × V)) : Prop := H d = some (exd d fs) ∨ H d = some (.xd fs)
theorem ErrAt.ex {H H' : Hp} {a C : Addr} {d : Option Addr} (h : ErrAt H a C d) (e : Evl.Ex H H') : ErrAt H' a C d := by
  rcases h with h | h | ⟨h1, h⟩
  · exact .inl (e _ _ h)
  · exact .inr (.inl (e _ _ h))
  · exact .inr (.inr ⟨h1, e _ _ h⟩)
theorem FldAt.ex {H H' : Hp} {d : Addr} {fs : List (Str × V)} (h : FldAt H d fs) (e : Evl.Ex H H') : FldAt H' d fs := h.imp (e _ _) (e _ _)
theorem ErrAt.get {P : Program} {w : World} {H : Hp} {h : Heap} {a C : Addr} {d : Option Addr} (e : ErrAt H a C d) (hok : HOk P w H h) : ∃ (oe : Obj) (vs : Array Value), h.get? a = some oe ∧ Zc (.ref C) d oe ∧ oe.data = .fields vs := by
  rcases e with e | e | ⟨rfl, e⟩
  · obtain ⟨t1, z⟩ := exo_at hok e
    exact ⟨_, _, z, ⟨rfl, rfl⟩, rfl⟩
  · obtain ⟨z, _⟩ := hok a _ e
    exact z
  · obtain ⟨⟨oe, vs, z, zc, zd, _⟩, _⟩ := hok a _ e
    exact ⟨oe, vs, z, zc, zd⟩
theorem FldAt.get {P : Program} {w : World} {H : Hp} {h : Heap} {d : Addr} {fs : List (Str × V)} (e : FldAt H d fs) (hok : HOk P w H h) : ∃ mA, h.Ns1 d mA ∧ ∀ f, RelO (fs.lookup f) (mA f) := by
  rcases e with e | e
  · exact exd_at hok e
  · exact hok d _ e
/-- an error of the class at C: tracked, or one of the context's pins -/
def ErrP (pn : List (Addr × Obj)) (H : Hp) (a C : Addr) (d : Option Addr) : Prop := ErrAt H a C d ∨ ∃ (oe : Obj) (vs : Array Value), (a, oe) ∈ pn ∧ Zc (.ref C) d oe ∧ oe.data = .fields vs
theorem ErrP.ex {pn : List (Addr × Obj)} {H H' : Hp} {a C : Addr} {d : Option Addr} (h : ErrP pn H a C d) (e : Evl.Ex H H') : ErrP pn H' a C d := h.imp (fun z => z.ex e) fun z => z
theorem ErrP.get {X : Cx} {pins : List (Addr × Obj)} {σ : L2.St} {H : Hp} {s : Shared} {a C : Addr} {d : Option Addr} (e : ErrP X.pn H a C d) (I : Inv X pins σ H s) : ∃ (oe : Obj) (vs : Array Value), s.heap.get? a = some oe ∧ Zc (.ref C) d oe ∧ oe.data = .fields vs := by
  rcases e with e | ⟨oe, vs, hp, z, hd⟩
  · exact e.get I.hok
  · exact ⟨oe, vs, (I.pin (a, oe) (List.mem_append_left _ hp)).1, z, hd⟩
/-- e.f, e a tracked error -/
def tEf (K : PySem.W.Frag) (pn : List (Addr × Obj)) (f : Str) (te : TE) : TE := fun σ H Q => te σ H fun x H1 => ∃ (a C d : Addr) (fs : List (Str × V)) (v : V), x = .ref a ∧ XfC K C ∧ PySem.W.findIn K (.ref C) f = some none ∧ ErrP pn H1 a C (some d) ∧ FldAt H1 d fs ∧ fs.lookup f = some v ∧ Q v H1
theorem pe_ef {te : TE} {n : Str} (he : PE X e te) (hb : attributeBase e n X.env (eval e X.env) = eval e X.env := by rfl) : PE X (.Attribute e n pos) (tEf X.K X.pn n te) := by
  refine ⟨fun pins s σ H Q I h => ?_⟩
  refine attr_of hb (thn (he.run pins s σ H _ I h) fun u s1 hh => ?_)
  obtain ⟨x, H1, I1, rx, a, C, d, fs, v, ex, T, hno, ea, ed, l, q⟩ := hh
  subst ex
  obtain rfl : u = Value.ref a := rx
  obtain ⟨oe, vs, ha, hz, hd⟩ := ea.get I1
  obtain ⟨mA, hns, hr⟩ := ed.get I1.hok
  obtain ⟨od, ho, hl⟩ := lookIn_ns hns
  obtain ⟨u, hu, ru⟩ := RelO.some_of (v := v) (o := mA n) (by rw [← l]; exact hr n)
  have J : PySem.W.InstAt s1.heap a oe C (some od) := ⟨ha, hz.1, by unfold PySem.W.notCls; rw [hd] <;> rfl, by rw [hz.2]; exact ho⟩
  exact HandSPX.exc_get I1.kIn J T.ga T.gg T.exC (PySem.W.findObj_own T.hdC hno rfl (by rw [hl, hu])) (handed_of ru) ⟨v, H1, I1.tok _, ru, q⟩
/-- what isinstance asks of instances of the error class D -/
structure IsX (K : PySem.W.Frag) (D : Addr) : Prop where
  ha : PySem.W.findIn K (.ref D) "__class__" = some (some (.builtin "object.__class__"))
  hn : PySem.W.specialIn K (.builtin "object.__class__") "__get__" = some (some (.builtin "getset_descriptor.__get__"))
  ht : PySem.W.takesIn K (.builtin "object.__class__") = some true
  hm : PySem.W.mroIn K D (.type "object") = some true
def isXB (K : PySem.W.Frag) (D : Addr) : Bool := decide (PySem.W.findIn K (.ref D) "__class__" = some (some (.builtin "object.__class__"))) && (decide (PySem.W.specialIn K (.builtin "object.__class__") "__get__" = some (some (.builtin "getset_descriptor.__get__"))) && (decide (PySem.W.takesIn K (.builtin "object.__class__") = some true) &&
  decide (PySem.W.mroIn K D (.type "object") = some true)))
theorem isXB_ok {K : PySem.W.Frag} {D : Addr} (h : isXB K D = true) : IsX K D := by
  unfold isXB at h
  obtain ⟨h1, h⟩ := Bool.and_eq_true_iff.mp h
  obtain ⟨h2, h⟩ := Bool.and_eq_true_iff.mp h
  obtain ⟨h3, h4⟩ := Bool.and_eq_true_iff.mp h
  exact ⟨of_decide_eq_true h1, of_decide_eq_true h2, of_decide_eq_true h3, of_decide_eq_true h4⟩
/-- isinstance(e, c), e a tracked error -/
def rIsX (K : PySem.W.Frag) (pn : List (Addr × Obj)) : List V → Hp → VK → Prop := fun xs H Q => ∃ (a D : Addr) (d : Option Addr) (c : V) (cv : Value) (b : Bool), xs = [.ref a, c] ∧ XfC K D ∧ IsX K D ∧ ErrP pn H a D d ∧ (∀ dd, d = some dd → ∃ fs, FldAt H dd fs) ∧ (∀ u, RelV c u → u = cv) ∧ PySem.W.kitOne K (.ref D) cv = some b ∧ Q (.bl b) H
theorem call_isX : CallR X (.builtin "isinstance") (rIsX X.K X.pn) := by
  intro pins s σ H xs us Q I r h
  obtain ⟨a, D, d, c, cv, b, rfl, T, C, ea, ed, hcv, kit, q⟩ := h
  cases r with
  | cons rx rr =>
    cases rr with
    | cons rt rr =>
      cases rr
      cases rx
      have ec := hcv _ rt
      subst ec
      obtain ⟨oe, vs, ha, hz, hd⟩ := ea.get I
      have hcl : (PySem.W.clsIn X.K D).isSome = true := by
        obtain ⟨cd, hc, _⟩ := PySem.W.any_some T.hdC
        rw [hc]
        rfl
      have J : ∃ od, PySem.W.InstAt s.heap a oe D od := by
        cases d with
        | none => exact ⟨none, ha, hz.1, by unfold PySem.W.notCls; rw [hd] <;> rfl, by rw [hz.2]; trivial⟩
        | some dd =>
          obtain ⟨fs, ef⟩ := ed dd rfl
          obtain ⟨mA, hns, hr⟩ := ef.get I.hok
          obtain ⟨od, ho, hl⟩ := lookIn_ns hns
          exact ⟨some od, ha, hz.1, by unfold PySem.W.notCls; rw [hd] <;> rfl, by rw [hz.2]; exact ho⟩
      obtain ⟨od, J⟩ := J
      exact PySem.W.kia_one (PySem.W.kitx_exc hcl T.ga T.gg T.exC C.ha C.hn C.ht C.hm) I.kIn J kit (fun z => nomatch z) fun tk => ⟨.bl b, H, I.kept (t' := tk) fun _ _ z => z, rfl, q⟩
end
end VB
/-! what is looked at of the error classes: names, and the Bool -/
namespace K0
open PySem PySem.Spec PyProof.Rows L2 VB
abbrev Er (K : PySem.W.Frag) (x : Str) : Addr := He.ga K x
abbrev nmE : List Str := ["InvalidOctets", "InvalidCount", "InvalidNumber", "InvalidMask", "InvalidOp", "InvalidBlock", "InvalidPage", "InvalidShape", "InvalidImage", "InvalidData", "InvalidRecord", "InvalidPath", "InvalidDeed", "InvalidLine", "InvalidScript", "InvalidTree", "InvalidChip", "InvalidRecords", "InvalidName", "InvalidPlans", "PowerCut", "TooMany", "NoThing", "NotReady", "NoRoom", "NothingToUndo"]
abbrev flE : List Str := ["given", "given", "given", "given", "given", "given", "given", "given", "given", "given", "given", "given", "given", "given", "given", "given", "given", "given", "given", "given", "op", "count", "name"]
abbrev nm (i : Nat) : Str := nmE.getD i ""
abbrev fl (i : Nat) : Str := flE.getD i ""
abbrev wayE : List Nat := [3, 20, 15, 24, 17, 22]
abbrev ixE (way : Nat) : Nat := wayE.getD way 0
abbrev i8 : List Nat := [2, 4, 16, 23, 10, 18, 21, 25]
abbrev i6 : List Nat := [3, 20, 15, 24, 17, 22]
def bareB (K : PySem.W.Frag) (x : Str) : Bool := PySem.W.excIn K (Er K x) PySem.HandSPX.veTail "ValueError.__new__" && (PySem.W.keepIn K (.ref (Er K x)) && (decide (PySem.W.subIn K (.ref (Er K x)) (.type "BaseException") = some true) && decide (PySem.W.typeIn K (.ref (Er K x)) = some (.type "type"))))
def kitB (K : PySem.W.Frag) (i : Nat) : Bool := (List.range 26).all fun j => decide (PySem.W.kitOne K (.ref (Er K (nm i))) (.ref (Er K (nm j))) = some (decide (i = j)))
def oneB (K : PySem.W.Frag) (i : Nat) : Bool := xfB K (Er K (nm i)) && (isXB K (Er K (nm i)) && (kitB K i && (decide (PySem.W.kitOne K (.ref (Er K (nm i))) (.ref (Er K "FlashError")) = some true) && decide (PySem.W.kitOne K (.ref (Er K (nm i))) (.type "ValueError") = some true))))
def wayB (K : PySem.W.Frag) (way : Nat) : Bool := decide (PySem.W.exmOne K (.ref (Er K (nm (ixE way)))) (.ref (Er K "FlashError")) = some true) && (decide (PySem.W.exmAny K (.ref (Er K (nm (ixE way)))) ((i8.map fun i => Er K (nm i)).map .ref) = some false) && decide (PySem.W.exmAny K (.ref (Er K (nm (ixE way)))) ((i6.map fun i => Er K (nm i)).map .ref) = some true))
def allB (K : PySem.W.Frag) : Bool := ((List.range 26).all (oneB K)) && (((List.range 23).all fun i => errB K (nm i) (fl i)) && (((List.range 3).all fun i => bareB K (nm (23 + i))) && (List.range 6).all (wayB K)))
end K0
namespace K0
open PySem PySem.Spec PyProof.Rows L2 VB
abbrev s_InvalidOctets____init__ : Stmt := mtop 2 0
theorem sc_InvalidOctets____init__ : FnScope ["self", "given"] ["self", "given"] (defScope s_InvalidOctets____init__) := ⟨rfl, rfl, rfl, by decide +kernel, rfl, by decide +kernel, by decide +kernel⟩
abbrev s_InvalidCount____init__ : Stmt := mtop 3 0
theorem sc_InvalidCount____init__ : FnScope ["self", "given"] ["self", "given"] (defScope s_InvalidCount____init__) := ⟨rfl, rfl, rfl, by decide +kernel, rfl, by decide +kernel, by decide +kernel⟩
abbrev s_InvalidNumber____init__ : Stmt := mtop 4 0
theorem sc_InvalidNumber____init__ : FnScope ["self", "given"] ["self", "given"] (defScope s_InvalidNumber____init__) := ⟨rfl, rfl, rfl, by decide +kernel, rfl, by decide +kernel, by decide +kernel⟩
abbrev s_InvalidMask____init__ : Stmt := mtop 5 0
theorem sc_InvalidMask____init__ : FnScope ["self", "given"] ["self", "given"] (defScope s_InvalidMask____init__) := ⟨rfl, rfl, rfl, by decide +kernel, rfl, by decide +kernel, by decide +kernel⟩
abbrev s_InvalidOp____init__ : Stmt := mtop 6 0
theorem sc_InvalidOp____init__ : FnScope ["self", "given"] ["self", "given"] (defScope s_InvalidOp____init__) := ⟨rfl, rfl, rfl, by decide +kernel, rfl, by decide +kernel, by decide +kernel⟩
abbrev s_InvalidBlock____init__ : Stmt := mtop 7 0
theorem sc_InvalidBlock____init__ : FnScope ["self", "given"] ["self", "given"] (defScope s_InvalidBlock____init__) := ⟨rfl, rfl, rfl, by decide +kernel, rfl, by decide +kernel, by decide +kernel⟩
abbrev s_InvalidPage____init__ : Stmt := mtop 8 0
theorem sc_InvalidPage____init__ : FnScope ["self", "given"] ["self", "given"] (defScope s_InvalidPage____init__) := ⟨rfl, rfl, rfl, by decide +kernel, rfl, by decide +kernel, by decide +kernel⟩
abbrev s_InvalidShape____init__ : Stmt := mtop 9 0
theorem sc_InvalidShape____init__ : FnScope ["self", "given"] ["self", "given"] (defScope s_InvalidShape____init__) := ⟨rfl, rfl, rfl, by decide +kernel, rfl, by decide +kernel, by decide +kernel⟩
abbrev s_InvalidImage____init__ : Stmt := mtop 10 0
theorem sc_InvalidImage____init__ : FnScope ["self", "given"] ["self", "given"] (defScope s_InvalidImage____init__) := ⟨rfl, rfl, rfl, by decide +kernel, rfl, by decide +kernel, by decide +kernel⟩
abbrev s_InvalidData____init__ : Stmt := mtop 11 0
theorem sc_InvalidData____init__ : FnScope ["self", "given"] ["self", "given"] (defScope s_InvalidData____init__) := ⟨rfl, rfl, rfl, by decide +kernel, rfl, by decide +kernel, by decide +kernel⟩
abbrev s_InvalidRecord____init__ : Stmt := mtop 12 0
theorem sc_InvalidRecord____init__ : FnScope ["self", "given"] ["self", "given"] (defScope s_InvalidRecord____init__) := ⟨rfl, rfl, rfl, by decide +kernel, rfl, by decide +kernel, by decide +kernel⟩
abbrev s_InvalidPath____init__ : Stmt := mtop 13 0
theorem sc_InvalidPath____init__ : FnScope ["self", "given"] ["self", "given"] (defScope s_InvalidPath____init__) := ⟨rfl, rfl, rfl, by decide +kernel, rfl, by decide +kernel, by decide +kernel⟩
abbrev s_InvalidDeed____init__ : Stmt := mtop 14 0
theorem sc_InvalidDeed____init__ : FnScope ["self", "given"] ["self", "given"] (defScope s_InvalidDeed____init__) := ⟨rfl, rfl, rfl, by decide +kernel, rfl, by decide +kernel, by decide +kernel⟩
abbrev s_InvalidLine____init__ : Stmt := mtop 15 0
theorem sc_InvalidLine____init__ : FnScope ["self", "given"] ["self", "given"] (defScope s_InvalidLine____init__) := ⟨rfl, rfl, rfl, by decide +kernel, rfl, by decide +kernel, by decide +kernel⟩
abbrev s_InvalidScript____init__ : Stmt := mtop 16 0
theorem sc_InvalidScript____init__ : FnScope ["self", "given"] ["self", "given"] (defScope s_InvalidScript____init__) := ⟨rfl, rfl, rfl, by decide +kernel, rfl, by decide +kernel, by decide +kernel⟩
abbrev s_InvalidTree____init__ : Stmt := mtop 17 0
theorem sc_InvalidTree____init__ : FnScope ["self", "given"] ["self", "given"] (defScope s_InvalidTree____init__) := ⟨rfl, rfl, rfl, by decide +kernel, rfl, by decide +kernel, by decide +kernel⟩
abbrev s_InvalidChip____init__ : Stmt := mtop 18 0
theorem sc_InvalidChip____init__ : FnScope ["self", "given"] ["self", "given"] (defScope s_InvalidChip____init__) := ⟨rfl, rfl, rfl, by decide +kernel, rfl, by decide +kernel, by decide +kernel⟩
abbrev s_InvalidRecords____init__ : Stmt := mtop 19 0
theorem sc_InvalidRecords____init__ : FnScope ["self", "given"] ["self", "given"] (defScope s_InvalidRecords____init__) := ⟨rfl, rfl, rfl, by decide +kernel, rfl, by decide +kernel, by decide +kernel⟩
abbrev s_InvalidName____init__ : Stmt := mtop 20 0
theorem sc_InvalidName____init__ : FnScope ["self", "given"] ["self", "given"] (defScope s_InvalidName____init__) := ⟨rfl, rfl, rfl, by decide +kernel, rfl, by decide +kernel, by decide +kernel⟩
abbrev s_InvalidPlans____init__ : Stmt := mtop 21 0
theorem sc_InvalidPlans____init__ : FnScope ["self", "given"] ["self", "given"] (defScope s_InvalidPlans____init__) := ⟨rfl, rfl, rfl, by decide +kernel, rfl, by decide +kernel, by decide +kernel⟩
abbrev s_PowerCut____init__ : Stmt := mtop 22 0
theorem sc_PowerCut____init__ : FnScope ["self", "op"] ["self", "op"] (defScope s_PowerCut____init__) := ⟨rfl, rfl, rfl, by decide +kernel, rfl, by decide +kernel, by decide +kernel⟩
abbrev s_TooMany____init__ : Stmt := mtop 23 0
theorem sc_TooMany____init__ : FnScope ["self", "count"] ["self", "count"] (defScope s_TooMany____init__) := ⟨rfl, rfl, rfl, by decide +kernel, rfl, by decide +kernel, by decide +kernel⟩
abbrev s_NoThing____init__ : Stmt := mtop 24 0
theorem sc_NoThing____init__ : FnScope ["self", "name"] ["self", "name"] (defScope s_NoThing____init__) := ⟨rfl, rfl, rfl, by decide +kernel, rfl, by decide +kernel, by decide +kernel⟩
end K0
/-! the ends -/
namespace VB
open PySem PySem.Spec PyProof.Rows L2
theorem vals_getD {zs : List V} {ws : List Value} (h : Vals zs ws) : ∀ i : Nat, RelV (zs.getD i .non) (ws.getD i .none) := by
  induction h with
  | nil =>
    intro i
    exact rfl
  | cons r _ ih =>
    intro i
    cases i with
    | zero => exact r
    | succ i => exact ih i
theorem kb_of {K : PySem.W.Frag} {x qual : Str} {params : Arguments} {body : List Stmt} {scope : Scope} {kws : List (Str × V)} {f : Addr} {fd : FuncData} {ps ks : List Str} {n : Nat}
    {g : List Value → List Value → List Value} {gV : List V → List V → List V} (F : FunD K x qual params body scope [] kws f fd)
    (hrel : ∀ {vs : List V} {us : List Value} {zs : List V} {ws : List Value}, Vals vs us → Vals zs ws → Vals (gV vs zs) (g us ws))
    (h : ∀ (kV doc pm : Value) (an : Option Addr) (cdv ct : Value) (us ws : List Value), us.length = n → ws.length = ks.length → bindArgs (PySem.W.fnOf x qual params body scope .none kV doc pm an cdv ct) ⟨us, ks.zip ws⟩ = pure (ps.zip (g us ws))) :
    KBn K fd ps n ks g gV := by
  obtain ⟨oc, od, dV, kV, doc, pm, an, cdv, ct, osl, rfl, lk, hcd, hD, hK⟩ := F.ex
  rcases hD with ⟨_, rfl⟩ | ⟨e, _⟩
  · exact ⟨fun s us ws _ l1 l2 => .of_eq (h kV doc pm an cdv ct us ws l1 l2), fun r1 r2 => hrel r1 r2⟩
  · exact absurd rfl e
end VB
namespace K0
open PySem PySem.Spec PyProof.Rows L2 VB
def d__law_box : He.DefD := ⟨("_law_box", none), "_law_box", "_law_box", defArgs s__law_box, defBody s__law_box, defScope s__law_box, [], []⟩
def d__law_cell : He.DefD := ⟨("_law_cell", none), "_law_cell", "_law_cell", defArgs s__law_cell, defBody s__law_cell, defScope s__law_cell, [], []⟩
def d__law_sorts : He.DefD := ⟨("_law_sorts", none), "_law_sorts", "_law_sorts", defArgs s__law_sorts, defBody s__law_sorts, defScope s__law_sorts, [], []⟩
def d__law_is : He.DefD := ⟨("_law_is", none), "_law_is", "_law_is", defArgs s__law_is, defBody s__law_is, defScope s__law_is, [], []⟩
def d__law_take : He.DefD := ⟨("_law_take", none), "_law_take", "_law_take", defArgs s__law_take, defBody s__law_take, defScope s__law_take, [], []⟩
def d__law_thing : He.DefD := ⟨("_law_thing", none), "_law_thing", "_law_thing", defArgs s__law_thing, defBody s__law_thing, defScope s__law_thing, [], []⟩
def d__law_by_place : He.DefD := ⟨("_law_by_place", none), "_law_by_place", "_law_by_place", defArgs s__law_by_place, defBody s__law_by_place, defScope s__law_by_place, [], []⟩
def d__law_by_name : He.DefD := ⟨("_law_by_name", none), "_law_by_name", "_law_by_name", defArgs s__law_by_name, defBody s__law_by_name, defScope s__law_by_name, [], []⟩
def d__law_kept : He.DefD := ⟨("_law_kept", none), "_law_kept", "_law_kept", defArgs s__law_kept, defBody s__law_kept, defScope s__law_kept, [], []⟩
def d__law_all_right : He.DefD := ⟨("_law_all_right", none), "_law_all_right", "_law_all_right", defArgs s__law_all_right, defBody s__law_all_right, defScope s__law_all_right, [], []⟩
def d__law_raised : He.DefD := ⟨("_law_raised", none), "_law_raised", "_law_raised", defArgs s__law_raised, defBody s__law_raised, defScope s__law_raised, [], []⟩
def d__law_caught : He.DefD := ⟨("_law_caught", none), "_law_caught", "_law_caught", defArgs s__law_caught, defBody s__law_caught, defScope s__law_caught, [], []⟩
def d__law_very_right : He.DefD := ⟨("_law_very_right", none), "_law_very_right", "_law_very_right", defArgs s__law_very_right, defBody s__law_very_right, defScope s__law_very_right, [], []⟩
def d_law : He.DefD := ⟨("law", none), "law", "law", defArgs s_law, defBody s_law, defScope s_law, [], []⟩
def d_InvalidOctets____init__ : He.DefD := ⟨("InvalidOctets", some "__init__"), "__init__", "InvalidOctets.__init__", defArgs s_InvalidOctets____init__, defBody s_InvalidOctets____init__, defScope s_InvalidOctets____init__, [], []⟩
def d_InvalidCount____init__ : He.DefD := ⟨("InvalidCount", some "__init__"), "__init__", "InvalidCount.__init__", defArgs s_InvalidCount____init__, defBody s_InvalidCount____init__, defScope s_InvalidCount____init__, [], []⟩
def d_InvalidNumber____init__ : He.DefD := ⟨("InvalidNumber", some "__init__"), "__init__", "InvalidNumber.__init__", defArgs s_InvalidNumber____init__, defBody s_InvalidNumber____init__, defScope s_InvalidNumber____init__, [], []⟩
def d_InvalidMask____init__ : He.DefD := ⟨("InvalidMask", some "__init__"), "__init__", "InvalidMask.__init__", defArgs s_InvalidMask____init__, defBody s_InvalidMask____init__, defScope s_InvalidMask____init__, [], []⟩
def d_InvalidOp____init__ : He.DefD := ⟨("InvalidOp", some "__init__"), "__init__", "InvalidOp.__init__", defArgs s_InvalidOp____init__, defBody s_InvalidOp____init__, defScope s_InvalidOp____init__, [], []⟩
def d_InvalidBlock____init__ : He.DefD := ⟨("InvalidBlock", some "__init__"), "__init__", "InvalidBlock.__init__", defArgs s_InvalidBlock____init__, defBody s_InvalidBlock____init__, defScope s_InvalidBlock____init__, [], []⟩
def d_InvalidPage____init__ : He.DefD := ⟨("InvalidPage", some "__init__"), "__init__", "InvalidPage.__init__", defArgs s_InvalidPage____init__, defBody s_InvalidPage____init__, defScope s_InvalidPage____init__, [], []⟩
def d_InvalidShape____init__ : He.DefD := ⟨("InvalidShape", some "__init__"), "__init__", "InvalidShape.__init__", defArgs s_InvalidShape____init__, defBody s_InvalidShape____init__, defScope s_InvalidShape____init__, [], []⟩
def d_InvalidImage____init__ : He.DefD := ⟨("InvalidImage", some "__init__"), "__init__", "InvalidImage.__init__", defArgs s_InvalidImage____init__, defBody s_InvalidImage____init__, defScope s_InvalidImage____init__, [], []⟩
def d_InvalidData____init__ : He.DefD := ⟨("InvalidData", some "__init__"), "__init__", "InvalidData.__init__", defArgs s_InvalidData____init__, defBody s_InvalidData____init__, defScope s_InvalidData____init__, [], []⟩
def d_InvalidRecord____init__ : He.DefD := ⟨("InvalidRecord", some "__init__"), "__init__", "InvalidRecord.__init__", defArgs s_InvalidRecord____init__, defBody s_InvalidRecord____init__, defScope s_InvalidRecord____init__, [], []⟩
def d_InvalidPath____init__ : He.DefD := ⟨("InvalidPath", some "__init__"), "__init__", "InvalidPath.__init__", defArgs s_InvalidPath____init__, defBody s_InvalidPath____init__, defScope s_InvalidPath____init__, [], []⟩
def d_InvalidDeed____init__ : He.DefD := ⟨("InvalidDeed", some "__init__"), "__init__", "InvalidDeed.__init__", defArgs s_InvalidDeed____init__, defBody s_InvalidDeed____init__, defScope s_InvalidDeed____init__, [], []⟩
def d_InvalidLine____init__ : He.DefD := ⟨("InvalidLine", some "__init__"), "__init__", "InvalidLine.__init__", defArgs s_InvalidLine____init__, defBody s_InvalidLine____init__, defScope s_InvalidLine____init__, [], []⟩
def d_InvalidScript____init__ : He.DefD := ⟨("InvalidScript", some "__init__"), "__init__", "InvalidScript.__init__", defArgs s_InvalidScript____init__, defBody s_InvalidScript____init__, defScope s_InvalidScript____init__, [], []⟩
def d_InvalidTree____init__ : He.DefD := ⟨("InvalidTree", some "__init__"), "__init__", "InvalidTree.__init__", defArgs s_InvalidTree____init__, defBody s_InvalidTree____init__, defScope s_InvalidTree____init__, [], []⟩
def d_InvalidChip____init__ : He.DefD := ⟨("InvalidChip", some "__init__"), "__init__", "InvalidChip.__init__", defArgs s_InvalidChip____init__, defBody s_InvalidChip____init__, defScope s_InvalidChip____init__, [], []⟩
def d_InvalidRecords____init__ : He.DefD := ⟨("InvalidRecords", some "__init__"), "__init__", "InvalidRecords.__init__", defArgs s_InvalidRecords____init__, defBody s_InvalidRecords____init__, defScope s_InvalidRecords____init__, [], []⟩
def d_InvalidName____init__ : He.DefD := ⟨("InvalidName", some "__init__"), "__init__", "InvalidName.__init__", defArgs s_InvalidName____init__, defBody s_InvalidName____init__, defScope s_InvalidName____init__, [], []⟩
def d_InvalidPlans____init__ : He.DefD := ⟨("InvalidPlans", some "__init__"), "__init__", "InvalidPlans.__init__", defArgs s_InvalidPlans____init__, defBody s_InvalidPlans____init__, defScope s_InvalidPlans____init__, [], []⟩
def d_PowerCut____init__ : He.DefD := ⟨("PowerCut", some "__init__"), "__init__", "PowerCut.__init__", defArgs s_PowerCut____init__, defBody s_PowerCut____init__, defScope s_PowerCut____init__, [], []⟩
def d_TooMany____init__ : He.DefD := ⟨("TooMany", some "__init__"), "__init__", "TooMany.__init__", defArgs s_TooMany____init__, defBody s_TooMany____init__, defScope s_TooMany____init__, [], []⟩
def d_NoThing____init__ : He.DefD := ⟨("NoThing", some "__init__"), "__init__", "NoThing.__init__", defArgs s_NoThing____init__, defBody s_NoThing____init__, defScope s_NoThing____init__, [], []⟩
def fnl : List He.DefD := [d__law_box, d__law_cell, d__law_sorts, d__law_is, d__law_take, d__law_thing, d__law_by_place, d__law_by_name, d__law_kept, d__law_all_right, d__law_raised, d__law_caught, d__law_very_right, d_law, d_InvalidOctets____init__, d_InvalidCount____init__, d_InvalidNumber____init__, d_InvalidMask____init__, d_InvalidOp____init__, d_InvalidBlock____init__, d_InvalidPage____init__, d_InvalidShape____init__, d_InvalidImage____init__, d_InvalidData____init__, d_InvalidRecord____init__, d_InvalidPath____init__, d_InvalidDeed____init__, d_InvalidLine____init__, d_InvalidScript____init__, d_InvalidTree____init__, d_InvalidChip____init__, d_InvalidRecords____init__, d_InvalidName____init__, d_InvalidPlans____init__, d_PowerCut____init__, d_TooMany____init__, d_NoThing____init__]
def fal : List He.Fa := [.glo "_law_box", .glo "_law_cell", .glo "_law_sorts", .glo "_law_is", .glo "_law_take", .glo "_law_thing", .glo "_law_by_place", .glo "_law_by_name", .glo "_law_kept", .glo "_law_all_right", .glo "_law_raised", .glo "_law_caught", .glo "_law_very_right", .glo "law", .free "ValueError", .free "abs", .free "dict", .free "int", .free "isinstance", .free "len", .free "max", .free "min", .free "range", .free "repr", .free "sum", .glo "FlashError", .glo "InvalidBlock", .glo "InvalidChip", .glo "InvalidCount", .glo "InvalidData", .glo "InvalidDeed", .glo "InvalidImage", .glo "InvalidLine", .glo "InvalidMask", .glo "InvalidName", .glo "InvalidNumber", .glo "InvalidOctets", .glo "InvalidOp", .glo "InvalidPage", .glo "InvalidPath", .glo "InvalidPlans", .glo "InvalidRecord", .glo "InvalidRecords", .glo "InvalidScript", .glo "InvalidShape", .glo "InvalidTree", .glo "NoRoom", .glo "NoThing", .glo "NotReady", .glo "NothingToUndo", .glo "PowerCut", .glo "TooMany", .glo "InvalidOctets", .glo "InvalidCount", .glo "InvalidNumber", .glo "InvalidMask", .glo "InvalidOp", .glo "InvalidBlock", .glo "InvalidPage", .glo "InvalidShape", .glo "InvalidImage", .glo "InvalidData", .glo "InvalidRecord", .glo "InvalidPath", .glo "InvalidDeed", .glo "InvalidLine", .glo "InvalidScript", .glo "InvalidTree", .glo "InvalidChip", .glo "InvalidRecords", .glo "InvalidName", .glo "InvalidPlans", .glo "PowerCut", .glo "TooMany", .glo "NoThing", .glo "NotReady", .glo "NoRoom", .glo "NothingToUndo"]
abbrev Rw : PySem.W.OpenRow := PySem.W.OpenLaw.row PySem.Challenge.rw_onewaybits_k00_errors
def exB (K : PySem.W.Frag) : Bool := allB K
abbrev hk : PySem.W.Hook := He.hookX 6 fal fnl [] [] exB
def ob (s : PySem.W.SharedT) : He.AlX := He.obsX 6 fal fnl [] [] exB (HandSHeadRun.getT s)
theorem ob_eq (s : PySem.W.SharedT) : ob s = hk.obs s.abs := He.obsX_eq (HandSHeadRun.getT_eq s)
def ln0 : List Str := ["FlashError", "InvalidOctets", "InvalidCount", "InvalidNumber", "InvalidMask", "InvalidOp", "InvalidBlock", "InvalidPage", "InvalidShape", "InvalidImage", "InvalidData", "InvalidRecord", "InvalidPath", "InvalidDeed", "InvalidLine", "InvalidScript", "InvalidTree", "InvalidChip", "InvalidRecords", "InvalidName", "InvalidPlans", "PowerCut", "TooMany", "NoThing", "NotReady", "NoRoom", "NothingToUndo", "_law_cell", "_law_box", "_law_take"]
def ln1 : List Str := ["_law_by_place", "_law_by_name", "_law_sorts", "_law_is", "_law_kept", "_law_thing", "_law_all_right", "_law_raised", "_law_caught", "_law_very_right"]
abbrev lns : List Str := ln0 ++ ln1
theorem run (w : World) : HandSHeadRun.RunEq Rw (PySem.W.view Rw.prog [42]) hk ob 30000 lns w := by
  intro os
  kernel_rfl
end K0
namespace K0
open PySem PySem.Spec PyProof.Rows L2 VB BM
section
variable {P : Program} {w : World} {K : PySem.W.Frag} {mg : Str → Option Value} {base : Heap} {f : Addr} {fd : FuncData}
def spTake : Sp := fun vs H Q _ => ∃ (a : Addr) (many n : Int), vs = [.ref a, .int many] ∧ Box H a n ∧ 0 < many ∧ many < 2000000 ∧ n < 100000000 ∧
  ∀ (r : Int) (H' : Hp), 0 ≤ r → r < many → Exb a H H' → Box H' a (n + 1) → Q (.int r) H'
theorem ok_take (T : Txt K mg) (F : FnP K "_law_take" s__law_take f fd) : Fg P w K mg base CX0 1 f fd ["_law_box_here", "_law_many"] spTake := by
  refine fg_of F sc__law_take (fun vs H Q E h => ?_) (fun cdv A outer s H vs Q E hr h => ⟨_, (PSs.nox (pss_cons (ps_if (PW.pt (pw_and (pt_tru (K := K) (pe_ix (u_ix (K := K)) (pv 0) pe_int (fun _ _ => rfl)) (by intro _; rfl)) (pw_and1 (pt_cmpR op_gt (pe_ix (u_ix (K := K)) (pv 0) pe_int (fun _ _ => rfl)) pe_int (nomark _)))))
  (pss_cons (ps_set (i := 2) sc__law_take.nd rfl (by first | exact Or.inl rfl | exact Or.inr rfl) (pe_op u_mod (pe_callTy call_int1 (by rfl) T.f_int (by decide +kernel) (pa_cons (pe_ix (u_ix (K := K)) (pv 0) pe_int (fun _ _ => rfl)) pa_nil)) (pv 1)))
  (pss_cons (ps_asg (pe_op u_fdiv (pe_ix (u_ix (K := K)) (pv 0) pe_int (fun _ _ => rfl)) (pv 1)) (pg_sub (pv 0) pe_int set_list))
  (pss_one (ps_ret (pv 2))))) pss_nil)
  (pss_cons (ps_asg (pe_op (u_add (K := K)) (pe_ix (u_ix (K := K)) (pv 0) pe_int (fun _ _ => rfl)) pe_int) (pg_sub (pv 0) pe_int set_list))
  (pss_cons (ps_set (i := 3) sc__law_take.nd rfl (by first | exact Or.inl rfl | exact Or.inr rfl) (pe_op u_mod (pe_callTy call_int1 (by rfl) T.f_int (by decide +kernel) (pa_cons (pe_op op_pow (pe_op (u_add (K := K)) (pe_op (u_add (K := K)) (pe_ix (u_ix (K := K)) (pv 0) pe_int (fun _ _ => rfl)) (pe_op (u_mul (K := K)) pe_int (pe_ix (u_ix (K := K)) (pv 0) pe_int (fun _ _ => rfl)))) pe_int) pe_int) pa_nil)) pe_int))
  (pss_one (ps_ret (pe_op u_mod (pe_op u_fdiv (pe_op u_mod (pe_callTy call_int1 (by rfl) T.f_int (by decide +kernel) (pa_cons (pe_op op_pow (pe_op (u_add (K := K)) (pe_op (u_mul (K := K)) (pv 3) pe_int) (pe_op (u_mul (K := K)) pe_int (pe_ix (u_ix (K := K)) (pv 0) pe_int (fun _ _ => rfl)))) pe_int) pa_nil)) pe_int) pe_int) (pv 1)))))))), ?_⟩)
  · obtain ⟨a, many, n, rfl, _⟩ := h
    rfl
  · obtain ⟨a, many, n, rfl, ⟨d, m, c, b, hb, hd, hm, hm2, hc, hc2⟩, h1, h2, hn, q⟩ := h
    have S : SqL K H a [.int d, .bl b, .int m, .int c] := SqL.of hb
    -- the digits' way
    have A1 : b = true → 0 < d → Q (.int (d % many)) (upd H a (.lst [.int (d / many), .bl b, .int m, .int c])) := by
      intro _ _
      refine q _ _ (Int.emod_nonneg _ (by omega)) (Int.emod_lt_of_pos _ h1) Exb.upd ⟨d / many, m, c, b, upd_same, Int.ediv_nonneg hd (by omega), hm, hm2, hc, by omega⟩
    -- the mixed way
    have A2 : ∀ z : Int, Q (.int (z % many)) (upd H a (.lst [.int d, .bl b, .int m, .int (c + 1)])) := by
      intro z
      exact q _ _ (Int.emod_nonneg _ (by omega)) (Int.emod_lt_of_pos _ h1) Exb.upd ⟨d, m, c + 1, b, upd_same, hd, hm, hm2, by omega, by omega⟩
    have S1 : SqL K (upd H a (.lst [.int d, .bl b, .int m, .int (c + 1)])) a [.int d, .bl b, .int m, .int (c + 1)] := SqL.of upd_same
    have k1 : CMulX 15485867 (c + 1) := mulx_ok (a := 30) (b := 30) (by decide) (by show _ < 1073741824; omega) (by decide)
    have k2 : ∀ x : Int, 0 ≤ x → x < 2147483647 → CMulX x 48271 := fun x _ _ => mulx_ok (a := 32) (b := 20) (by show _ < 4294967296; omega) (by decide) (by decide)
    have k3 : CMulX 7919 (c + 1) := mulx_ok (a := 30) (b := 30) (by decide) (by show _ < 1073741824; omega) (by decide)
    have p1 : CPow (m + 15485867 * (c + 1) + 179425033) 5 := ⟨by decide, by decide, by show _ < 18446744073709551616; omega⟩
    have p2 : ∀ x : Int, 0 ≤ x → x < 2147483647 → CPow (x * 48271 + 7919 * (c + 1)) 3 := fun x _ _ => ⟨by decide, by decide, by show _ < 18446744073709551616; omega⟩
    have nz1 : (0 : Int) < 2147483647 := by decide
    have nz2 : (0 : Int) < 2147483587 := by decide
    have cd64 : (0 : Int) < 64 ∧ (64 : Int) < 1073741824 := by decide
    have hx0 : ∀ z : Int, 0 ≤ z % 2147483647 ∧ z % 2147483647 < 2147483647 := by
      intro z
      exact ⟨Int.emod_nonneg _ (by decide), Int.emod_lt_of_pos _ (by decide)⟩
    refine ⟨_, rfl, .inl ⟨a, _, 1, _, rfl, rfl, S, rfl, b, rfl, ?_⟩⟩
    by_cases hbd : b = true ∧ 0 < d
    · obtain ⟨rfl, hd0⟩ := hbd
      refine iteT ⟨_, rfl, .inl ⟨a, _, 0, _, rfl, rfl, S, rfl, _, _, rfl, rfl, _, rfl, ?_⟩⟩
      rw [decide_eq_true hd0]
      refine iteT ⟨_, rfl, .inl ⟨a, _, 0, _, rfl, rfl, S, rfl, .inl ⟨_, rfl, _, rfl, _, _, rfl, rfl, h1, ?_⟩⟩⟩
      refine ⟨_, rfl, .inl ⟨a, _, 0, _, rfl, rfl, S, rfl, _, rfl, _, _, rfl, rfl, ⟨h1, by omega⟩, _, rfl, a, _, _, _, rfl, rfl, hb, rfl, ?_⟩⟩
      exact ⟨_, rfl, A1 rfl hd0⟩
    · apply once
      · intro rest
        cases b with
        | false => exact iteF (iteF rest)
        | true =>
          refine iteT ⟨_, rfl, .inl ⟨a, _, 0, _, rfl, rfl, S, rfl, _, _, rfl, rfl, _, rfl, ?_⟩⟩
          rw [decide_eq_false (fun z => hbd ⟨rfl, z⟩)]
          exact iteF rest
      refine ⟨_, rfl, .inl ⟨a, _, 3, _, rfl, rfl, S, rfl, .inl ⟨_, _, rfl, rfl, _, rfl, a, _, _, _, rfl, rfl, hb, rfl, ?_⟩⟩⟩
      refine ⟨_, rfl, .inl ⟨a, _, 2, _, rfl, rfl, S1, rfl, ?_⟩⟩
      refine ⟨_, rfl, .inl ⟨a, _, 3, _, rfl, rfl, S1, rfl, .inl ⟨_, _, rfl, rfl, k1, .inl ⟨_, _, rfl, rfl, .inl ⟨_, _, rfl, rfl, _, _, rfl, rfl, p1, .inl ⟨_, rfl, _, _, rfl, rfl, nz1, ?_⟩⟩⟩⟩⟩⟩
      refine ⟨_, rfl, .inl ⟨_, _, rfl, rfl, k2 _ (hx0 _).1 (hx0 _).2, ?_⟩⟩
      refine ⟨_, rfl, .inl ⟨a, _, 3, _, rfl, rfl, S1, rfl, .inl ⟨_, _, rfl, rfl, k3, .inl ⟨_, _, rfl, rfl, _, _, rfl, rfl, p2 _ (hx0 _).1 (hx0 _).2, .inl ⟨_, rfl, _, _, rfl, rfl, nz2, ?_⟩⟩⟩⟩⟩
      refine ⟨_, _, rfl, rfl, cd64, _, rfl, _, _, rfl, rfl, h1, ?_⟩
      exact A2 _
/-! ### cells and boxes -/
def spBox : Sp := fun vs H Q _ => ∃ g : Int, vs = [.int g] ∧ ∀ (p : Addr) (H' : Hp), H p = none → Evl.Ex H H' → Box H' p 0 → Q (.ref p) H'
theorem ok_box (T : Txt K mg) (F : FnP K "_law_box" s__law_box f fd) : Fg P w K mg base CX0 1 f fd ["_law_great"] spBox := by
  refine fg_of F sc__law_box (fun vs H Q E h => ?_) (fun cdv A outer s H vs Q E hr h => ⟨_, (PSs.nox (pss_one (ps_ret (pe_lst (pa_cons (pe_callB call_abs (by rfl) T.f_abs (by decide +kernel) (pa_cons (pv 0) pa_nil)) (pa_cons (pe_cmpR op_ge (pe_callB call_abs (by rfl) T.f_abs (by decide +kernel) (pa_cons (pv 0) pa_nil)) (pe_op op_pow pe_int pe_int) (nomark _)) (pa_cons (pe_op u_mod (pe_callTy call_int1 (by rfl) T.f_int (by decide +kernel) (pa_cons (pe_callB call_abs (by rfl) T.f_abs (by decide +kernel) (pa_cons (pv 0) pa_nil)) pa_nil)) pe_int) (pa_cons pe_int pa_nil)))))))), ?_⟩)
  · obtain ⟨g, rfl, _⟩ := h
    rfl
  · obtain ⟨g, rfl, q⟩ := h
    have nz : (0 : Int) < 2147483629 := by decide
    have hp : CPow 10 18 := ⟨by decide, by decide, by decide⟩
    refine ⟨_, rfl, _, rfl, _, rfl, _, rfl, _, _, rfl, rfl, hp, _, _, rfl, rfl, _, rfl, _, rfl, .inl ⟨_, rfl, _, _, rfl, rfl, nz, ?_⟩⟩
    refine ⟨by show 4 ≤ sizeLine; decide, fun p hp => q p _ hp (Evl.Ex.new hp) ⟨_, _, _, _, upd_same, ?_, ?_, ?_, by omega, by omega⟩⟩
    · split <;> omega
    · exact Int.emod_nonneg _ (by decide)
    · exact Int.emod_lt_of_pos _ (by decide)
def spCell (K : PySem.W.Frag) : Sp := fun vs H Q _ => ∃ (a : Addr) (ns : List Int) (k : Int), vs = [.ref a, .int k] ∧ SqL K H a (ns.map V.int) ∧ 0 ≤ k ∧ k ≤ 100 ∧ ns.length ≤ 1000 ∧
  ∀ (g : Int) (H' : Hp), Evl.Ex H H' → Q (.int g) H'
theorem ok_cell (T : Txt K mg) (F : FnP K "_law_cell" s__law_cell f fd) : Fg P w K mg base CX0 1 f fd ["_law_script", "_law_k"] (spCell K) := by
  refine fg_of F sc__law_cell (fun vs H Q E h => ?_) (fun cdv A outer s H vs Q E hr h => ⟨_, (PSs.nox (pss_one (ps_ret (pe_ifExp (pt_cmpR op_lt (pv 1) (pe_callB (u_len (K := K)) (by rfl) T.f_len (by decide +kernel) (pa_cons (pv 0) pa_nil)) (nomark _)) (pe_ix (u_ix (K := K)) (pv 0) (pv 1) (fun _ _ => rfl)) (pe_op (u_add (K := K)) (pe_op (u_mul (K := K)) pe_int (pv 1)) (pe_op u_mod (pe_callB (u_sum (K := K) rfl) (by rfl) T.f_sum (by decide +kernel) (pa_cons (pe_slice (u_sl (K := K)) (pv 0) po_none (po_some pe_int)) pa_nil)) pe_int)))))), ?_⟩)
  · obtain ⟨a, ns, k, rfl, _⟩ := h
    rfl
  · obtain ⟨a, ns, k, rfl, S, k0, k1, hl, q⟩ := h
    have nz : (0 : Int) < 1000003 := by decide
    refine ⟨_, rfl, _, rfl, _, _, rfl, .inl ⟨_, S, rfl⟩, _, _, rfl, rfl, _, rfl, ?_⟩
    rw [List.length_map]
    refine ite2 (fun h => ?_) (fun h => ?_)
    · have h' : k < (ns.length : Int) := by simpa using h
      obtain ⟨j, rfl⟩ : ∃ j : Nat, k = j := ⟨k.toNat, by omega⟩
      have hj : j < ns.length := by omega
      refine ⟨_, rfl, _, rfl, .inl ⟨a, _, _, .int ns[j], rfl, rfl, S, ?_, q _ _ (Evl.Ex.refl _)⟩⟩
      rw [atI_nat]
      simp [hj]
    · have km : CMulX 7919 k := mulx_ok (a := 30) (b := 30) (by decide) (by show _ < 1073741824; omega) (by decide)
      have cut : ∃ ms : List Int, cutV (ns.map V.int) none (some 1) = ms.map V.int := ⟨(ns.drop _).take _, by unfold cutV; rw [← List.map_drop, ← List.map_take]⟩
      obtain ⟨ms, hms⟩ := cut
      refine ⟨_, rfl, .inl ⟨_, _, rfl, rfl, km, _, rfl, _, rfl, .inl ⟨a, _, rfl, S, fun p hp => ⟨p, ms, rfl, ?_, _, _, rfl, rfl, nz, .inl ⟨_, _, rfl, rfl, q _ _ (Evl.Ex.new hp)⟩⟩⟩⟩⟩
      rw [hms]
      exact SqL.of upd_same
end
end K0
/-! what is shown stays when the heap grows, and when a list of it grows -/
namespace VB
open PySem PySem.Spec PyProof.Rows L2
mutual
theorem Shw.ex {H H' : Hp} (e : Evl.Ex H H') : ∀ {y : V} {t : Str} {bs : List Addr} {d : Nat}, Shw H y t bs d → Shw H' y t bs d
  | _, _, _, _, .flat x => .flat x
  | _, _, _, _, .dct h p => .dct (e _ _ h) p
  | _, _, _, _, .lst0 h => .lst0 (e _ _ h)
  | _, _, _, _, .lst h n s m => .lst (e _ _ h) n (ShwAll.ex e s) m
  | _, _, _, _, .tup h s m => .tup (e _ _ h) (ShwAll.ex e s) m
theorem ShwAll.ex {H H' : Hp} (e : Evl.Ex H H') : ∀ {ys : List V} {ts : List Str} {bs : List Addr} {d : Nat}, ShwAll H ys ts bs d → ShwAll H' ys ts bs d
  | _, _, _, _, .nil => .nil
  | _, _, _, _, .cons s b l t => .cons (Shw.ex e s) b l (ShwAll.ex e t)
end
mutual
theorem Shw.mut {H : Hp} {a : Addr} {o u : HO} (ha : H a = some o) (n0 : o ≠ .lst []) : ∀ {y : V} {t : Str} {bs : List Addr} {d : Nat}, Shw H y t bs d → a ∉ bs → Shw (upd H a u) y t bs d
  | _, _, _, _, .flat x, _ => .flat x
  | _, _, _, _, .dct h p, m => .dct (by rw [upd_ne (fun z => m (by simp [z]))]; exact h) p
  | _, _, _, _, .lst0 h, m => .lst0 (by rw [upd_ne (fun z => by rw [z, ha] at h; exact n0 (Option.some.inj h))]; exact h)
  | _, _, _, _, .lst h n s k, m => .lst (by rw [upd_ne (fun z => m (by simp [z]))]; exact h) n (ShwAll.mut ha n0 s (fun z => m (by simp [z]))) k
  | _, _, _, _, .tup h s k, m => .tup (by rw [upd_ne (fun z => m (by simp [z]))]; exact h) (ShwAll.mut ha n0 s (fun z => m (by simp [z]))) k
theorem ShwAll.mut {H : Hp} {a : Addr} {o u : HO} (ha : H a = some o) (n0 : o ≠ .lst []) : ∀ {ys : List V} {ts : List Str} {bs : List Addr} {d : Nat}, ShwAll H ys ts bs d → a ∉ bs → ShwAll (upd H a u) ys ts bs d
  | _, _, _, _, .nil, _ => .nil
  | _, _, _, _, .cons s b l t, m => .cons (Shw.mut ha n0 s (fun z => m (b _ z))) b l (ShwAll.mut ha n0 t m)
end
theorem ShwAll.app {H : Hp} {bs : List Addr} {d : Nat} : ∀ {xs ys : List V} {ts us : List Str}, ShwAll H xs ts bs d → ShwAll H ys us bs d → ShwAll H (xs ++ ys) (ts ++ us) bs d
  | _, _, _, _, .nil, h => h
  | _, _, _, _, .cons s b l t, h => .cons s b l (ShwAll.app t h)
theorem ShwAll.flat {H : Hp} {bs : List Addr} {d : Nat} : ∀ {xs : List V} {ts : List Str}, Paired Tx xs ts → ShwAll H xs ts bs d
  | _, _, .nil => .nil
  | _, _, .cons s t => .cons (.flat s) (fun _ z => nomatch z) (Nat.zero_le _) (ShwAll.flat t)
abbrev txI (i : Int) : Str := toString i
theorem ShwAll.iv {H : Hp} {bs : List Addr} {d : Nat} : ∀ {xs : List Int}, (∀ x ∈ xs, x.natAbs < 10 ^ 4300) → ShwAll H (IV xs) (xs.map txI) bs d
  | [], _ => .nil
  | x :: xs, h => .cons (.flat (.int x (h x (List.mem_cons_self ..)))) (fun _ z => nomatch z) (Nat.zero_le _) (ShwAll.iv fun y hy => h y (List.mem_cons_of_mem _ hy))
theorem lt_len (t : Str) (ts : List Str) : (listText (t :: ts)).length = piled (t :: ts) := by
  have h := textFrom_length_pos ts 1 (("[" : Str) ++ (if (0 : Nat) > 0 then ", " else "" : String) ++ t) (Nat.succ_pos 0)
  have hY : (textFrom 0 "[" (t :: ts)).length = (textFrom 1 (("[" : Str) ++ (if (0 : Nat) > 0 then ", " else "" : String) ++ t) ts).length := rfl
  show (textFrom 0 "[" (t :: ts) ++ "]").length = _
  have e : (("[" : Str) ++ (if (0 : Nat) > 0 then ", " else "" : String) ++ t).length = 1 + t.length := by
    rw [strLen_append, strLen_append]
    rfl
  rw [strLen_append, hY, h, e, piled_cons]
  show 1 + t.length + piled ts + 1 = _
  omega
theorem listText_len {ts : List Str} (h : ts ≠ []) : (listText ts).length = piled ts := by
  cases ts with
  | nil => exact absurd rfl h
  | cons t ts => exact lt_len t ts
theorem listText_le {b : Nat} (ts : List Str) (h : ∀ t ∈ ts, t.length ≤ b) : (listText ts).length ≤ (b + 2) * ts.length + 2 := by
  have := piled_le ts h
  by_cases z : ts = []
  · subst z
    show 2 ≤ _
    omega
  · rw [listText_len z]
    omega
theorem Shw.grow {H : Hp} {a : Addr} {ys : List V} {t : Str} {bs : List Addr} {d : Nat} (h : Shw H (.ref a) t bs d) (ha : H a = some (.lst ys)) {x : V} {u : Str} (hx : Tx x u) :
    ∃ t' bs' d', Shw (upd H a (.lst (ys ++ [x]))) (.ref a) t' bs' d' ∧ d' ≤ d + 1 ∧ t'.length ≤ t.length + u.length + 2 := by
  cases h with
  | flat tx => cases tx
  | dct hb => rw [ha] at hb; cases hb
  | tup hb => rw [ha] at hb; cases hb
  | lst0 hb =>
    rw [ha] at hb
    cases hb
    refine ⟨listText [u], [a], 1, .lst upd_same (by simp) (.cons (.flat hx) (fun _ z => by cases z) (Nat.le_refl 0) .nil) (fun z => by cases z), by omega, ?_⟩
    have := listText_le (b := u.length) [u] (by simp)
    simp only [List.length_cons, List.length_nil] at this
    have l2 : ("[]" : Str).length = 2 := by decide
    omega
  | @lst _ zs ts bs d hb n s m =>
    rw [ha] at hb
    cases hb
    refine ⟨listText (ts ++ [u]), a :: bs, d + 1, .lst upd_same (by simp) (ShwAll.app (ShwAll.mut ha (fun z => n (HO.lst.inj z)) s m) (.cons (.flat hx) (fun _ z => by cases z) (Nat.zero_le _) .nil)) m, by omega, ?_⟩
    have ne : ts ++ [u] ≠ [] := by simp
    rw [listText_len ne, piled_append, piled_cons, piled_nil]
    by_cases z : ts = []
    · subst z
      show 0 + _ ≤ _
      omega
    · rw [listText_len z]
      omega
end VB
namespace VB
open PySem PySem.Spec PyProof.Rows L2
theorem sum_le {b : Nat} : ∀ ts : List Str, (∀ t ∈ ts, t.length ≤ b) → (ts.map (·.length)).sum ≤ b * ts.length
  | [], _ => Nat.zero_le _
  | t :: ts, h => by
    have a := h t (List.mem_cons_self ..)
    have c := sum_le ts fun u hu => h u (List.mem_cons_of_mem _ hu)
    rw [List.map_cons, List.sum_cons, List.length_cons, Nat.mul_succ]
    omega
theorem tupleText_le {b : Nat} (ts : List Str) (h : ∀ t ∈ ts, t.length ≤ b) : (tupleText ts).length ≤ (b + 2) * ts.length + 3 := by
  have := tupleText_len_le ts
  have s := sum_le ts h
  rw [Nat.add_mul]
  omega
theorem Sv.mut {K : PySem.W.Frag} {H : Hp} {a b : Addr} {u : HO} {t : Bool} {xs : List V} (S : Sv t K H b xs) (n : b ≠ a) : Sv t K (upd H a u) b xs := by
  cases t with
  | false =>
    rcases S with (h | ⟨o, h⟩) | h
    · exact .inl (.inl (by rw [upd_ne n]; exact h))
    · exact .inl (.inr ⟨o, by rw [upd_ne n]; exact h⟩)
    · exact .inr h
  | true =>
    rcases S with (h | ⟨o, h⟩) | h
    · exact .inl (.inl (by rw [upd_ne n]; exact h))
    · exact .inl (.inr ⟨o, by rw [upd_ne n]; exact h⟩)
    · exact .inr h
end VB
namespace K0
open PySem PySem.Spec PyProof.Rows L2 VB
/-- what is looked at of the error classes -/
structure Fs (K : PySem.W.Frag) : Prop where
  xf : ∀ i, i < 26 → XfC K (Er K (nm i))
  ix : ∀ i, i < 26 → IsX K (Er K (nm i))
  kit : ∀ i j, i < 26 → j < 26 → PySem.W.kitOne K (.ref (Er K (nm i))) (.ref (Er K (nm j))) = some (decide (i = j))
  kF : ∀ i, i < 26 → PySem.W.kitOne K (.ref (Er K (nm i))) (.ref (Er K "FlashError")) = some true
  kV : ∀ i, i < 26 → PySem.W.kitOne K (.ref (Er K (nm i))) (.type "ValueError") = some true
  no : ∀ i, i < 23 → PySem.W.findIn K (.ref (Er K (nm i))) (fl i) = some none
  oex : ∀ i, i < 23 → OexC K (Er K (nm i))
/-- an error of the i-th class with the value x -/
def EAt (K : PySem.W.Frag) (H : Hp) (a : Addr) (i : Nat) (x : V) : Prop := i < 23 ∧ ∃ d, ErrAt H a (Er K (nm i)) (some d) ∧ FldAt H d [(fl i, x)]
def AnyAt (K : PySem.W.Frag) (H : Hp) (a : Addr) (i : Nat) : Prop := i < 26 ∧ ∃ d, ErrAt H a (Er K (nm i)) d ∧ ∀ dd, d = some dd → ∃ fs, FldAt H dd fs
theorem EAt.ex {K : PySem.W.Frag} {H H' : Hp} {a : Addr} {i : Nat} {x : V} (h : EAt K H a i x) (e : Evl.Ex H H') : EAt K H' a i x := by
  obtain ⟨h1, d, h2, h3⟩ := h
  exact ⟨h1, d, h2.ex e, h3.ex e⟩
theorem AnyAt.ex {K : PySem.W.Frag} {H H' : Hp} {a : Addr} {i : Nat} (h : AnyAt K H a i) (e : Evl.Ex H H') : AnyAt K H' a i := by
  obtain ⟨h1, d, h2, h3⟩ := h
  refine ⟨h1, d, h2.ex e, fun dd z => ?_⟩
  obtain ⟨fs, h4⟩ := h3 dd z
  exact ⟨fs, h4.ex e⟩
theorem EAt.any {K : PySem.W.Frag} {H : Hp} {a : Addr} {i : Nat} {x : V} (h : EAt K H a i x) : AnyAt K H a i := by
  obtain ⟨h1, d, h2, h3⟩ := h
  exact ⟨by omega, some d, h2, fun dd z => by cases z; exact ⟨_, h3⟩⟩
def Es (K : PySem.W.Frag) (H : Hp) (x : V) (k : Nat) (as : List Addr) : Prop := ∀ j a, as[j]? = some a → EAt K H a (k + j) x
theorem Es.ex {K : PySem.W.Frag} {H H' : Hp} {x : V} {k : Nat} {as : List Addr} (h : Es K H x k as) (e : Evl.Ex H H') : Es K H' x k as := fun j a ha => (h j a ha).ex e
theorem Es.cons {K : PySem.W.Frag} {H : Hp} {x : V} {k : Nat} {a : Addr} {as : List Addr} (h : EAt K H a k x) (t : Es K H x (k + 1) as) : Es K H x k (a :: as) := fun j b hb => by
  cases j with
  | zero =>
    have : a = b := by simpa using hb
    subst this
    exact h
  | succ j =>
    have e : k + (j + 1) = k + 1 + j := by omega
    rw [e]
    exact t j b (by simpa using hb)
theorem Es.app {K : PySem.W.Frag} {H : Hp} {x : V} : ∀ {as bs : List Addr} {k : Nat}, Es K H x k as → Es K H x (k + as.length) bs → Es K H x k (as ++ bs)
  | [], bs, k, _, h => h
  | a :: as, bs, k, h, t => Es.cons (h 0 a rfl) (Es.app (fun j b hb => by
      have := h (j + 1) b (by simpa using hb)
      have e : k + 1 + j = k + (j + 1) := by omega
      rw [e]
      exact this) (by
      have e : k + 1 + as.length = k + (a :: as).length := by simp; omega
      rw [e]
      exact t))
section
variable {P : Program} {w : World} {K : PySem.W.Frag} {mg : Str → Option Value} {base : Heap} {f : Addr} {fd : FuncData}
/-- one error is made -/
theorem mk_facts {C : Addr} {g : Str} {x : V} {H : Hp} {a dx : Addr} (na : H a = none) (nd : H dx = none) (ne : dx ≠ a) :
    Evl.Ex H (upd (upd (upd H a (exo a C none)) dx (exd dx [(g, x)])) a (exo a C (some dx))) ∧ ErrAt (upd (upd (upd H a (exo a C none)) dx (exd dx [(g, x)])) a (exo a C (some dx))) a C (some dx) ∧ FldAt (upd (upd (upd H a (exo a C none)) dx (exd dx [(g, x)])) a (exo a C (some dx))) dx [(g, x)] := by
  refine ⟨fun b o hb => ?_, .inl upd_same, .inl ?_⟩
  · have h1 : b ≠ a := ne_of_none hb na
    have h2 : b ≠ dx := ne_of_none hb nd
    rw [upd_ne h1, upd_ne h2, upd_ne h1]
    exact hb
  · rw [upd_ne ne, upd_same]
def mkTA (K : PySem.W.Frag) : List (Addr × Str) → TA
  | [] => tNil
  | (C, g) :: r => tCons (tMkW C g (tCons (tVar 0) tNil)) (mkTA K r)
theorem mkTA_run (F : Fs K) {x : V} {σ : L2.St} (hσ : σ[0]? = some (some x)) : ∀ (l : List (Addr × Str)) (k : Nat) (H : Hp) (Q : List V → Hp → Prop), k + l.length ≤ 23 → (∀ j p, l[j]? = some p → p = (Er K (nm (k + j)), fl (k + j))) →
    (∀ (as : List Addr) (H' : Hp), as.length = l.length → Evl.Ex H H' → Es K H' x k as → Q (as.map .ref) H') → mkTA K l σ H Q
  | [], k, H, Q, _, _, q => q [] H rfl (Evl.Ex.refl _) (fun _ _ z => by cases z)
  | (C, g) :: l, k, H, Q, hk, hl, q => by
    have hk' : k + (l.length + 1) ≤ 23 := hk
    have e := hl 0 (C, g) rfl
    rw [Nat.add_zero] at e
    cases e
    refine ⟨_, hσ, x, rfl, fun a d na nd ne => ?_⟩
    obtain ⟨e1, ea, ed⟩ := mk_facts (C := Er K (nm k)) (g := fl k) (x := x) na nd ne
    generalize upd (upd (upd H a (exo a (Er K (nm k)) none)) d (exd d [(fl k, x)])) a (exo a (Er K (nm k)) (some d)) = H1 at e1 ea ed ⊢
    show mkTA K l σ H1 fun xs H2 => Q (.ref a :: xs) H2
    refine mkTA_run F hσ l (k + 1) H1 _ (by omega) (fun j p hp => by
      have := hl (j + 1) p (by simpa using hp)
      have e : k + 1 + j = k + (j + 1) := by omega
      rw [e]
      exact this) fun as H2 la e2 es => ?_
    exact q (a :: as) H2 (by simp [la]) (e1.trans e2) (Es.cons (EAt.ex ⟨by omega, d, ea, ed⟩ e2) es)
theorem asg_step {te : TE} {tg : TG} {rest : TS} {D : Ends} {σ : L2.St} {H : Hp} (h : te σ H fun v H1 => tg v σ H1 fun σ' H' => rest D σ' H') : tSeq (tAsg te tg) rest D σ H := h
theorem lst_step {ta : TA} {σ : L2.St} {H : Hp} {Q : VK} (h : ta σ H fun xs H1 => xs.length ≤ sizeLine ∧ ∀ p, H1 p = none → Q (.ref p) (upd H1 p (.lst xs))) : tLst ta σ H Q := h
theorem cat_te (F : Fs K) {x : V} {σ : L2.St} {H : Hp} {Q : VK} {p : Addr} {as : List Addr} (l : List (Addr × Str)) (k : Nat) (h0 : σ[0]? = some (some x)) (h1 : σ[1]? = some (some (.ref p))) (hp : H p = some (.lst (as.map .ref))) (es : Es K H x 0 as) (la : as.length = k) (hk : k + l.length ≤ 23) (hl : ∀ j p, l[j]? = some p → p = (Er K (nm (k + j)), fl (k + j)))
    (q : ∀ (bs : List Addr) (r : Addr) (H' : Hp), bs.length = k + l.length → Evl.Ex H H' → H r = none → H' r = some (.lst (bs.map .ref)) → Es K H' x 0 bs → Q (.ref r) H') : tOp (rAddU K) (tVar 1) (tLst (mkTA K l)) σ H Q := by
  refine ⟨_, h1, lst_step ?_⟩
  refine mkTA_run F h0 l k _ _ hk hl fun bs H1 lb e1 eb => ⟨by rw [List.length_map, lb]; exact Evl.sz_of (by omega), fun p2 n2 => ?_⟩
  have y := Evl.Ex.new (o := .lst (bs.map .ref)) n2
  refine .inr (.inl ⟨p, p2, _, _, rfl, rfl, (e1.trans y) _ _ hp, upd_same, by rw [List.length_map, List.length_map]; exact Evl.sz_of (by omega), fun r nr => ?_⟩)
  have y2 := Evl.Ex.new (o := .lst (as.map V.ref ++ bs.map V.ref)) nr
  have E := (e1.trans y).trans y2
  refine q (as ++ bs) r _ (by rw [List.length_append]; omega) E (Evl.fresh_back (e1.trans y) nr) (by rw [upd_same, List.map_append]) (Es.app (es.ex E) ?_)
  rw [la, Nat.zero_add]
  exact eb.ex (y.trans y2)
def spMk (K : PySem.W.Frag) : Sp := fun vs H Q _ => ∃ x : V, vs = [x] ∧ ∀ (as : List Addr) (p : Addr) (H' : Hp), as.length = 23 → H p = none → Evl.Ex H H' → H' p = some (.lst (as.map .ref)) → Es K H' x 0 as → Q (.ref p) H'
theorem ok_by_place {f0 f1 f2 f3 f4 f5 f6 f7 f8 f9 f10 f11 f12 f13 f14 f15 f16 f17 f18 f19 f20 f21 f22 : Addr} (T : Txt K mg) (Fk : Fs K) (E_InvalidOctets : MkE P w K mg base "InvalidOctets" "given" (Er K "InvalidOctets") f0) (E_InvalidCount : MkE P w K mg base "InvalidCount" "given" (Er K "InvalidCount") f1) (E_InvalidNumber : MkE P w K mg base "InvalidNumber" "given" (Er K "InvalidNumber") f2) (E_InvalidMask : MkE P w K mg base "InvalidMask" "given" (Er K "InvalidMask") f3) (E_InvalidOp : MkE P w K mg base "InvalidOp" "given" (Er K "InvalidOp") f4) (E_InvalidBlock : MkE P w K mg base "InvalidBlock" "given" (Er K "InvalidBlock") f5) (E_InvalidPage : MkE P w K mg base "InvalidPage" "given" (Er K "InvalidPage") f6) (E_InvalidShape : MkE P w K mg base "InvalidShape" "given" (Er K "InvalidShape") f7) (E_InvalidImage : MkE P w K mg base "InvalidImage" "given" (Er K "InvalidImage") f8) (E_InvalidData : MkE P w K mg base "InvalidData" "given" (Er K "InvalidData") f9) (E_InvalidRecord : MkE P w K mg base "InvalidRecord" "given" (Er K "InvalidRecord") f10) (E_InvalidPath : MkE P w K mg base "InvalidPath" "given" (Er K "InvalidPath") f11) (E_InvalidDeed : MkE P w K mg base "InvalidDeed" "given" (Er K "InvalidDeed") f12) (E_InvalidLine : MkE P w K mg base "InvalidLine" "given" (Er K "InvalidLine") f13) (E_InvalidScript : MkE P w K mg base "InvalidScript" "given" (Er K "InvalidScript") f14) (E_InvalidTree : MkE P w K mg base "InvalidTree" "given" (Er K "InvalidTree") f15) (E_InvalidChip : MkE P w K mg base "InvalidChip" "given" (Er K "InvalidChip") f16) (E_InvalidRecords : MkE P w K mg base "InvalidRecords" "given" (Er K "InvalidRecords") f17) (E_InvalidName : MkE P w K mg base "InvalidName" "given" (Er K "InvalidName") f18) (E_InvalidPlans : MkE P w K mg base "InvalidPlans" "given" (Er K "InvalidPlans") f19) (E_PowerCut : MkE P w K mg base "PowerCut" "op" (Er K "PowerCut") f20) (E_TooMany : MkE P w K mg base "TooMany" "count" (Er K "TooMany") f21) (E_NoThing : MkE P w K mg base "NoThing" "name" (Er K "NoThing") f22) (F : FnP K "_law_by_place" s__law_by_place f fd) : Fg P w K mg base CX0 3 f fd ["_law_thing_here"] (spMk K) := by
  refine fg_of F sc__law_by_place (fun vs H Q E h => ?_) (fun cdv A outer s H vs Q E hr h => ⟨_, (PSs.nox (pss_cons (ps_set (i := 1) sc__law_by_place.nd rfl (by first | exact Or.inl rfl | exact Or.inr rfl) (pe_lst (pa_cons (pe_mkv E_InvalidOctets hr (pa_cons (pv 0) pa_nil)) (pa_cons (pe_mkv E_InvalidCount hr (pa_cons (pv 0) pa_nil)) (pa_cons (pe_mkv E_InvalidNumber hr (pa_cons (pv 0) pa_nil)) (pa_cons (pe_mkv E_InvalidMask hr (pa_cons (pv 0) pa_nil)) (pa_cons (pe_mkv E_InvalidOp hr (pa_cons (pv 0) pa_nil)) pa_nil)))))))
  (pss_cons (ps_set (i := 1) sc__law_by_place.nd rfl (by first | exact Or.inl rfl | exact Or.inr rfl) (pe_op (u_add (K := K)) (pv 1) (pe_lst (pa_cons (pe_mkv E_InvalidBlock hr (pa_cons (pv 0) pa_nil)) (pa_cons (pe_mkv E_InvalidPage hr (pa_cons (pv 0) pa_nil)) (pa_cons (pe_mkv E_InvalidShape hr (pa_cons (pv 0) pa_nil)) (pa_cons (pe_mkv E_InvalidImage hr (pa_cons (pv 0) pa_nil)) pa_nil)))))))
  (pss_cons (ps_set (i := 1) sc__law_by_place.nd rfl (by first | exact Or.inl rfl | exact Or.inr rfl) (pe_op (u_add (K := K)) (pv 1) (pe_lst (pa_cons (pe_mkv E_InvalidData hr (pa_cons (pv 0) pa_nil)) (pa_cons (pe_mkv E_InvalidRecord hr (pa_cons (pv 0) pa_nil)) (pa_cons (pe_mkv E_InvalidPath hr (pa_cons (pv 0) pa_nil)) (pa_cons (pe_mkv E_InvalidDeed hr (pa_cons (pv 0) pa_nil)) pa_nil)))))))
  (pss_cons (ps_set (i := 1) sc__law_by_place.nd rfl (by first | exact Or.inl rfl | exact Or.inr rfl) (pe_op (u_add (K := K)) (pv 1) (pe_lst (pa_cons (pe_mkv E_InvalidLine hr (pa_cons (pv 0) pa_nil)) (pa_cons (pe_mkv E_InvalidScript hr (pa_cons (pv 0) pa_nil)) (pa_cons (pe_mkv E_InvalidTree hr (pa_cons (pv 0) pa_nil)) (pa_cons (pe_mkv E_InvalidChip hr (pa_cons (pv 0) pa_nil)) pa_nil)))))))
  (pss_cons (ps_set (i := 1) sc__law_by_place.nd rfl (by first | exact Or.inl rfl | exact Or.inr rfl) (pe_op (u_add (K := K)) (pv 1) (pe_lst (pa_cons (pe_mkv E_InvalidRecords hr (pa_cons (pv 0) pa_nil)) (pa_cons (pe_mkv E_InvalidName hr (pa_cons (pv 0) pa_nil)) (pa_cons (pe_mkv E_InvalidPlans hr (pa_cons (pv 0) pa_nil)) pa_nil))))))
  (pss_one (ps_ret (pe_op (u_add (K := K)) (pv 1) (pe_lst (pa_cons (pe_mkv E_PowerCut hr (pa_cons (pv 0) pa_nil)) (pa_cons (pe_mkv E_TooMany hr (pa_cons (pv 0) pa_nil)) (pa_cons (pe_mkv E_NoThing hr (pa_cons (pv 0) pa_nil)) pa_nil))))))))))))), ?_⟩)
  · obtain ⟨x, rfl, _⟩ := h
    rfl
  · obtain ⟨x, rfl, q⟩ := h
    have hl : ∀ (a : Nat) (l : List (Addr × Str)), l = (List.range l.length).map (fun j => (Er K (nm (a + j)), fl (a + j))) → ∀ j p, l[j]? = some p → p = (Er K (nm (a + j)), fl (a + j)) := fun a l e j p hp => by
      rw [e, List.getElem?_map] at hp
      obtain ⟨n, hn, rfl⟩ := Option.map_eq_some_iff.mp hp
      have := List.getElem?_range (n := l.length) (i := j)
      rw [List.getElem?_eq_some_iff] at hn
      obtain ⟨h1, h2⟩ := hn
      rw [List.getElem_range] at h2
      rw [h2]
    refine asg_step (lst_step ?_)
    refine mkTA_run Fk rfl [(Er K (nm 0), fl 0), (Er K (nm 1), fl 1), (Er K (nm 2), fl 2), (Er K (nm 3), fl 3), (Er K (nm 4), fl 4)] 0 H _ (by show 0 + 5 ≤ 23; decide) (hl 0 _ rfl) fun as0 H0 l0 e0 es0 => ⟨by rw [List.length_map, l0]; exact Evl.sz_of (by show 5 ≤ 100000; decide), fun p0 n0 => ?_⟩
    have l0 : as0.length = 5 := l0
    have X0 := e0.trans (Evl.Ex.new (o := .lst (as0.map V.ref)) n0)
    have h0 := upd_same (H := H0) (a := p0) (o := .lst (as0.map V.ref))
    have s0 := es0.ex (Evl.Ex.new (o := .lst (as0.map V.ref)) n0)
    generalize upd H0 p0 (.lst (as0.map V.ref)) = G0 at X0 h0 s0 ⊢
    refine asg_step (cat_te Fk [(Er K (nm 5), fl 5), (Er K (nm 6), fl 6), (Er K (nm 7), fl 7), (Er K (nm 8), fl 8)] 5 rfl rfl h0 s0 l0 (by show 5 + 4 ≤ 23; decide) (hl 5 _ rfl) fun as1 p1 G1 l1 e1 n1 h1 s1 => ?_)
    have l1 : as1.length = 9 := l1
    have X1 := X0.trans e1
    refine asg_step (cat_te Fk [(Er K (nm 9), fl 9), (Er K (nm 10), fl 10), (Er K (nm 11), fl 11), (Er K (nm 12), fl 12)] 9 rfl rfl h1 s1 l1 (by show 9 + 4 ≤ 23; decide) (hl 9 _ rfl) fun as2 p2 G2 l2 e2 n2 h2 s2 => ?_)
    have l2 : as2.length = 13 := l2
    have X2 := X1.trans e2
    refine asg_step (cat_te Fk [(Er K (nm 13), fl 13), (Er K (nm 14), fl 14), (Er K (nm 15), fl 15), (Er K (nm 16), fl 16)] 13 rfl rfl h2 s2 l2 (by show 13 + 4 ≤ 23; decide) (hl 13 _ rfl) fun as3 p3 G3 l3 e3 n3 h3 s3 => ?_)
    have l3 : as3.length = 17 := l3
    have X3 := X2.trans e3
    refine asg_step (cat_te Fk [(Er K (nm 17), fl 17), (Er K (nm 18), fl 18), (Er K (nm 19), fl 19)] 17 rfl rfl h3 s3 l3 (by show 17 + 3 ≤ 23; decide) (hl 17 _ rfl) fun as4 p4 G4 l4 e4 n4 h4 s4 => ?_)
    have l4 : as4.length = 20 := l4
    have X4 := X3.trans e4
    refine (cat_te Fk [(Er K (nm 20), fl 20), (Er K (nm 21), fl 21), (Er K (nm 22), fl 22)] 20 rfl rfl h4 s4 l4 (by show 20 + 3 ≤ 23; decide) (hl 20 _ rfl) fun as5 p5 G5 l5 e5 n5 h5 s5 => ?_)
    have l5 : as5.length = 23 := l5
    have X5 := X4.trans e5
    exact q as5 p5 G5 l5 (Evl.fresh_back X4 n5) X5 h5 s5
theorem ok_by_name {f0 f1 f2 f3 f4 f5 f6 f7 f8 f9 f10 f11 f12 f13 f14 f15 f16 f17 f18 f19 f20 f21 f22 : Addr} (T : Txt K mg) (Fk : Fs K) (EK_InvalidOctets : MkEK P w K mg base "InvalidOctets" "given" (Er K "InvalidOctets") f0) (EK_InvalidCount : MkEK P w K mg base "InvalidCount" "given" (Er K "InvalidCount") f1) (EK_InvalidNumber : MkEK P w K mg base "InvalidNumber" "given" (Er K "InvalidNumber") f2) (EK_InvalidMask : MkEK P w K mg base "InvalidMask" "given" (Er K "InvalidMask") f3) (EK_InvalidOp : MkEK P w K mg base "InvalidOp" "given" (Er K "InvalidOp") f4) (EK_InvalidBlock : MkEK P w K mg base "InvalidBlock" "given" (Er K "InvalidBlock") f5) (EK_InvalidPage : MkEK P w K mg base "InvalidPage" "given" (Er K "InvalidPage") f6) (EK_InvalidShape : MkEK P w K mg base "InvalidShape" "given" (Er K "InvalidShape") f7) (EK_InvalidImage : MkEK P w K mg base "InvalidImage" "given" (Er K "InvalidImage") f8) (EK_InvalidData : MkEK P w K mg base "InvalidData" "given" (Er K "InvalidData") f9) (EK_InvalidRecord : MkEK P w K mg base "InvalidRecord" "given" (Er K "InvalidRecord") f10) (EK_InvalidPath : MkEK P w K mg base "InvalidPath" "given" (Er K "InvalidPath") f11) (EK_InvalidDeed : MkEK P w K mg base "InvalidDeed" "given" (Er K "InvalidDeed") f12) (EK_InvalidLine : MkEK P w K mg base "InvalidLine" "given" (Er K "InvalidLine") f13) (EK_InvalidScript : MkEK P w K mg base "InvalidScript" "given" (Er K "InvalidScript") f14) (EK_InvalidTree : MkEK P w K mg base "InvalidTree" "given" (Er K "InvalidTree") f15) (EK_InvalidChip : MkEK P w K mg base "InvalidChip" "given" (Er K "InvalidChip") f16) (EK_InvalidRecords : MkEK P w K mg base "InvalidRecords" "given" (Er K "InvalidRecords") f17) (EK_InvalidName : MkEK P w K mg base "InvalidName" "given" (Er K "InvalidName") f18) (EK_InvalidPlans : MkEK P w K mg base "InvalidPlans" "given" (Er K "InvalidPlans") f19) (EK_PowerCut : MkEK P w K mg base "PowerCut" "op" (Er K "PowerCut") f20) (EK_TooMany : MkEK P w K mg base "TooMany" "count" (Er K "TooMany") f21) (EK_NoThing : MkEK P w K mg base "NoThing" "name" (Er K "NoThing") f22) (F : FnP K "_law_by_name" s__law_by_name f fd) : Fg P w K mg base CX0 3 f fd ["_law_thing_here"] (spMk K) := by
  refine fg_of F sc__law_by_name (fun vs H Q E h => ?_) (fun cdv A outer s H vs Q E hr h => ⟨_, (PSs.nox (pss_cons (ps_set (i := 1) sc__law_by_name.nd rfl (by first | exact Or.inl rfl | exact Or.inr rfl) (pe_lst (pa_cons (pe_mkvK EK_InvalidOctets hr (pk_cons (pv 0) pk_nil)) (pa_cons (pe_mkvK EK_InvalidCount hr (pk_cons (pv 0) pk_nil)) (pa_cons (pe_mkvK EK_InvalidNumber hr (pk_cons (pv 0) pk_nil)) pa_nil)))))
  (pss_cons (ps_set (i := 1) sc__law_by_name.nd rfl (by first | exact Or.inl rfl | exact Or.inr rfl) (pe_op (u_add (K := K)) (pv 1) (pe_lst (pa_cons (pe_mkvK EK_InvalidMask hr (pk_cons (pv 0) pk_nil)) (pa_cons (pe_mkvK EK_InvalidOp hr (pk_cons (pv 0) pk_nil)) (pa_cons (pe_mkvK EK_InvalidBlock hr (pk_cons (pv 0) pk_nil)) pa_nil))))))
  (pss_cons (ps_set (i := 1) sc__law_by_name.nd rfl (by first | exact Or.inl rfl | exact Or.inr rfl) (pe_op (u_add (K := K)) (pv 1) (pe_lst (pa_cons (pe_mkvK EK_InvalidPage hr (pk_cons (pv 0) pk_nil)) (pa_cons (pe_mkvK EK_InvalidShape hr (pk_cons (pv 0) pk_nil)) (pa_cons (pe_mkvK EK_InvalidImage hr (pk_cons (pv 0) pk_nil)) pa_nil))))))
  (pss_cons (ps_set (i := 1) sc__law_by_name.nd rfl (by first | exact Or.inl rfl | exact Or.inr rfl) (pe_op (u_add (K := K)) (pv 1) (pe_lst (pa_cons (pe_mkvK EK_InvalidData hr (pk_cons (pv 0) pk_nil)) (pa_cons (pe_mkvK EK_InvalidRecord hr (pk_cons (pv 0) pk_nil)) (pa_cons (pe_mkvK EK_InvalidPath hr (pk_cons (pv 0) pk_nil)) pa_nil))))))
  (pss_cons (ps_set (i := 1) sc__law_by_name.nd rfl (by first | exact Or.inl rfl | exact Or.inr rfl) (pe_op (u_add (K := K)) (pv 1) (pe_lst (pa_cons (pe_mkvK EK_InvalidDeed hr (pk_cons (pv 0) pk_nil)) (pa_cons (pe_mkvK EK_InvalidLine hr (pk_cons (pv 0) pk_nil)) (pa_cons (pe_mkvK EK_InvalidScript hr (pk_cons (pv 0) pk_nil)) pa_nil))))))
  (pss_cons (ps_set (i := 1) sc__law_by_name.nd rfl (by first | exact Or.inl rfl | exact Or.inr rfl) (pe_op (u_add (K := K)) (pv 1) (pe_lst (pa_cons (pe_mkvK EK_InvalidTree hr (pk_cons (pv 0) pk_nil)) (pa_cons (pe_mkvK EK_InvalidChip hr (pk_cons (pv 0) pk_nil)) (pa_cons (pe_mkvK EK_InvalidRecords hr (pk_cons (pv 0) pk_nil)) pa_nil))))))
  (pss_cons (ps_set (i := 1) sc__law_by_name.nd rfl (by first | exact Or.inl rfl | exact Or.inr rfl) (pe_op (u_add (K := K)) (pv 1) (pe_lst (pa_cons (pe_mkvK EK_InvalidName hr (pk_cons (pv 0) pk_nil)) (pa_cons (pe_mkvK EK_InvalidPlans hr (pk_cons (pv 0) pk_nil)) pa_nil)))))
  (pss_one (ps_ret (pe_op (u_add (K := K)) (pv 1) (pe_lst (pa_cons (pe_mkvK EK_PowerCut hr (pk_cons (pv 0) pk_nil)) (pa_cons (pe_mkvK EK_TooMany hr (pk_cons (pv 0) pk_nil)) (pa_cons (pe_mkvK EK_NoThing hr (pk_cons (pv 0) pk_nil)) pa_nil))))))))))))))), ?_⟩)
  · obtain ⟨x, rfl, _⟩ := h
    rfl
  · obtain ⟨x, rfl, q⟩ := h
    have hl : ∀ (a : Nat) (l : List (Addr × Str)), l = (List.range l.length).map (fun j => (Er K (nm (a + j)), fl (a + j))) → ∀ j p, l[j]? = some p → p = (Er K (nm (a + j)), fl (a + j)) := fun a l e j p hp => by
      rw [e, List.getElem?_map] at hp
      obtain ⟨n, hn, rfl⟩ := Option.map_eq_some_iff.mp hp
      have := List.getElem?_range (n := l.length) (i := j)
      rw [List.getElem?_eq_some_iff] at hn
      obtain ⟨h1, h2⟩ := hn
      rw [List.getElem_range] at h2
      rw [h2]
    refine asg_step (lst_step ?_)
    refine mkTA_run Fk rfl [(Er K (nm 0), fl 0), (Er K (nm 1), fl 1), (Er K (nm 2), fl 2)] 0 H _ (by show 0 + 3 ≤ 23; decide) (hl 0 _ rfl) fun as0 H0 l0 e0 es0 => ⟨by rw [List.length_map, l0]; exact Evl.sz_of (by show 3 ≤ 100000; decide), fun p0 n0 => ?_⟩
    have l0 : as0.length = 3 := l0
    have X0 := e0.trans (Evl.Ex.new (o := .lst (as0.map V.ref)) n0)
    have h0 := upd_same (H := H0) (a := p0) (o := .lst (as0.map V.ref))
    have s0 := es0.ex (Evl.Ex.new (o := .lst (as0.map V.ref)) n0)
    generalize upd H0 p0 (.lst (as0.map V.ref)) = G0 at X0 h0 s0 ⊢
    refine asg_step (cat_te Fk [(Er K (nm 3), fl 3), (Er K (nm 4), fl 4), (Er K (nm 5), fl 5)] 3 rfl rfl h0 s0 l0 (by show 3 + 3 ≤ 23; decide) (hl 3 _ rfl) fun as1 p1 G1 l1 e1 n1 h1 s1 => ?_)
    have l1 : as1.length = 6 := l1
    have X1 := X0.trans e1
    refine asg_step (cat_te Fk [(Er K (nm 6), fl 6), (Er K (nm 7), fl 7), (Er K (nm 8), fl 8)] 6 rfl rfl h1 s1 l1 (by show 6 + 3 ≤ 23; decide) (hl 6 _ rfl) fun as2 p2 G2 l2 e2 n2 h2 s2 => ?_)
    have l2 : as2.length = 9 := l2
    have X2 := X1.trans e2
    refine asg_step (cat_te Fk [(Er K (nm 9), fl 9), (Er K (nm 10), fl 10), (Er K (nm 11), fl 11)] 9 rfl rfl h2 s2 l2 (by show 9 + 3 ≤ 23; decide) (hl 9 _ rfl) fun as3 p3 G3 l3 e3 n3 h3 s3 => ?_)
    have l3 : as3.length = 12 := l3
    have X3 := X2.trans e3
    refine asg_step (cat_te Fk [(Er K (nm 12), fl 12), (Er K (nm 13), fl 13), (Er K (nm 14), fl 14)] 12 rfl rfl h3 s3 l3 (by show 12 + 3 ≤ 23; decide) (hl 12 _ rfl) fun as4 p4 G4 l4 e4 n4 h4 s4 => ?_)
    have l4 : as4.length = 15 := l4
    have X4 := X3.trans e4
    refine asg_step (cat_te Fk [(Er K (nm 15), fl 15), (Er K (nm 16), fl 16), (Er K (nm 17), fl 17)] 15 rfl rfl h4 s4 l4 (by show 15 + 3 ≤ 23; decide) (hl 15 _ rfl) fun as5 p5 G5 l5 e5 n5 h5 s5 => ?_)
    have l5 : as5.length = 18 := l5
    have X5 := X4.trans e5
    refine asg_step (cat_te Fk [(Er K (nm 18), fl 18), (Er K (nm 19), fl 19)] 18 rfl rfl h5 s5 l5 (by show 18 + 2 ≤ 23; decide) (hl 18 _ rfl) fun as6 p6 G6 l6 e6 n6 h6 s6 => ?_)
    have l6 : as6.length = 20 := l6
    have X6 := X5.trans e6
    refine (cat_te Fk [(Er K (nm 20), fl 20), (Er K (nm 21), fl 21), (Er K (nm 22), fl 22)] 20 rfl rfl h6 s6 l6 (by show 20 + 3 ≤ 23; decide) (hl 20 _ rfl) fun as7 p7 G7 l7 e7 n7 h7 s7 => ?_)
    have l7 : as7.length = 23 := l7
    have X7 := X6.trans e7
    exact q as7 p7 G7 l7 (Evl.fresh_back X6 n7) X7 h7 s7
end
end K0
/-! repr of a dict whose values are shown lists too -/
namespace VB
open PySem PySem.Spec PyProof.Rows L2
def TxN (H : Hp) (as : List Addr) (d : Nat) (p : Key × V) (x : Str) : Prop := ∃ a b : Str, Tx (kV p.1) a ∧ Shw H p.2 b as d ∧ x = a ++ ": " ++ b
theorem entriesN {P : Program} {w : World} {H : Hp} {h₀ : Heap} {as : List Addr} {d : Nat} (hok : HOk P w H h₀) (hd : h₀.NoDigits) : ∀ {kvs : List (Key × V)} {vs : List (Key × Value)} {es : List DictEntry} {ps : List Str},
    L2.KV kvs vs → Pairs (mixKind P w) es vs → Paired (TxN H as d) kvs ps → ReprEntriesK P w as h₀ d es ps
  | _, _, _, _, .nil, .nil, .nil => .nil
  | _, _, _, _, .cons r rs, .cons hk hv ts, .cons te tt => by
    obtain ⟨a, b, ta, tb, rfl⟩ := te
    obtain ⟨e1, rv⟩ := r
    refine .cons (((reprK_tx hd (key_rel ?_) ta).more (fun b z => nomatch z)).level_le (Nat.zero_le _)) (shw_K hok hd tb (hv ▸ rv)) (entriesN hok hd rs ts tt)
    rw [e1]
    exact hk
section
variable {X : Cx} {k : Nat}
def rReprN : List V → Hp → VK → Prop := fun xs H Q => ∃ (a : Addr) (kvs : List (Key × V)) (ps : List Str) (as : List Addr) (d : Nat), xs = [.ref a] ∧ H a = some (.dK kvs) ∧ Paired (TxN H as d) kvs ps ∧ a ∉ as ∧ d ≤ 50 ∧ (dictText ps).length ≤ sizeLine ∧ Q (.str (dictText ps)) H
theorem call_reprN (hr : Rm k X.A) (hd : X.base.NoDigits) : CallR X (.builtin "repr") rReprN := by
  intro pins s σ H xs us Q I r h
  obtain ⟨a, kvs, ps, as, d, rfl, ha, pt, na, h50, hz, q⟩ := h
  obtain ⟨u, rfl, ru⟩ := vals1 r
  cases (show u = Value.ref a from ru)
  have hx : ObjOk X.prog X.w H s.heap a (.dK kvs) := I.hok a _ ha
  obtain ⟨_, hsys, vs, hkv, o, es, ep, ho, hex, hda, _, hp, _⟩ := hx
  have hu := hr.rm.un
  have hD : s.heap.NoDigits := hd.keeps I.bk
  have hc : o.cls = .type "dict" := hex.1
  refine call_repr_slot (T := "dict") (by omega) ⟨o, ho, hc⟩ F.slot_dict_repr ?_
  refine call_dict_reprK ho hc hda hsys na (entriesN I.hok hD hkv hp pt) (A := X.A.in1) (g := []) hr.gd (fun b _ => Clear.nil b) (by show X.A.units + 1 + (d + 1) < cLine; omega) (fun _ _ z => z) (fun h' u' tk kp => ⟨_, _, rfl, ?_⟩) hz
  exact ⟨.str (dictText ps), H, I.un (Un.kept kp) (I.hok.kept kp), ⟨u', rfl⟩, q⟩
end
/-- repr is told of v, with the text t -/
def Rp (H : Hp) (v : V) (t : Str) : Prop := t.length ≤ 10000 ∧ ((∃ bs d, Shw H v t bs d ∧ d ≤ 50) ∨ ∃ (a : Addr) (kvs : List (Key × V)) (ps : List Str) (as : List Addr) (d : Nat), v = .ref a ∧ H a = some (.dK kvs) ∧ Paired (TxN H as d) kvs ps ∧ a ∉ as ∧ d ≤ 50 ∧ t = dictText ps)
def rReprP : List V → Hp → VK → Prop := fun xs H Q => ∃ (v : V) (t : Str), xs = [v] ∧ Rp H v t ∧ Q (.str t) H
theorem call_reprP {X : Cx} {k : Nat} (hr : Rm k X.A) (hd : X.base.NoDigits) : CallR X (.builtin "repr") rReprP := by
  intro pins s σ H xs us Q I r h
  obtain ⟨v, t, rfl, ⟨l, h⟩, q⟩ := h
  have sz : (10000 : Nat) ≤ sizeLine := by decide
  rcases h with ⟨bs, d, s1, d1⟩ | ⟨a, kvs, ps, as, d, rfl, ha, pt, na, h50, rfl⟩
  · exact call_reprS hr hd pins s σ H _ us Q I r ⟨v, t, bs, d, rfl, s1, by omega, by omega, q⟩
  · exact call_reprN hr hd pins s σ H _ us Q I r ⟨a, kvs, ps, as, d, rfl, ha, pt, na, h50, by omega, q⟩
theorem paired_mono {α β : Type} {R S : α → β → Prop} (h : ∀ a b, R a b → S a b) : ∀ {xs : List α} {ys : List β}, Paired R xs ys → Paired S xs ys
  | _, _, .nil => .nil
  | _, _, .cons r t => .cons (h _ _ r) (paired_mono h t)
theorem Rp.ex {H H' : Hp} {v : V} {t : Str} (h : Rp H v t) (e : Evl.Ex H H') : Rp H' v t := by
  obtain ⟨l, h⟩ := h
  refine ⟨l, ?_⟩
  rcases h with ⟨bs, d, s1, d1⟩ | ⟨a, kvs, ps, as, d, rfl, ha, pt, na, h50, rfl⟩
  · exact .inl ⟨bs, d, s1.ex e, d1⟩
  · exact .inr ⟨a, kvs, ps, as, d, rfl, e _ _ ha, paired_mono (fun p x ⟨a, b, h1, h2, h3⟩ => ⟨a, b, h1, h2.ex e, h3⟩) pt, na, h50, rfl⟩
end VB
/-! defs called within an except suite, which know the handled error p -/
namespace VB
open PySem PySem.Spec PyProof.Rows L2
abbrev PO := Addr × Obj
structure RmH (k : Nat) (A : Around) (p : PO) : Prop where
  rm : L2H.RoomH k A
  gd : A.guards = some []
  ht : L2H.Hot1 A p
theorem RmH.le {j k : Nat} {A : Around} {p : PO} (r : RmH k A p) (h : j ≤ k := by omega) : RmH j A p := ⟨r.rm.mono h, r.gd, r.ht⟩
theorem RmH.down {k : Nat} {A : Around} {p : PO} (r : RmH (k + 1) A p) (e : Env) : RmH k (A.deeper e) p := ⟨r.rm.deeper e, r.gd, r.ht⟩
theorem Rm.hot {k : Nat} {A : Around} {a : Addr} {oe : Obj} {vs : Array Value} (r : Rm k A) (hd : oe.data = .fields vs) (h2 : vs[2]? = some .none) : RmH k (A.mark (some (.ref a))) (a, oe) := ⟨⟨r.rm.dp, r.rm.un⟩, r.gd, rfl, vs, hd, h2⟩
section
variable {P : Program} {w : World} {K : PySem.W.Frag} {mg : Str → Option Value} {base : Heap} {CX : CXT} {k : Nat}
structure Fh (P : Program) (w : World) (K : PySem.W.Frag) (mg : Str → Option Value) (base : Heap) (CX : CXT) (p : PO) (k : Nat) (f : Addr) (fd : FuncData) (ps : List Str) (sp : Sp) : Prop where
  cnt : ∀ vs H Q E, sp vs H Q E → vs.length = ps.length
  go : ∀ (A : Around) (outer : List Env) (s : Shared) (H : Hp) (args : Args) (us : List Value) (vs : List V) (Q : VK) (E : XK), RmH k A p → L2H.PinOk outer H s p → Env0 P w K mg base A outer s H →
    BindsTo s fd args (ps.zip us) → Vals vs us → sp vs H Q E → codeAny (model P w) A (.call (.ref f) args) (CR CX outer P w H s Q E) s
/-- a def by its body -/
theorem fh_of {p : PO} {x qual : Str} {params : Arguments} {body : List Stmt} {scope : Scope} {dvs : List V} {kws : List (Str × V)} {f : Addr} {fd : FuncData} {N ps : List Str} {sp : Sp} (F : FunD K x qual params body scope dvs kws f fd) (S : FnScope N ps scope)
    (cnt : ∀ vs H Q E, sp vs H Q E → vs.length = ps.length)
    (hb : ∀ (cdv : Value) (A : Around) (outer : List Env) (s : Shared) (H : Hp) (vs : List V) (Q : VK) (E : XK), RmH k (A.deeper (envOfC qual scope s.heap.objs.size f cdv)) p → sp vs H Q E →
      ∃ t, PSs (L2H.cxH CX P w K mg base N qual scope f cdv A outer s H E p) body t ∧ t { nx := fun _ H' => Q .non H', rt := Q } (start N vs) H) : Fh P w K mg base CX p (k + 1) f fd ps sp := by
  obtain ⟨oc, od, dV, kV, doc, pm, an, cdv, ct, osl, rfl, lk, hcd, _, _⟩ := F.ex
  refine ⟨cnt, ?_⟩
  intro A outer s H args us vs Q E hr pk e0 hbind hv hsp
  have kin : K.In s.heap := e0.mod.kin.keeps (fun b o e => (e0.bs b o e).1)
  have nol : s.heap.NoLimit := e0.mod.nolimit.keeps (fun b o e => (e0.bs b o e).1)
  have hk : ∀ y ∈ ps.zip us, scope.names.lookup y.1 = some .local ∨ (scope.names.lookup y.1 = some .cell ∧ ((cellsFrom (s.heap.objs.size + 1) scope.names []).lookup y.1).isSome = true) := by
    rintro ⟨n, v⟩ hy
    cases S.par n (List.of_mem_zip hy).1 with
    | inl q => exact .inl q
    | inr q => exact .inr ⟨q, PySem.W.cellsFrom_some _ _ _ (.inl q)⟩
  refine codeAny_call_function hr.rm.depth (kin _ _ lk) rfl S.co S.gen rfl (PySem.W.codeRec_of kin hcd) (hbind _ _ _ _ (wpAny_newFunctionEnv_cells S.kind hk ?_))
  intro env he s1 x
  subst he
  refine ⟨nol.keeps x.toInCall.keep, codeAny_func ?_⟩
  obtain ⟨t, ht, hq⟩ := hb cdv A outer s H vs Q E (hr.down _) hsp
  have I := L2H.inv_startH (CX := CX) (E := E) S pk e0 (cnt _ _ _ _ hsp) hv x
  refine wpAny_mono (ht.run [] s1 (start N vs) H _ I hq) ?_ (fun e s' hs => hs)
  intro fl s' hs
  cases fl with
  | ret u =>
    obtain ⟨v, σ', H', J, rv, q⟩ := hs
    exact ⟨v, H', J.os, J.bare, J.base, J.hok, rv, q⟩
  | next =>
    obtain ⟨σ', H', J, q⟩ := hs
    exact ⟨.non, H', J.os, J.bare, J.base, J.hok, rfl, q⟩
  | brk => exact (hs.choose_spec.choose_spec.2 : False).elim
  | cont => exact (hs.choose_spec.choose_spec.2 : False).elim
/-- a def of the module, told by its name; sp by the pins -/
structure CalH (P : Program) (w : World) (K : PySem.W.Frag) (mg : Str → Option Value) (base : Heap) (CX : CXT) (k : Nat) (x : Str) (ps : List Str) (sp : List PO → Sp) : Prop where
  ex : ∃ (f : Addr) (fd : FuncData), (∀ p, Fh P w K mg base CX p k f fd ps (sp [p])) ∧ mg x = some (.ref f) ∧ PySem.W.keepIn K (.ref f) = true ∧ Binds K fd ps []
end
section
variable {X : Cx} {CX : CXT} {k : Nat} {ps : List Str} {sp : List PO → Sp} {E : XK} {x : Str} {p : PO} {np pos : Pos} {e : Expr} {es : List Expr} {t : TA}
theorem pe_calH (C : CalH X.prog X.w X.K X.mg X.base CX k x ps sp) (hr : RmH k X.A p) (hx : Passes CX X E) (ha : PA X (e :: es) t) (hp : p ∈ X.pn := by exact List.mem_cons_self) (hg : Gl X x := by rfl) (hdb : (x == ("__debug__" : Str)) = false := by decide)
    (he : starEach (e :: es) X.env = (false, eval e X.env) :: starEach es X.env := by rfl) (hpl : (backTo pos (starEach es X.env)).any (·.1) = false := by rfl) :
    PE X (.Call (.Name x np) (e :: es) [] pos) (tCall (sp [p]) [] E t) := by
  obtain ⟨f, fd, F, hm, hk, hb⟩ := C.ex
  constructor
  intro pins s σ H Q I h
  refine wpAny_Call_Name_kw (ld_glob I hg hm ?_ hdb)
  refine PySem.W.callWith_K (h₀ := X.base) I.ok.mod.kin hk (thn (ha.run pos pins s σ H _ I h) ?_) he hpl
  rintro us s1 ⟨vs, H1, I1, r, q⟩
  have q : sp [p] (vs ++ []) H1 Q E := q
  rw [List.append_nil] at q
  have l : (us ++ []).length = ps.length := by
    rw [List.append_nil, ← r.length]
    exact (F p).cnt _ _ _ _ q
  have b := hb s1 us I1.kIn l
  rw [List.append_nil] at b
  obtain ⟨g1, g2, g3, g4, g5⟩ := I1.pin p (List.mem_append_left _ hp)
  have pk : L2H.PinOk X.stack H1 s1 p := ⟨g1, g2, fun hm => (List.mem_cons.mp (I1.stkSub p.1 hm)).elim g3 g4, g5⟩
  refine ⟨I1.kIn, wpAny_call (codeAny_mono ((F p).go X.A X.stack s1 H1 ⟨us, []⟩ us vs Q E hr pk I1.env0 b r q) fun r s' hq => ?_)⟩
  have z := back hx I1 hq
  cases r with
  | error e => exact z
  | ok fl => cases fl <;> exact z
end
/-! ### == and repr there -/
section
variable {X : Cx} {K : PySem.W.Frag} {p : PO} {k : Nat}
theorem u_eqH (hr : RmH k X.A p) (hK : X.K = K := by rfl) : OpR X (compareOp .Eq) (rEqU K) := by
  subst hK
  have := hr.rm.un
  exact op_eq.or (op_eqD (by omega))
end
section
variable {X : Cx} {p : PO} {k : Nat}
theorem call_reprDg (hu : X.A.units + 200 < cLine) (gd : X.A.guards = some []) (hd : X.base.NoDigits) : CallR X (.builtin "repr") rReprD := by
  intro pins s σ H xs us Q I r h
  obtain ⟨a, kvs, ps, rfl, ha, pt, hz, q⟩ := h
  obtain ⟨u, rfl, ru⟩ := vals1 r
  cases (show u = Value.ref a from ru)
  have hx : ObjOk X.prog X.w H s.heap a (.dK kvs) := I.hok a _ ha
  obtain ⟨_, hsys, vs, hkv, o, es, ep, ho, hex, hda, _, hp, _⟩ := hx
  have hD : s.heap.NoDigits := hd.keeps I.bk
  have hc : o.cls = .type "dict" := hex.1
  refine call_repr_slot (T := "dict") (by omega) ⟨o, ho, hc⟩ F.slot_dict_repr ?_
  refine call_dict_reprK (as := []) (d := 0) ho hc hda hsys (fun z => nomatch z) (entriesK hD hkv hp pt) (A := X.A.in1) (g := []) gd (fun b _ => Clear.nil b) (by show X.A.units + 1 + (0 + 1) < cLine; omega) (fun _ _ z => z) (fun h' u' tk kp => ⟨_, _, rfl, ?_⟩) hz
  exact ⟨.str (dictText ps), H, I.un (Un.kept kp) (I.hok.kept kp), ⟨u', rfl⟩, q⟩
theorem call_reprSg (hu : X.A.units + 200 < cLine) (gd : X.A.guards = some []) (hd : X.base.NoDigits) : CallR X (.builtin "repr") rReprS := by
  intro pins s σ H xs us Q I r h
  obtain ⟨y, t, bs, d, rfl, hs, h60, hz, q⟩ := h
  have hD : s.heap.NoDigits := hd.keeps I.bk
  have fin : ∀ (h' : Heap) (u' tk : Tok), (∀ b o, s.heap.get? b = some o → h'.get? b = some o) → EP X pins σ Q (.str t u') { s with heap := h', toks := tk } := fun h' u' tk kp => ⟨.str t, H, I.un (Un.kept kp) (I.hok.kept kp), ⟨u', rfl⟩, q⟩
  cases hs with
  | flat tx =>
    cases tx with
    | non => exact call_repr_non pins s σ H _ us Q I r ⟨rfl, q⟩
    | bl b => exact call_repr_bl pins s σ H _ us Q I r ⟨b, rfl, q⟩
    | int i hi => exact call_repr_big hd pins s σ H _ us Q I r ⟨i, rfl, hi, q⟩
    | str x hx => exact call_repr_str pins s σ H _ us Q I r ⟨x, rfl, hx, q⟩
  | dct ha pt => exact call_reprDg hu gd hd pins s σ H _ us Q I r ⟨_, _, _, rfl, ha, pt, hz, q⟩
  | @lst0 a ha =>
    obtain ⟨u, rfl, ru⟩ := vals1 r
    cases (show u = Value.ref a from ru)
    have hx : ObjOk X.prog X.w H s.heap a (.lst _) := I.hok a _ ha
    obtain ⟨_, its, n, rv, ho⟩ := hx
    cases rv
    exact call_repr_slot (T := "list") (by omega) ⟨_, ho, rfl⟩ F.slot_list_repr.toG (call_list_repr_empty ⟨_, ho, rfl⟩ ho rfl ⟨_, _, rfl, fin s.heap _ _ fun _ _ z => z⟩)
  | @lst a ys ts bs d ha ne hs na =>
    obtain ⟨u, rfl, ru⟩ := vals1 r
    cases (show u = Value.ref a from ru)
    have hx : ObjOk X.prog X.w H s.heap a (.lst _) := I.hok a _ ha
    obtain ⟨_, its, n, rv, ho⟩ := hx
    have kk := shw_all (P := X.prog) (w := X.w) I.hok hD hs rv
    cases its with
    | nil => cases rv; exact absurd rfl ne
    | cons x l =>
      refine call_repr_slot (T := "list") (by omega) ⟨_, ho, rfl⟩ F.slot_list_repr.toG ?_
      exact call_list_reprK ho rfl rfl na (by simpa using kk.length_eq) (fun i y hy => all_at kk (by simpa using hy)) (A := X.A.in1) (g := []) gd (fun b _ => Clear.nil b) (by show X.A.units + 1 + (d + 1) < cLine; omega) (fun _ _ z => z) (fun h' u' tk kp => ⟨_, _, rfl, fin h' u' tk kp⟩) hz
  | @tup a ys ts bs d ha hs na =>
    obtain ⟨u, rfl, ru⟩ := vals1 r
    cases (show u = Value.ref a from ru)
    have hx : ObjOk X.prog X.w H s.heap a (.tup _) := I.hok a _ ha
    obtain ⟨_, its, rv, o, e2, hc, n2, hdt⟩ := hx
    have kk := shw_all (P := X.prog) (w := X.w) I.hok hD hs rv
    refine call_repr_slot (T := "tuple") (by omega) ⟨o, e2, hc⟩ F.slot_tuple_repr ?_
    exact call_tuple_reprK e2 hc hdt na (by simpa using kk) (A := X.A.in1) (g := []) gd (fun b _ => Clear.nil b) (by show X.A.units + 1 + (d + 1) < cLine; omega) (fun _ _ z => z) (fun h' u' tk kp => ⟨_, _, rfl, fin h' u' tk kp⟩) hz
theorem call_reprNg (hu : X.A.units + 200 < cLine) (gd : X.A.guards = some []) (hd : X.base.NoDigits) : CallR X (.builtin "repr") rReprN := by
  intro pins s σ H xs us Q I r h
  obtain ⟨a, kvs, ps, as, d, rfl, ha, pt, na, h50, hz, q⟩ := h
  obtain ⟨u, rfl, ru⟩ := vals1 r
  cases (show u = Value.ref a from ru)
  have hx : ObjOk X.prog X.w H s.heap a (.dK kvs) := I.hok a _ ha
  obtain ⟨_, hsys, vs, hkv, o, es, ep, ho, hex, hda, _, hp, _⟩ := hx
  have hD : s.heap.NoDigits := hd.keeps I.bk
  have hc : o.cls = .type "dict" := hex.1
  refine call_repr_slot (T := "dict") (by omega) ⟨o, ho, hc⟩ F.slot_dict_repr ?_
  refine call_dict_reprK ho hc hda hsys na (entriesN I.hok hD hkv hp pt) (A := X.A.in1) (g := []) gd (fun b _ => Clear.nil b) (by show X.A.units + 1 + (d + 1) < cLine; omega) (fun _ _ z => z) (fun h' u' tk kp => ⟨_, _, rfl, ?_⟩) hz
  exact ⟨.str (dictText ps), H, I.un (Un.kept kp) (I.hok.kept kp), ⟨u', rfl⟩, q⟩
theorem call_reprPg (hu : X.A.units + 200 < cLine) (gd : X.A.guards = some []) (hd : X.base.NoDigits) : CallR X (.builtin "repr") rReprP := by
  intro pins s σ H xs us Q I r h
  obtain ⟨v, t, rfl, ⟨l, h⟩, q⟩ := h
  have sz : (10000 : Nat) ≤ sizeLine := by decide
  rcases h with ⟨bs, d, s1, d1⟩ | ⟨a, kvs, ps, as, d, rfl, ha, pt, na, h50, rfl⟩
  · exact call_reprSg hu gd hd pins s σ H _ us Q I r ⟨v, t, bs, d, rfl, s1, by omega, by omega, q⟩
  · exact call_reprNg hu gd hd pins s σ H _ us Q I r ⟨a, kvs, ps, as, d, rfl, ha, pt, na, h50, by omega, q⟩
theorem call_reprPH (hr : RmH k X.A p) (hd : X.base.NoDigits) : CallR X (.builtin "repr") rReprP := call_reprPg (by have := hr.rm.un; omega) hr.gd hd
end
/-! ### a comprehension there -/
/-- the block's context -/
abbrev blkH (X : Cx) (p : PO) (s : Shared) (H : Hp) (scope : Scope) (cenv : Env) (fp : List Addr) : Cx := { X.blk s H scope cenv fp with pn := [p] }
section
variable {X : Cx} {p : PO} {k : Nat}
theorem blk_hot {s3 s : Shared} {H3 H : Hp} {scope : Scope} {cenv : Env} {fp : List Addr} {σ : L2.St} (I : Inv (X.blk s3 H3 scope cenv fp) [] σ H s) (h : s.heap.get? p.1 = some p.2 ∧ H p.1 = none ∧ p.1 ≠ cenv.locals ∧ p.1 ∉ frs X.stack ∧ ∀ v, p.2.data ≠ .cell v) : Inv (blkH X p s3 H3 scope cenv fp) [] σ H s :=
  (I.pins_of (pins' := [p]) fun q hq => by
    obtain rfl : q = p := by simpa using hq
    exact h).toTry _
theorem pe_lcH {elt tg iter : Expr} {ifs : List Expr} {scope : Scope} {own : List (Str × Nat)} {pos : Pos} {wi : TI} {g : TG} {tt : TT} {te : TE} (hr : RmH k X.A p) (hN : X.N.Nodup) (hi : L2H.PIH X tg iter wi) (ok : BlkOk X.N X.env.scope scope own)
    (hg : ∀ (s : Shared) (H : Hp) (C : Addr) (cl : List (Str × Addr)) (fp : List Addr), PG (blkH X p s H scope (compEnvC scope cl C X.env) fp) tg g)
    (ht : ∀ (s : Shared) (H : Hp) (C : Addr) (cl : List (Str × Addr)) (fp : List Addr), PTs (blkH X p s H scope (compEnvC scope cl C X.env) fp) ifs tt)
    (he : ∀ (s : Shared) (H : Hp) (C : Addr) (cl : List (Str × Addr)) (fp : List Addr), PE (blkH X p s H scope (compEnvC scope cl C X.env) fp) elt te)
    (hp : p ∈ X.pn := by exact List.mem_cons_self) (hs : ∀ x, foldedSetIterable iter X.env x = pure x := by intro _; rfl) :
    PE X (.ListComp elt [⟨tg, iter, ifs, 0⟩] scope pos) (tLc wi g tt te (own.map (·.2))) := by
  refine ⟨fun pins s σ H Q I h => ?_⟩
  rw [eval_ListComp]
  have cap : ∀ y ∈ scope.names, y.2 = .free → ∃ c, X.env.cells.lookup y.1 = some c := fun y hy e => I.ok.has _ (ok.free y hy e)
  refine wpAny_comprehension_free (use := none) rfl hs (closure_ok cap) ok.kind (fun y hy e => by rw [ok.uniq y hy, e]) (thn (hi.run pins s σ H _ I h) fun v1 s1 h1 => thn h1 fun v2 s2 h2 => ?_)
  obtain ⟨it, fp, tn, J, G, rfl, I2, T, t2, f2, q⟩ := h2
  refine wpAny_newObj_type (newEnv_comp ?_) (Nat.zero_le _)
  -- the list that grows
  obtain ⟨h2, g2, d2, k2, o2⟩ := s2
  have nD : G h2.objs.size = none := I2.hok.fresh (Nat.le_refl _)
  obtain ⟨W, ⟨m0, w0⟩, turn⟩ := q _ nD
  have up : ∀ b o, h2.get? b = some o → (h2.push { cls := .type "list", data := .seq ([] : List Value).toArray }).get? b = some o := fun b o e => Heap.get?_push_of_some _ e
  have I3 : Inv X pins σ (upd G h2.objs.size (.lst [])) ⟨h2.push { cls := .type "list", data := .seq ([] : List Value).toArray }, g2, d2, k2, o2⟩ :=
    I2.laid (t' := k2) up (Nat.le_refl _) ⟨Nat.zero_le _, [], 0, .nil, Heap.get?_push_size _ rfl⟩
  have lt : ∀ b ∈ fp, b < h2.objs.size := fun b hb => Heap.lt_size (T.obj _ _ t2 b hb).choose_spec.1
  have f3 : ∀ b ∈ fp, FpOk X pins (upd G h2.objs.size (.lst [])) b ∧ b < (h2.push { cls := .type "list", data := .seq ([] : List Value).toArray }).objs.size := fun b hb =>
    ⟨⟨by rw [upd_ne (Nat.ne_of_lt (lt b hb))]; exact (f2 b hb).1, (f2 b hb).2⟩, by rw [Heap.size_push]; exact Nat.lt_succ_of_lt (lt b hb)⟩
  have t3 := T.keep _ _ _ t2 fun b _ o e => up b o e
  generalize h2.objs.size = D at nD w0 turn I3 f3 ⊢
  generalize upd G D (.lst []) = G3 at w0 I3 f3
  generalize h2.push { cls := .type "list", data := .seq ([] : List Value).toArray } = h3 at up I3 f3 t3 ⊢
  -- the block
  have I4 := block_start I3 ok hN f3
  have P3 := I3.pin p (List.mem_append_left _ hp)
  have I4 := blk_hot (p := p) I4 ⟨pushCells_keeps _ _ _ _ (Heap.get?_push_of_some _ P3.1), P3.2.1, Nat.ne_of_lt (Heap.lt_size P3.1), fun hm => (List.mem_cons.mp (I3.stkSub p.1 hm)).elim P3.2.2.1 P3.2.2.2.1, P3.2.2.2.2⟩
  have t4 := T.keep _ _ _ t3 fun b _ o e => pushCells_keeps scope.names _ _ _ (Heap.get?_push_of_some { cls := .type "dict", data := .dict #[] } e)
  have pg := hg ⟨h3, g2, d2, k2, o2⟩ G3 h3.objs.size (cellsFrom (h3.objs.size + 1) scope.names (cloFrom X.env.cells scope.names [])) fp
  have pt := ht ⟨h3, g2, d2, k2, o2⟩ G3 h3.objs.size (cellsFrom (h3.objs.size + 1) scope.names (cloFrom X.env.cells scope.names [])) fp
  have pe := he ⟨h3, g2, d2, k2, o2⟩ G3 h3.objs.size (cellsFrom (h3.objs.size + 1) scope.names (cloFrom X.env.cells scope.names [])) fp
  show codeAny _ _ (.compStart (.ListComp elt [⟨tg, iter, ifs, 0⟩] scope pos) 0 (.ref it) (.ref D) (compEnvC scope (cellsFrom (h3.objs.size + 1) scope.names (cloFrom X.env.cells scope.names [])) h3.objs.size X.env)) (compPost (model X.prog X.w) X.A X.xe none _ (.ref D) h3.objs.size) _
  generalize hce : compEnvC scope (cellsFrom (h3.objs.size + 1) scope.names (cloFrom X.env.cells scope.names [])) h3.objs.size X.env = ce at I4 pg pt pe ⊢
  have cl : ce.locals = h3.objs.size := by rw [← hce]; rfl
  have hot : L2H.HotC (blkH X p ⟨h3, g2, d2, k2, o2⟩ G3 scope ce fp) := ⟨p, hr.ht, List.mem_cons_self⟩
  have own_ : ∀ {σ' : L2.St} {H' : Hp} {s' : Shared}, Inv (blkH X p ⟨h3, g2, d2, k2, o2⟩ G3 scope ce fp) [] σ' H' s' → (∀ b ∈ fp, H' b = none) → ∀ b ∈ fp, FpOk (blkH X p ⟨h3, g2, d2, k2, o2⟩ G3 scope ce fp) [] H' b := fun {σ' H' s'} J hn b hb =>
    ⟨hn b hb, (J.ok.exf b hb).1, J.ok.exfs b hb, .inl hb, (J.ok.exf b hb).2, fun q hq => by
      obtain rfl : q = p := by simpa using hq
      exact (f3 b hb).1.2.2.2.2.2 q (List.mem_append_left _ hp)⟩
  suffices L : codeAny (model X.prog X.w) X.A (.compLoop (.ListComp elt [⟨tg, iter, ifs, 0⟩] scope pos) 0 (.ref it) (.ref D) ce) (compPost (model X.prog X.w) X.A X.xe none (EP X pins σ Q) (.ref D) h3.objs.size) ⟨pushCells (h3.push { cls := .type "dict", data := .dict #[] }) scope.names, g2, d2, k2, o2⟩ from codeAny_compStart_list L (T.self X.A 0 _ _ _ t4 L)
  refine compLoop_any (fun n s' => ∃ i H', Inv (blkH X p ⟨h3, g2, d2, k2, o2⟩ G3 scope ce fp) [] (wipe σ (own.map (·.2))) H' s' ∧ tn i s'.heap ∧ (∀ b ∈ fp, H' b = none) ∧ W i n H') ?_ m0 ⟨0, G3, I4, t4, fun b hb => (f3 b hb).1.1, w0⟩
  rintro n s5 ⟨i, H5, I5, t5, n5, w5⟩
  rcases turn i n H5 w5 with ⟨stop, qe⟩ | ⟨go, Nx, hN', step⟩
  · refine thnF (T.done (blkH X p ⟨h3, g2, d2, k2, o2⟩ G3 scope ce fp) rfl rfl rfl hot i [] s5 _ H5 _ I5 (own_ I5 n5) t5 stop) fun r s6 ⟨er, I6⟩ => ?_
    subst er
    have back : Inv X pins σ H5 s6 := I3.call' (ch := fp) I6.os I6.base I6.hok I6.bare fun b hb => ⟨(f3 b hb).1.2.2.2.1, (f3 b hb).1.2.1, (f3 b hb).1.2.2.2.2.1, (f3 b hb).1.2.2.2.2.2⟩
    have fr : H5 ce.locals = none := I6.free
    obtain ⟨m, hm, _⟩ := I6.loc
    have hm : s6.heap.Ns ce.locals m := hm
    rw [cl] at fr hm
    obtain ⟨e0, e1, e2, e3, e4, e5⟩ := I3.fpOk (Nat.le_refl _) fr
    exact ⟨m, hm, fun h7 sb => ⟨.ref D, H5, back.turned (t' := s6.toks) (fun b o hb e => (sb.2 b hb).trans e) e0 e1 e3 e4 e5, rfl, qe⟩⟩
  · refine thnF (T.item (blkH X p ⟨h3, g2, d2, k2, o2⟩ G3 scope ce fp) rfl rfl rfl hot i [] s5 _ H5 _ I5 (own_ I5 n5) t5 go) fun r s6 ⟨u, er, h6⟩ => ?_
    subst er
    refine thnF h6 fun _ s7 ⟨x, H7, I7, r7, y7, t7, n7⟩ => ?_
    have I7 := I7.pinned (own_ I7 n7) (T.obj _ _ t7)
    refine thnF (pg.run _ s7 _ H7 x u _ I7 r7 (step x H7 y7)) fun _ s8 ⟨σ8, H8, I8, ew, q8⟩ => ?_
    have again : ∀ {s' : Shared} {H' : Hp}, Inv (blkH X p ⟨h3, g2, d2, k2, o2⟩ G3 scope ce fp) ([] ++ pinsAt fp s7.heap) σ8 H' s' → Nx H' →
        ∃ m, m < n ∧ ∃ i H', Inv (blkH X p ⟨h3, g2, d2, k2, o2⟩ G3 scope ce fp) [] (wipe σ (own.map (·.2))) H' s' ∧ tn i s'.heap ∧ (∀ b ∈ fp, H' b = none) ∧ W i m H' := fun {s' H'} J nx => by
      obtain ⟨m, lm, wm⟩ := hN' H' nx
      have kp : ∀ b ∈ fp, ∀ o, s7.heap.get? b = some o → s'.heap.get? b = some o ∧ H' b = none := fun b hb o e => by
        have z := J.pin (b, o) (List.mem_append_right _ (List.mem_append_right _ (mem_pinsAt hb e)))
        exact ⟨z.1, z.2.1⟩
      refine ⟨m, lm, i + 1, H', (J.unpinned (pins := [])).weak (by rw [← ew, wipe_length]) (fun j v e => ?_), T.keep _ _ _ t7 fun b hb o e => (kp b hb o e).1, fun b hb => ?_, wm⟩
      · rw [← ew] at e
        exact (wipe_some e).1
      · obtain ⟨o, e, _⟩ := T.obj _ _ t7 b hb
        exact (kp b hb o e).2
    refine thnF (pt.run _ s8 σ8 H8 _ I8 q8) fun b s9 ⟨H9, I9, q9⟩ => ?_
    cases b with
    | false =>
      rw [if_neg Bool.false_ne_true] at q9 ⊢
      exact again I9 q9
    | true =>
      rw [if_pos rfl] at q9 ⊢
      refine thnF (pe.run _ s9 σ8 H9 _ I9 q9) fun z s10 ⟨y, H10, I10, r10, acc, hD, hz, nx⟩ => ?_
      exact app_ok (X := blkH X p ⟨h3, g2, d2, k2, o2⟩ G3 scope ce fp) I10 hD hz r10 fun s11 I11 => again I11 nx
end
end VB
/-! except (A, B, ..): tuples of any length -/
namespace PySem.W
open PySem PySem.Spec PySem.Calls PyProof.Rows
section
variable {M : Model} {K : Frag} {h : Heap}
/-- a loop that reads only, and stops at the first c with g c -/
theorem looks_forIn {α β : Type} {f : α → β → Sem (ForInStep β)} {g : α → Bool} {b0 r1 : β} : ∀ {l : List α}, (∀ c ∈ l, Looks M h (f c b0) (if g c = true then .done r1 else .yield b0)) → Looks M h (forIn l b0 f) (if l.any g = true then r1 else b0)
  | [], _ => fun A Q E s k q => by
    rw [List.forIn_nil]
    exact wpAny_pure q
  | c :: l, hf => fun A Q E s k q => by
    rw [List.forIn_cons]
    refine wpAny_bind (hf c List.mem_cons_self A _ E s k ?_)
    rw [List.any_cons] at q
    cases hg : g c with
    | true =>
      rw [hg, Bool.true_or, if_pos rfl] at q
      rw [if_pos rfl]
      exact wpAny_pure q
    | false =>
      rw [hg, Bool.false_or] at q
      rw [if_neg Bool.false_ne_true]
      exact looks_forIn (fun c' hc => hf c' (List.mem_cons_of_mem _ hc)) A Q E s k q
theorem exmAny_any {cls : Value} : ∀ {cs : List Value} {b : Bool}, exmAny K cls cs = some b → (∀ c ∈ cs, ∃ v, exmOne K cls c = some v) ∧ cs.any (fun c => exmOne K cls c == some true) = b
  | [], b, e => ⟨fun c hc => (by cases hc), (by cases e; rfl)⟩
  | c :: cs, b, e => by
    obtain ⟨b1, d1, x1, x2, rfl⟩ := exmAny_cons e
    obtain ⟨h1, h2⟩ := exmAny_any x2
    refine ⟨fun c' hc => ?_, ?_⟩
    · rcases List.mem_cons.mp hc with rfl | hc
      · exact ⟨b1, x1⟩
      · exact h1 c' hc
    · rw [List.any_cons, h2, x1]
      cases b1 <;> rfl
theorem exm_tupN {cs : List Value} {cls : Value} {tp e : Addr} {b : Bool} (X : K.In h) (LT : Looks M h (typeOf (.ref e)) cls) (hp : h.get? tp = some { cls := .type "tuple", data := .seq cs.toArray }) (hx : exmAny K cls cs = some b) : Looks M h (excMatches (.ref e) (.ref tp)) b := by
  intro A Q E s k₀ q
  obtain ⟨hh, g, d, tk, os⟩ := s
  have k : ∀ b o, h.get? b = some o → hh.get? b = some o := k₀
  obtain ⟨hall, hany⟩ := exmAny_any hx
  have LT0 : Looks M h (isInstance (.ref tp) (.type "tuple")) true := ((Looks.ld hp).andThen .now).andThen (Looks.of_pure isSubtype_tuple_tuple)
  unfold excMatches
  refine wpAny_bind ((LT0.keeps k).at ?_)
  dsimp only
  rw [if_pos rfl]
  first
    | refine wpAny_bind (wpAny_seqItems (k _ _ hp) rfl ?_)
    | refine wpAny_bind (wpAny_bind (wpAny_seqItems (k _ _ hp) rfl (wpAny_pure ?_)))
  dsimp only [Option.getD_some, Option.getD]
  refine wpAny_bind (wpAny_pure ?_)
  refine wpAny_bind (((looks_forIn (M := M) (h := h) (g := fun _ => false) (r1 := PUnit.unit) fun c hc => ?_).keeps k).at ?_)
  · intro A Q E s k q
    obtain ⟨v, hv⟩ := hall c hc
    obtain ⟨e1, S1⟩ := exm_cls (M := M) X hv
    refine wpAny_bind ((e1.keeps k).here ?_)
    exact wpAny_pure q
  · refine wpAny_bind ((LT.keeps k).at ?_)
    refine wpAny_bind (((looks_forIn (M := M) (h := h) (g := fun c => exmOne K cls c == some true) (r1 := (some true, ())) fun c hc => ?_).keeps k).at ?_)
    · intro A Q E s k q
      obtain ⟨v, hv⟩ := hall c hc
      obtain ⟨e1, S1⟩ := exm_cls (M := M) X hv
      refine wpAny_bind ((S1.keeps k).here ?_)
      rw [hv] at q
      cases v <;> exact wpAny_pure q
    · rw [hany]
      cases b <;> exact wpAny_pure q
end
end PySem.W
namespace VB
open PySem PySem.Spec PyProof.Rows L2
abbrev TSu := Addr → Value → Option Addr → TS
/-- what clauses with tuples of classes wish of an exception of the body; none flies on -/
def wTup (K : PySem.W.Frag) (D : Ends) : List (List Addr × TSu) → WX
  | [] => fun _ _ _ _ => False
  | (as, ts) :: r => fun cls d σ H => ∃ b, PySem.W.exmAny K cls (as.map .ref) = some b ∧ (b = true → ∀ a, H a = none → ts a cls d D σ H) ∧ (b = false → wTup K D r cls d σ H)
/-- written names of the classes at as -/
inductive NmsT (X : Cx) : List Expr → List Addr → Prop
  | nil : NmsT X [] []
  | cons {x : Str} {C : Addr} {p : Pos} {es : List Expr} {as : List Addr} (hg : Gl X x) (hm : X.mg x = some (.ref C)) (hd : (x == ("__debug__" : Str)) = false) (hst : starEach (.Name x p :: es) X.env = (false, eval (.Name x p) X.env) :: starEach es X.env) (r : NmsT X es as) :
      NmsT X (.Name x p :: es) (C :: as)
theorem nms_run {X : Cx} {pos : Pos} {a : Addr} {pn pins : List PO} {σ : L2.St} {H : Hp} {s : Shared} {E : Value → Shared → Prop} (S : Inv (X.suite a pn) pins σ H s) {es : List Expr} {as : List Addr} (N : NmsT X es as) : ∀ {Q : List Value → Shared → Prop}, Q (as.map .ref) s →
    wpAny (model X.prog X.w) (X.A.mark (some (.ref a))) (spliced (backTo pos (starEach es X.env))) Q E s := by
  induction N with
  | nil => exact fun q => Calls.spliced_nil q
  | @cons x C p es as hg hm hd hst r ih =>
    intro Q q
    rw [hst]
    show wpAny _ _ (spliced ((false, eval (.Name x p) X.env) :: backTo pos (starEach es X.env))) _ _ s
    refine Calls.spliced_cons (ld_glob (X := X.suite a pn) S hg hm ?_ hd)
    exact ih q
inductive HdsT (X : Cx) : List ExceptHandler → List (List Addr × TSu) → Prop
  | nil : HdsT X [] []
  | cons {es : List Expr} {as : List Addr} {ts : TSu} {b₀ : Stmt} {suite : List Stmt} {x1} {np pos' : Pos} {hds : List ExceptHandler} {l : List (List Addr × TSu)} (hl : as.length ≤ sizeLine) (ht : NmsT X es as)
      (hsu : ∀ (a : Addr) (oe : Obj) (cls : Value) (d : Option Addr) (pn : List PO), L2N.Zn cls d oe → (∃ vs, oe.data = .fields vs) → PSs (X.suite a ((a, oe) :: pn)) (b₀ :: suite) (ts a cls d)) (r : HdsT X hds l) :
      HdsT X (.ExceptHandler (some (.Tuple es x1 np)) none (b₀ :: suite) pos' :: hds) ((as, ts) :: l)
section
variable {X : Cx} {body : List Stmt} {h₀ : ExceptHandler} {hds : List ExceptHandler} {l : List (List Addr × TSu)} {pos : Pos} {tb : WX → TS}
/-- the clauses, one after the other, for the landed error a -/
theorem tup_clauses {pins : List PO} {σ : L2.St} {H : Hp} {sI s : Shared} {D : Ends} {a : Addr} {B : Heap} {cls : Value} {d : Option Addr} (ok : X.Ok) (J : Inv X pins σ H sI) (nb : ∀ b o, sI.heap.get? b = some o → b ∉ frs X.stack → B.get? b = some o) (hs : X.stack = X.env :: X.outer)
    (na : H a = none) (os : s.os = sI.os) (ag : AllBare s.gens) (nL : a ≠ X.env.locals) (nF : a ∉ X.fs) :
    ∀ {hds : List ExceptHandler} {l : List (List Addr × TSu)}, HdsT X hds l → ∀ (h3 : Heap) (tk : Nat), HandSPX.FlyingZ B (X.env :: X.outer) a (L2N.Zn cls d) h3 → sI.heap.UpToSlots h3 → wTup X.K D l cls d σ H →
      wpAny (model X.prog X.w) X.A (handleBy (.ref a) X.env hds) (SP X pins D) X.xe { s with heap := h3, toks := tk } := by
  intro hds l hk
  induction hk with
  | nil => exact fun _ _ _ _ w => w.elim
  | @cons es as ts b₀ suite x1 np pos' hds2 l2 hl ht hsu r ih =>
    intro h3 tk fl up w
    obtain ⟨b, hb, hyes, hno⟩ := w
    have J3 : Inv X pins σ H { s with heap := h3 } := J.landed nb fl.1 up os ag
    obtain ⟨oe, vs, he, hz, hd⟩ := fl.there
    have S3 : Inv (X.suite a ((a, oe) :: (X.pn ++ pins))) [] σ H { s with heap := h3, toks := tk } := (J3.suite he hd na nL nF).tok _
    refine wpAny_handleBy_cons (codeAny_handlers_test ?_) (by intro q; cases q)
    refine wpAny_Tuple_spliced (nms_run S3 ht ⟨by rw [List.length_map]; exact hl, ?_⟩)
    show wpAny _ _ (excMatches (.ref a) (.ref h3.objs.size)) _ _ { s with heap := h3.push { cls := .type "tuple", data := .seq (as.map Value.ref).toArray }, toks := tk }
    have kp : ∀ b o, h3.get? b = some o → (h3.push { cls := .type "tuple", data := .seq (as.map Value.ref).toArray }).get? b = some o := fun b o e => Heap.get?_push_of_some _ e
    have tp : (h3.push { cls := .type "tuple", data := .seq (as.map Value.ref).toArray }).get? h3.objs.size = some { cls := .type "tuple", data := .seq (as.map Value.ref).toArray } := Heap.get?_push_size _ rfl
    have fl4 : HandSPX.FlyingZ B (X.env :: X.outer) a (L2N.Zn cls d) (h3.push { cls := .type "tuple", data := .seq (as.map Value.ref).toArray }) := by
      obtain ⟨k1, k2, k3, oe', vs', T, oT, ts', he', hz', hd', h1', hb', hne, hT, hdT, h3'⟩ := fl
      exact ⟨fun b o e => kp _ _ (k1 b o e), k2, k3.of_keeps (fun b o e _ => ⟨o, kp b o e, rfl⟩), oe', vs', T, oT, ts', kp _ _ he', hz', hd', h1', hb', hne, kp _ _ hT, hdT, h3'⟩
    have up4 := up.trans (Heap.UpToSlots.of_keeps kp)
    have he4 := kp _ _ he
    generalize h3.push { cls := .type "tuple", data := .seq (as.map Value.ref).toArray } = h4 at kp tp fl4 up4 he4 ⊢
    have LT : PySem.W.Looks (model X.prog X.w) h4 (typeOf (.ref a)) cls := fun A Q E s k q => wpAny_typeOf_ref (k _ _ he4) (by rw [hz.1]; exact q)
    have LM := PySem.W.exm_tupN (M := model X.prog X.w) (J3.kIn.keeps kp) LT tp hb
    refine LM.here ?_
    cases b with
    | false => exact ih h4 tk fl4 up4 (hno rfl)
    | true =>
      refine codeAny_handlers_suite (HandSPX.lands_againZ fl4 fun h5 fl5 up5 => ?_)
      have J5 : Inv X pins σ H { s with heap := h5 } := J.landed nb fl5.1 (up4.trans up5) os ag
      obtain ⟨oe5, vs5, he5, hz5, hd5⟩ := fl5.there
      have S5 : Inv (X.suite a ((a, oe5) :: (X.pn ++ pins))) [] σ H { s with heap := h5, toks := tk } := (J5.suite he5 hd5 na nL nF).tok _
      refine wpAny_mono ((hsu a oe5 cls d (X.pn ++ pins) hz5 ⟨_, hd5⟩).run [] _ _ H _ S5 (hyes rfl a na)) (fun f s6 z => ?_) fun _ _ z => False.elim z
      cases f with
      | ret u =>
        obtain ⟨v, σ6, H6, S6, r6, q6⟩ := z
        exact ⟨v, σ6, H6, S6.unsuite ok, r6, q6⟩
      | next =>
        obtain ⟨σ6, H6, S6, q6⟩ := z
        exact ⟨σ6, H6, S6.unsuite ok, q6⟩
      | brk =>
        obtain ⟨σ6, H6, S6, q6⟩ := z
        exact ⟨σ6, H6, S6.unsuite ok, q6⟩
      | cont =>
        obtain ⟨σ6, H6, S6, q6⟩ := z
        exact ⟨σ6, H6, S6.unsuite ok, q6⟩
theorem ps_try_tup (hs : X.stack = X.env :: X.outer) (hf : X.env.frame = some X.env.locals) (hb : ∀ (W : WX) (pn : List PO) (xe : Value → Shared → Prop), L2N.Takes (X.tr pn xe) W → PassesOwn (model X.prog X.w) X.A X.env xe → PSs (X.tr pn xe) body (tb W)) (hh : HdsT X (h₀ :: hds) l) :
    PS X (.Try body (h₀ :: hds) [] [] pos) (fun D σ H => tb (wTup X.K D l) D σ H) := by
  refine ⟨fun pins s σ H D I h => ?_⟩
  have ok := I.ok
  have hfr : X.A.frames = some (X.env :: X.outer) := by rw [ok.frames, hs]
  refine wpAny_Try_except (wpAny_mono ((hb (wTup X.K D l) (X.pn ++ pins) (fun e s₁ => wpAny (model X.prog X.w) X.A (noteFrame e X.env) (fun _ s₂ => wpAny (model X.prog X.w) X.A (setFlight e none) (fun _ s₃ => wpAny (model X.prog X.w) X.A (handleBy e X.env (h₀ :: hds)) (SP X pins D) X.xe s₃) X.xe s₂) X.xe s₁)
    (fun u s' xx => ?_) PassesOwn.looking).run [] s σ H D (I.toTry _) h) (fun f s1 z => ?_) fun _ _ z => z)
  · obtain ⟨a, B, sI, pn', σ', H', cls, d, rfl, J', nb, up, sky, na, os, ag, w⟩ := xx
    have J : Inv X pins σ' H' sI := J'.ofTry ok
    have sky' : Sky B (X.env :: X.outer) a (L2N.Zn cls d) X.env.locals s'.heap := by rw [← hs]; exact sky
    refine L2N.Sky.land L2N.Zn.steady hfr hf sky' fun h3 fl3 up3 => ?_
    obtain ⟨oe, vs, he, _, hd⟩ := fl3.there
    have out : a ∉ frs (X.env :: X.outer) := fun hm => by
      obtain ⟨_, o', e', nf⟩ := fl3.2.2.1.mem hm
      rw [he] at e'
      cases e'
      exact nf _ hd
    obtain ⟨g3, gg, gd, gt, go⟩ := s'
    exact tup_clauses ok J nb hs na os ag (fun z => out (List.mem_filterMap.mpr ⟨X.env, List.mem_cons_self, by rw [hf, z]⟩)) (fun hm => by
      obtain ⟨e, he, q⟩ := List.mem_filterMap.mp hm
      exact out (List.mem_filterMap.mpr ⟨e, List.mem_cons_of_mem _ he, q⟩)) hh h3 gt fl3 (up.trans up3) w
  · cases f with
    | ret u =>
      obtain ⟨v, σ', H', J', r, q⟩ := z
      exact ⟨v, σ', H', J'.ofTry ok, r, q⟩
    | next =>
      obtain ⟨σ', H', J', q⟩ := z
      exact wpAny_execs_nil ⟨σ', H', J'.ofTry ok, q⟩
    | brk =>
      obtain ⟨σ', H', J', q⟩ := z
      exact ⟨σ', H', J'.ofTry ok, q⟩
    | cont =>
      obtain ⟨σ', H', J', q⟩ := z
      exact ⟨σ', H', J'.ofTry ok, q⟩
end
end VB
namespace K0
open PySem PySem.Spec PyProof.Rows L2 VB
section
variable {P : Program} {w : World} {K : PySem.W.Frag} {mg : Str → Option Value} {base : Heap} {f : Addr} {fd : FuncData}
/-- .. or one of the context's pins -/
def AnyP (K : PySem.W.Frag) (pn : List PO) (H : Hp) (a : Addr) (i : Nat) : Prop := i < 26 ∧ ∃ d, ErrP pn H a (Er K (nm i)) d ∧ ∀ dd, d = some dd → ∃ fs, FldAt H dd fs
def EP1 (K : PySem.W.Frag) (pn : List PO) (H : Hp) (a : Addr) (i : Nat) (x : V) : Prop := i < 23 ∧ ∃ d, ErrP pn H a (Er K (nm i)) (some d) ∧ FldAt H d [(fl i, x)]
theorem AnyAt.p {K : PySem.W.Frag} {pn : List PO} {H : Hp} {a : Addr} {i : Nat} (h : AnyAt K H a i) : AnyP K pn H a i := by
  obtain ⟨h1, d, h2, h3⟩ := h
  exact ⟨h1, d, .inl h2, h3⟩
theorem EAt.p {K : PySem.W.Frag} {pn : List PO} {H : Hp} {a : Addr} {i : Nat} {x : V} (h : EAt K H a i x) : EP1 K pn H a i x := by
  obtain ⟨h1, d, h2, h3⟩ := h
  exact ⟨h1, d, .inl h2, h3⟩
theorem AnyP.ex {K : PySem.W.Frag} {pn : List PO} {H H' : Hp} {a : Addr} {i : Nat} (h : AnyP K pn H a i) (e : Evl.Ex H H') : AnyP K pn H' a i := by
  obtain ⟨h1, d, h2, h3⟩ := h
  exact ⟨h1, d, h2.ex e, fun dd z => (h3 dd z).imp fun fs h4 => h4.ex e⟩
theorem EP1.any {K : PySem.W.Frag} {pn : List PO} {H : Hp} {a : Addr} {i : Nat} {x : V} (h : EP1 K pn H a i x) : AnyP K pn H a i := by
  obtain ⟨h1, d, h2, h3⟩ := h
  exact ⟨by omega, some d, h2, fun dd z => by cases z; exact ⟨_, h3⟩⟩
theorem isx (F : Fs K) {pn : List PO} {H : Hp} {Q : VK} {a : Addr} {i : Nat} (h : AnyP K pn H a i) (j : Nat) (hj : j < 26) (q : Q (.bl (decide (i = j))) H) : rIsX K pn [.ref a, .ref (Er K (nm j))] H Q := by
  obtain ⟨h1, d, h2, h3⟩ := h
  exact ⟨a, _, d, _, _, _, rfl, F.xf i h1, F.ix i h1, h2, h3, (fun u r => r), F.kit i j h1 hj, q⟩
def isTA (K : PySem.W.Frag) (pn : List PO) : List Addr → TA
  | [] => tNil
  | C :: r => tCons (tCB (rIsX K pn) (tCons (tVar 0) (tCons (tC (V.ref C)) tNil))) (isTA K pn r)
abbrev bs26 (i k n : Nat) : List V := (List.range n).map fun j => V.bl (decide (i = k + j))
theorem bs26_cons (i k n : Nat) : bs26 i k (n + 1) = V.bl (decide (i = k)) :: bs26 i (k + 1) n := by
  unfold bs26
  rw [List.range_succ_eq_map, List.map_cons, List.map_map]
  congr 1
  refine List.map_congr_left fun j _ => ?_
  show V.bl (decide (i = k + (j + 1))) = V.bl (decide (i = k + 1 + j))
  rw [show k + (j + 1) = k + 1 + j by omega]
theorem isTA_run (F : Fs K) {pn : List PO} {σ : L2.St} {a : Addr} {i : Nat} (hσ : σ[0]? = some (some (.ref a))) : ∀ (l : List Addr) (k : Nat) (H : Hp) (Q : List V → Hp → Prop), AnyP K pn H a i → k + l.length ≤ 26 → (∀ j p, l[j]? = some p → p = Er K (nm (k + j))) → Q (bs26 i k l.length) H → isTA K pn l σ H Q
  | [], k, H, Q, _, _, _, q => q
  | C :: l, k, H, Q, h, hk, hl, q => by
    have hk' : k + (l.length + 1) ≤ 26 := hk
    have e := hl 0 C rfl
    rw [Nat.add_zero] at e
    subst e
    refine ⟨_, hσ, ?_⟩
    show rIsX K pn [.ref a, .ref (Er K (nm k))] H fun x H1 => isTA K pn l σ H1 fun xs H2 => Q (x :: xs) H2
    refine isx F h k (by omega) ?_
    refine isTA_run F hσ l (k + 1) H _ h (by omega) (fun j p hp => by
      have := hl (j + 1) p (by simpa using hp)
      have e : k + 1 + j = k + (j + 1) := by omega
      rw [e]
      exact this) ?_
    rw [← bs26_cons]
    exact q
theorem cis_te (F : Fs K) {pn : List PO} {σ : L2.St} {H : Hp} {Q : VK} {a p : Addr} {i : Nat} (l : List Addr) (k : Nat) (h0 : σ[0]? = some (some (.ref a))) (h1 : σ[1]? = some (some (.ref p))) (h : AnyP K pn H a i) (hp : H p = some (.lst (bs26 i 0 k))) (hk : k + l.length ≤ 26) (hl : ∀ j p, l[j]? = some p → p = Er K (nm (k + j)))
    (q : ∀ (r : Addr) (H' : Hp), Evl.Ex H H' → H r = none → H' r = some (.lst (bs26 i 0 (k + l.length))) → Q (.ref r) H') : tOp (rAddU K) (tVar 1) (tLst (isTA K pn l)) σ H Q := by
  have len : ∀ k n, (bs26 i k n).length = n := fun k n => by simp
  refine ⟨_, h1, lst_step ?_⟩
  refine isTA_run F h0 l k _ _ h hk hl ⟨by rw [len]; exact Evl.sz_of (by omega), fun p2 n2 => ?_⟩
  have y := Evl.Ex.new (o := .lst (bs26 i k l.length)) n2
  refine .inr (.inl ⟨p, p2, _, _, rfl, rfl, y _ _ hp, upd_same, by rw [len, len]; exact Evl.sz_of (by omega), fun r nr => ?_⟩)
  have y2 := Evl.Ex.new (o := .lst (bs26 i 0 k ++ bs26 i k l.length)) nr
  refine q r _ (y.trans y2) (Evl.fresh_back y nr) ?_
  rw [upd_same]
  have e : bs26 i 0 k ++ bs26 i k l.length = bs26 i 0 (k + l.length) := by
    unfold bs26
    rw [List.range_add, List.map_append, List.map_map]
    congr 1
    refine List.map_congr_left fun j _ => ?_
    show _ = V.bl (decide (i = 0 + (k + j)))
    rw [Nat.zero_add]
  rw [e]
def spSorts (K : PySem.W.Frag) (pn : List PO) : Sp := fun vs H Q _ => ∃ (a : Addr) (i : Nat), vs = [.ref a] ∧ AnyP K pn H a i ∧ RL (bs26 i 0 26) H Q
theorem ok_sorts (T : Txt K mg) (Fk : Fs K) (F : FnP K "_law_sorts" s__law_sorts f fd) : Fg P w K mg base CX0 1 f fd ["_law_e"] (spSorts K []) := by
  refine fg_of F sc__law_sorts (fun vs H Q E h => ?_) (fun cdv A outer s H vs Q E hr h => ⟨_, (PSs.nox (pss_cons (ps_set (i := 1) sc__law_sorts.nd rfl (by first | exact Or.inl rfl | exact Or.inr rfl) (pe_lst (pa_cons (pe_callB call_isX (by rfl) T.f_isinstance (by decide +kernel) (pa_cons (pv 0) (pa_cons (pe_glob (v := .ref (He.ga K "InvalidOctets")) rfl T.g_InvalidOctets rfl) pa_nil))) (pa_cons (pe_callB call_isX (by rfl) T.f_isinstance (by decide +kernel) (pa_cons (pv 0) (pa_cons (pe_glob (v := .ref (He.ga K "InvalidCount")) rfl T.g_InvalidCount rfl) pa_nil))) (pa_cons (pe_callB call_isX (by rfl) T.f_isinstance (by decide +kernel) (pa_cons (pv 0) (pa_cons (pe_glob (v := .ref (He.ga K "InvalidNumber")) rfl T.g_InvalidNumber rfl) pa_nil))) pa_nil)))))
  (pss_cons (ps_set (i := 1) sc__law_sorts.nd rfl (by first | exact Or.inl rfl | exact Or.inr rfl) (pe_op (u_add (K := K)) (pv 1) (pe_lst (pa_cons (pe_callB call_isX (by rfl) T.f_isinstance (by decide +kernel) (pa_cons (pv 0) (pa_cons (pe_glob (v := .ref (He.ga K "InvalidMask")) rfl T.g_InvalidMask rfl) pa_nil))) (pa_cons (pe_callB call_isX (by rfl) T.f_isinstance (by decide +kernel) (pa_cons (pv 0) (pa_cons (pe_glob (v := .ref (He.ga K "InvalidOp")) rfl T.g_InvalidOp rfl) pa_nil))) (pa_cons (pe_callB call_isX (by rfl) T.f_isinstance (by decide +kernel) (pa_cons (pv 0) (pa_cons (pe_glob (v := .ref (He.ga K "InvalidBlock")) rfl T.g_InvalidBlock rfl) pa_nil))) pa_nil))))))
  (pss_cons (ps_set (i := 1) sc__law_sorts.nd rfl (by first | exact Or.inl rfl | exact Or.inr rfl) (pe_op (u_add (K := K)) (pv 1) (pe_lst (pa_cons (pe_callB call_isX (by rfl) T.f_isinstance (by decide +kernel) (pa_cons (pv 0) (pa_cons (pe_glob (v := .ref (He.ga K "InvalidPage")) rfl T.g_InvalidPage rfl) pa_nil))) (pa_cons (pe_callB call_isX (by rfl) T.f_isinstance (by decide +kernel) (pa_cons (pv 0) (pa_cons (pe_glob (v := .ref (He.ga K "InvalidShape")) rfl T.g_InvalidShape rfl) pa_nil))) (pa_cons (pe_callB call_isX (by rfl) T.f_isinstance (by decide +kernel) (pa_cons (pv 0) (pa_cons (pe_glob (v := .ref (He.ga K "InvalidImage")) rfl T.g_InvalidImage rfl) pa_nil))) pa_nil))))))
  (pss_cons (ps_set (i := 1) sc__law_sorts.nd rfl (by first | exact Or.inl rfl | exact Or.inr rfl) (pe_op (u_add (K := K)) (pv 1) (pe_lst (pa_cons (pe_callB call_isX (by rfl) T.f_isinstance (by decide +kernel) (pa_cons (pv 0) (pa_cons (pe_glob (v := .ref (He.ga K "InvalidData")) rfl T.g_InvalidData rfl) pa_nil))) (pa_cons (pe_callB call_isX (by rfl) T.f_isinstance (by decide +kernel) (pa_cons (pv 0) (pa_cons (pe_glob (v := .ref (He.ga K "InvalidRecord")) rfl T.g_InvalidRecord rfl) pa_nil))) (pa_cons (pe_callB call_isX (by rfl) T.f_isinstance (by decide +kernel) (pa_cons (pv 0) (pa_cons (pe_glob (v := .ref (He.ga K "InvalidPath")) rfl T.g_InvalidPath rfl) pa_nil))) pa_nil))))))
  (pss_cons (ps_set (i := 1) sc__law_sorts.nd rfl (by first | exact Or.inl rfl | exact Or.inr rfl) (pe_op (u_add (K := K)) (pv 1) (pe_lst (pa_cons (pe_callB call_isX (by rfl) T.f_isinstance (by decide +kernel) (pa_cons (pv 0) (pa_cons (pe_glob (v := .ref (He.ga K "InvalidDeed")) rfl T.g_InvalidDeed rfl) pa_nil))) (pa_cons (pe_callB call_isX (by rfl) T.f_isinstance (by decide +kernel) (pa_cons (pv 0) (pa_cons (pe_glob (v := .ref (He.ga K "InvalidLine")) rfl T.g_InvalidLine rfl) pa_nil))) (pa_cons (pe_callB call_isX (by rfl) T.f_isinstance (by decide +kernel) (pa_cons (pv 0) (pa_cons (pe_glob (v := .ref (He.ga K "InvalidScript")) rfl T.g_InvalidScript rfl) pa_nil))) pa_nil))))))
  (pss_cons (ps_set (i := 1) sc__law_sorts.nd rfl (by first | exact Or.inl rfl | exact Or.inr rfl) (pe_op (u_add (K := K)) (pv 1) (pe_lst (pa_cons (pe_callB call_isX (by rfl) T.f_isinstance (by decide +kernel) (pa_cons (pv 0) (pa_cons (pe_glob (v := .ref (He.ga K "InvalidTree")) rfl T.g_InvalidTree rfl) pa_nil))) (pa_cons (pe_callB call_isX (by rfl) T.f_isinstance (by decide +kernel) (pa_cons (pv 0) (pa_cons (pe_glob (v := .ref (He.ga K "InvalidChip")) rfl T.g_InvalidChip rfl) pa_nil))) (pa_cons (pe_callB call_isX (by rfl) T.f_isinstance (by decide +kernel) (pa_cons (pv 0) (pa_cons (pe_glob (v := .ref (He.ga K "InvalidRecords")) rfl T.g_InvalidRecords rfl) pa_nil))) pa_nil))))))
  (pss_cons (ps_set (i := 1) sc__law_sorts.nd rfl (by first | exact Or.inl rfl | exact Or.inr rfl) (pe_op (u_add (K := K)) (pv 1) (pe_lst (pa_cons (pe_callB call_isX (by rfl) T.f_isinstance (by decide +kernel) (pa_cons (pv 0) (pa_cons (pe_glob (v := .ref (He.ga K "InvalidName")) rfl T.g_InvalidName rfl) pa_nil))) (pa_cons (pe_callB call_isX (by rfl) T.f_isinstance (by decide +kernel) (pa_cons (pv 0) (pa_cons (pe_glob (v := .ref (He.ga K "InvalidPlans")) rfl T.g_InvalidPlans rfl) pa_nil))) (pa_cons (pe_callB call_isX (by rfl) T.f_isinstance (by decide +kernel) (pa_cons (pv 0) (pa_cons (pe_glob (v := .ref (He.ga K "PowerCut")) rfl T.g_PowerCut rfl) pa_nil))) pa_nil))))))
  (pss_cons (ps_set (i := 1) sc__law_sorts.nd rfl (by first | exact Or.inl rfl | exact Or.inr rfl) (pe_op (u_add (K := K)) (pv 1) (pe_lst (pa_cons (pe_callB call_isX (by rfl) T.f_isinstance (by decide +kernel) (pa_cons (pv 0) (pa_cons (pe_glob (v := .ref (He.ga K "TooMany")) rfl T.g_TooMany rfl) pa_nil))) (pa_cons (pe_callB call_isX (by rfl) T.f_isinstance (by decide +kernel) (pa_cons (pv 0) (pa_cons (pe_glob (v := .ref (He.ga K "NoThing")) rfl T.g_NoThing rfl) pa_nil))) pa_nil)))))
  (pss_one (ps_ret (pe_op (u_add (K := K)) (pv 1) (pe_lst (pa_cons (pe_callB call_isX (by rfl) T.f_isinstance (by decide +kernel) (pa_cons (pv 0) (pa_cons (pe_glob (v := .ref (He.ga K "NotReady")) rfl T.g_NotReady rfl) pa_nil))) (pa_cons (pe_callB call_isX (by rfl) T.f_isinstance (by decide +kernel) (pa_cons (pv 0) (pa_cons (pe_glob (v := .ref (He.ga K "NoRoom")) rfl T.g_NoRoom rfl) pa_nil))) (pa_cons (pe_callB call_isX (by rfl) T.f_isinstance (by decide +kernel) (pa_cons (pv 0) (pa_cons (pe_glob (v := .ref (He.ga K "NothingToUndo")) rfl T.g_NothingToUndo rfl) pa_nil))) pa_nil)))))))))))))))), ?_⟩)
  · obtain ⟨a, i, rfl, _⟩ := h
    rfl
  · obtain ⟨a, i, rfl, h, q⟩ := h
    have hl : ∀ (a : Nat) (l : List Addr), l = (List.range l.length).map (fun j => Er K (nm (a + j))) → ∀ j p, l[j]? = some p → p = Er K (nm (a + j)) := fun a l e j p hp => by
      rw [e, List.getElem?_map] at hp
      obtain ⟨n, hn, rfl⟩ := Option.map_eq_some_iff.mp hp
      rw [List.getElem?_eq_some_iff] at hn
      obtain ⟨h1, h2⟩ := hn
      rw [List.getElem_range] at h2
      rw [h2]
    refine asg_step (lst_step ?_)
    refine isTA_run Fk rfl [Er K (nm 0), Er K (nm 1), Er K (nm 2)] 0 H _ h (by show 0 + 3 ≤ 26; decide) (hl 0 _ rfl) ⟨by show 3 ≤ sizeLine; decide, fun p0 n0 => ?_⟩
    have X0 := Evl.Ex.new (o := .lst (bs26 i 0 3)) n0
    have h0 := upd_same (H := H) (a := p0) (o := .lst (bs26 i 0 3))
    have k0 := h.ex X0
    change tSeq _ _ _ _ (upd H p0 (.lst (bs26 i 0 3)))
    generalize upd H p0 (.lst (bs26 i 0 3)) = G0 at X0 h0 k0 ⊢
    refine asg_step (cis_te Fk [Er K (nm 3), Er K (nm 4), Er K (nm 5)] 3 rfl rfl k0 h0 (by show 3 + 3 ≤ 26; decide) (hl 3 _ rfl) fun p1 G1 e1 n1 h1 => ?_)
    have X1 := X0.trans e1
    have k1 := k0.ex e1
    refine asg_step (cis_te Fk [Er K (nm 6), Er K (nm 7), Er K (nm 8)] 6 rfl rfl k1 h1 (by show 6 + 3 ≤ 26; decide) (hl 6 _ rfl) fun p2 G2 e2 n2 h2 => ?_)
    have X2 := X1.trans e2
    have k2 := k1.ex e2
    refine asg_step (cis_te Fk [Er K (nm 9), Er K (nm 10), Er K (nm 11)] 9 rfl rfl k2 h2 (by show 9 + 3 ≤ 26; decide) (hl 9 _ rfl) fun p3 G3 e3 n3 h3 => ?_)
    have X3 := X2.trans e3
    have k3 := k2.ex e3
    refine asg_step (cis_te Fk [Er K (nm 12), Er K (nm 13), Er K (nm 14)] 12 rfl rfl k3 h3 (by show 12 + 3 ≤ 26; decide) (hl 12 _ rfl) fun p4 G4 e4 n4 h4 => ?_)
    have X4 := X3.trans e4
    have k4 := k3.ex e4
    refine asg_step (cis_te Fk [Er K (nm 15), Er K (nm 16), Er K (nm 17)] 15 rfl rfl k4 h4 (by show 15 + 3 ≤ 26; decide) (hl 15 _ rfl) fun p5 G5 e5 n5 h5 => ?_)
    have X5 := X4.trans e5
    have k5 := k4.ex e5
    refine asg_step (cis_te Fk [Er K (nm 18), Er K (nm 19), Er K (nm 20)] 18 rfl rfl k5 h5 (by show 18 + 3 ≤ 26; decide) (hl 18 _ rfl) fun p6 G6 e6 n6 h6 => ?_)
    have X6 := X5.trans e6
    have k6 := k5.ex e6
    refine asg_step (cis_te Fk [Er K (nm 21), Er K (nm 22)] 21 rfl rfl k6 h6 (by show 21 + 2 ≤ 26; decide) (hl 21 _ rfl) fun p7 G7 e7 n7 h7 => ?_)
    have X7 := X6.trans e7
    have k7 := k6.ex e7
    refine (cis_te Fk [Er K (nm 23), Er K (nm 24), Er K (nm 25)] 23 rfl rfl k7 h7 (by show 23 + 3 ≤ 26; decide) (hl 23 _ rfl) fun p8 G8 e8 n8 h8 => ?_)
    have X8 := X7.trans e8
    exact q p8 G8 (Evl.fresh_back X7 n8) X8 h8
def spIsE (K : PySem.W.Frag) (pn : List PO) : Sp := fun vs H Q _ => ∃ (a : Addr) (i j : Nat), vs = [.ref a, .int (j : Int)] ∧ AnyP K pn H a i ∧ RV (.bl (decide (i = j))) H Q
theorem filt : ∀ (n i k : Nat), ((List.range n).filter fun j => decide (i = k + j)) = if k ≤ i ∧ i < k + n then [i - k] else []
  | 0, i, k => by
    rw [if_neg (by omega)]
    rfl
  | n + 1, i, k => by
    rw [List.range_succ, List.filter_append, filt n i k]
    by_cases h : i = k + n
    · rw [if_neg (by omega), if_pos (by omega)]
      simp [h]
    · have : ([n].filter fun j => decide (i = k + j)) = [] := by simp [h]
      rw [this, List.append_nil]
      by_cases h2 : k ≤ i ∧ i < k + n
      · rw [if_pos h2, if_pos (by omega)]
      · rw [if_neg h2, if_neg (by omega)]
theorem ok_is (T : Txt K mg) (Fk : Fs K) (F : FnP K "_law_is" s__law_is f fd) (C__law_sorts : Cal P w K mg base CX0 1 "_law_sorts" ["_law_e"] (spSorts K [])) : Fg P w K mg base CX0 2 f fd ["_law_e", "_law_spot"] (spIsE K []) := by
  refine fg_of F sc__law_is (fun vs H Q E h => ?_) (fun cdv A outer s H vs Q E hr h => ⟨_, (PSs.nox (pss_cons (ps_set (i := 2) sc__law_is.nd rfl (by first | exact Or.inl rfl | exact Or.inr rfl) (pe_cal C__law_sorts hr.le pass0 (pa_cons (pv 0) pa_nil)))
  (pss_cons (ps_if (PW.pt (pw_or (pt_not (pt_tru (K := K) (pe_callB call_isX (by rfl) T.f_isinstance (by decide +kernel) (pa_cons (pv 0) (pa_cons (pe_glob (v := .ref (He.ga K "FlashError")) rfl T.g_FlashError rfl) pa_nil))) (by intro _; rfl))) (pw_or1 (pt_not (pt_tru (K := K) (pe_callB call_isX (by rfl) T.f_isinstance (by decide +kernel) (pa_cons (pv 0) (pa_cons (pe_bltn (v := .ty "ValueError") rfl T.f_ValueError (by decide +kernel) rfl) pa_nil))) (by intro _; rfl))))))
  (pss_one (ps_ret pe_bl)) pss_nil)
  (pss_one (ps_ret (pe_cmpR (u_eq (K := K) hr) (pe_lc (own := [("_law_k", 3)]) rfl sc__law_is.nd (pi_range1 rfl T.f_range (pa_cons (pe_callB (u_len (K := K)) (by rfl) T.f_len (by decide +kernel) (pa_cons (pv 2) pa_nil)) pa_nil)) (blkOk_by (own := [("_law_k", 3)]) (N := ["_law_e", "_law_spot", "_law_sorts_here", "_law_k"]) (sc := defScope s__law_is) (by decide +kernel)) (fun _ _ _ _ _ => (pg_name (i := 3) sc__law_is.nd rfl (by first | exact Or.inl rfl | exact Or.inr rfl))) (fun _ _ _ _ _ => (pts_one (pt_tru (K := K) (pe_ix (u_ix (K := K)) (pv 2) (pv 3) (fun _ _ => rfl)) (by intro _; rfl)))) (fun _ _ _ _ _ => (pv 3))) (pe_lst (pa_cons (pv 1) pa_nil)) (nomark _))))))), ?_⟩)
  · obtain ⟨a, i, j, rfl, _⟩ := h
    rfl
  · obtain ⟨a, i, j, rfl, h, q⟩ := h
    have i26 := h.1
    refine ⟨_, rfl, a, i, rfl, h, fun p H1 np e1 hp => ?_⟩
    have h1 := h.ex e1
    obtain ⟨_, d, ea, ed⟩ := id h1
    refine ⟨_, rfl, a, _, d, _, _, true, rfl, Fk.xf i i26, Fk.ix i i26, ea, ed, (fun u r => r), Fk.kF i i26, true, rfl, iteF ?_⟩
    refine ⟨_, rfl, a, _, d, .ty "ValueError", .type "ValueError", true, rfl, Fk.xf i i26, Fk.ix i i26, ea, ed, (fun u r => r), Fk.kV i i26, true, rfl, iteF ?_⟩
    have bl26 : (bs26 i 0 26).length = 26 := by simp
    refine ⟨_, rfl, _, _, rfl, (Sv.lst (K := K) hp).len, _, rfl, by rw [bl26]; decide, by rw [bl26]; decide, fun D hD => ?_⟩
    rw [bl26]
    have cn : ((26 : Nat) : Int).toNat = 26 := rfl
    rw [cn]
    have f1 : ∀ m : Nat, ((List.range (m + 1)).filter fun k => decide (i = k)) = ((List.range m).filter fun k => decide (i = k)) ++ (if i = m then [m] else []) := fun m => by
      rw [List.range_succ, List.filter_append]
      congr 1
      by_cases z : i = m <;> simp [z]
    refine lc_range (lo := 0) (n := 26) (fun m H' => Evl.Ex H1 H' ∧ m ≤ 26 ∧ H' D = some (.lst (IV (((List.range m).filter fun k => decide (i = k)).map fun k : Nat => (k : Int))))) ⟨Evl.Ex.new hD, by decide, upd_same⟩ ?_ ?_
    · rintro m H2 hm ⟨e2, _, h2⟩
      have ez : (0 : Int) + (m : Int) = (m : Int) := Int.zero_add _
      rw [ez]
      have at_ : atI (bs26 i 0 26) (m : Int) = some (V.bl (decide (i = m))) := by
        rw [atI_nat]
        unfold bs26
        rw [List.getElem?_map, List.getElem?_range hm]
        simp
      refine ⟨rfl, _, rfl, _, rfl, .inl ⟨p, _, (m : Int), _, rfl, rfl, SqL.of (e2 _ _ hp), at_, _, rfl, ?_⟩⟩
      rw [f1, List.map_append] 
      by_cases z : i = m
      · rw [decide_eq_true z, if_pos z]
        refine iteT ⟨_, rfl, _, h2, ?_, Evl.Ex.mut e2 hD, by omega, ?_⟩
        · rw [iv_len, List.length_map]
          have := List.length_filter_le (fun k => decide (i = k)) (List.range m)
          rw [List.length_range] at this
          exact Evl.sz_lt (by omega)
        · rw [upd_same, iv_snoc]
          rfl
      · rw [decide_eq_false z, if_neg z]
        refine iteF ⟨e2, by omega, ?_⟩
        rw [List.map_nil, List.append_nil]
        exact h2
    · rintro H2 ⟨e2, _, h2⟩
      have ff := filt 26 i 0
      have f0 : ((List.range 26).filter fun k => decide (i = k)) = [i] := by
        have e : ((List.range 26).filter fun k => decide (i = k)) = ((List.range 26).filter fun j => decide (i = 0 + j)) := by
          congr 1
          funext j
          rw [Nat.zero_add]
        rw [e, ff, if_pos (by omega)]
        rfl
      rw [f0] at h2
      refine ⟨_, rfl, by show 1 ≤ sizeLine; decide, fun l nl => ?_⟩
      have y := Evl.Ex.new (o := .lst (IV [(j : Int)])) nl
      refine .inr (req_l (SqL.of (y _ _ h2)) (SqL.of (show _ = some (HO.lst (IV [(j : Int)])) from upd_same)) ?_)
      have ed : decide ([i].map (fun k : Nat => (k : Int)) = [(j : Int)]) = decide (i = j) := by
        by_cases z : i = j
        · subst z
          exact (decide_eq_true (p := ([(i : Int)] : List Int) = [(i : Int)]) rfl).trans (decide_eq_true rfl).symm
        · rw [decide_eq_false z, decide_eq_false]
          intro w
          have : (i : Int) = (j : Int) := by simpa using w
          omega
      rw [ed]
      exact q _ ((e1.trans e2).trans y)
def spKept (K : PySem.W.Frag) (pn : List PO) : Sp := fun vs H Q _ => ∃ (a : Addr) (i : Nat) (x : V), vs = [.ref a] ∧ EP1 K pn H a i x ∧ Q x H
theorem ok_kept (T : Txt K mg) (Fk : Fs K) (F : FnP K "_law_kept" s__law_kept f fd) : Fg P w K mg base CX0 1 f fd ["_law_e"] (spKept K []) := by
  refine fg_of F sc__law_kept (fun vs H Q E h => ?_) (fun cdv A outer s H vs Q E hr h => ⟨_, (PSs.nox (pss_cons (ps_if (pt_tru (K := K) (pe_callB call_isX (by rfl) T.f_isinstance (by decide +kernel) (pa_cons (pv 0) (pa_cons (pe_glob (v := .ref (He.ga K "PowerCut")) rfl T.g_PowerCut rfl) pa_nil))) (by intro _; rfl))
  (pss_one (ps_ret (pe_ef (pv 0)))) pss_nil)
  (pss_cons (ps_if (pt_tru (K := K) (pe_callB call_isX (by rfl) T.f_isinstance (by decide +kernel) (pa_cons (pv 0) (pa_cons (pe_glob (v := .ref (He.ga K "TooMany")) rfl T.g_TooMany rfl) pa_nil))) (by intro _; rfl))
  (pss_one (ps_ret (pe_ef (pv 0)))) pss_nil)
  (pss_one (ps_ret (pe_ifExp (pt_tru (K := K) (pe_callB call_isX (by rfl) T.f_isinstance (by decide +kernel) (pa_cons (pv 0) (pa_cons (pe_glob (v := .ref (He.ga K "NoThing")) rfl T.g_NoThing rfl) pa_nil))) (by intro _; rfl)) (pe_ef (pv 0)) (pe_ef (pv 0)))))))), ?_⟩)
  · obtain ⟨a, i, x, rfl, _⟩ := h
    rfl
  · obtain ⟨a, i, x, rfl, h, q⟩ := h
    have hA := h.any
    obtain ⟨i23, d, ea, ed⟩ := h
    obtain ⟨i26, d', ea', ed'⟩ := hA
    have fld : ∀ {g : Str}, g = fl i → tEf K [] g (tVar 0) [some (.ref a)] H Q := fun {g} e => by
      subst e
      exact ⟨_, rfl, a, _, d, _, x, rfl, Fk.xf i i26, Fk.no i i23, ea, ed, by simp [List.lookup], q⟩
    refine ⟨_, rfl, a, _, d', _, _, _, rfl, Fk.xf i i26, Fk.ix i i26, ea', ed', (fun u r => r), Fk.kit i 20 i26 (by decide), _, rfl, ?_⟩
    by_cases z : i = 20
    · subst z
      exact iteT (fld rfl)
    rw [decide_eq_false z]
    refine iteF ⟨_, rfl, a, _, d', _, _, _, rfl, Fk.xf i i26, Fk.ix i i26, ea', ed', (fun u r => r), Fk.kit i 21 i26 (by decide), _, rfl, ?_⟩
    by_cases z1 : i = 21
    · subst z1
      exact iteT (fld rfl)
    rw [decide_eq_false z1]
    refine iteF ⟨_, rfl, a, _, d', _, _, _, rfl, Fk.xf i i26, Fk.ix i i26, ea', ed', (fun u r => r), Fk.kit i 22 i26 (by decide), _, rfl, ?_⟩
    by_cases z2 : i = 22
    · subst z2
      exact iteT (fld rfl)
    rw [decide_eq_false z2]
    refine iteF (fld ?_)
    have i20 : i < 20 := by omega
    have fg : ∀ n : Fin 20, ("given" : Str) = fl n.val := by decide +kernel
    exact fg ⟨i, i20⟩
end
end K0
namespace K0
open PySem PySem.Spec PyProof.Rows L2 VB BM
theorem menu_v {K : PySem.W.Frag} {H : Hp} {l : Addr} {xs : List V} {r : Int} {Q : VK} (h : H l = some (.lst xs)) (r0 : 0 ≤ r) (r1 : r < (xs.length : Int)) (q : ∀ v ∈ xs, Q v H) : rIx K (.ref l) (.int r) H Q := by
  obtain ⟨j, rfl⟩ : ∃ j : Nat, r = j := ⟨r.toNat, by omega⟩
  have hj : j < xs.length := by omega
  exact Sv.ix (x := .non) (Sv.lst h) (i := (j : Int)) (atI_nat (List.getElem?_eq_getElem hj)) (q _ (List.getElem_mem hj))
theorem rp_flat {H : Hp} {v : V} {t : Str} (tx : Tx v t) (l : t.length ≤ 10000) : Rp H v t := ⟨l, .inl ⟨[], 0, .flat tx, by decide⟩⟩
theorem tx_s {x : Str} (h : (reprText x).length ≤ 60) : Tx (.str x) (reprText x) := .str x (by rw [sizeLine_eq]; omega)
section
variable {P : Program} {w : World} {K : PySem.W.Frag} {mg : Str → Option Value} {base : Heap} {f : Addr} {fd : FuncData}
def spThing : Sp := fun vs H Q _ => ∃ (bx : Addr) (c : Int), vs = [.ref bx] ∧ Box H bx c ∧ c < 60000000 ∧ ∀ (v : V) (t : Str) (H' : Hp), Exb bx H H' → Box H' bx (c + 1) → (∀ H2, Exb bx H' H2 → Rp H2 v t) → Q v H'
theorem ok_thing (T : Txt K mg) (F : FnP K "_law_thing" s__law_thing f fd) (C__law_take : Cal P w K mg base CX0 1 "_law_take" ["_law_box_here", "_law_many"] spTake) : Fg P w K mg base CX0 2 f fd ["_law_box_here"] spThing := by
  refine fg_of F sc__law_thing (fun vs H Q E h => ?_) (fun cdv A outer s H vs Q E hr h => ⟨_, (PSs.nox (pss_cons (ps_set (i := 1) sc__law_thing.nd rfl (by first | exact Or.inl rfl | exact Or.inr rfl) (pe_lst (pa_cons pe_non (pa_cons pe_bl (pa_cons pe_bl (pa_cons pe_int (pa_cons pe_int (pa_cons pe_str (pa_cons pe_str (pa_cons (pe_lst pa_nil) (pa_cons (pe_lst (pa_cons pe_int (pa_cons pe_str pa_nil))) (pa_cons (pe_tup pa_nil) (pa_cons (pe_tup (pa_cons pe_int (pa_cons pe_bl pa_nil))) (pa_cons pe_dnewK (pa_cons (pe_callTy (call_dictP rfl) (by rfl) T.f_dict (by decide +kernel) (pa_cons (pe_lst (pa_cons (pe_tup (pa_cons pe_str (pa_cons (pe_lst (pa_cons pe_int pa_nil)) pa_nil))) pa_nil)) pa_nil)) (pa_cons (pe_un un_neg (pe_op op_pow pe_int pe_int)) pa_nil))))))))))))))))
  (pss_one (ps_ret (pe_ix (u_ix (K := K)) (pv 1) (pe_cal C__law_take hr.le pass0 (pa_cons (pv 0) (pa_cons pe_int pa_nil))) (fun _ _ => rfl)))))), ?_⟩)
  · obtain ⟨bx, c, rfl, _⟩ := h
    rfl
  · obtain ⟨bx, c, rfl, B, hc, q⟩ := h
    have hp29 : CPow 10 29 := ⟨by decide, by decide, by decide⟩
    refine ⟨by show 0 ≤ sizeLine; decide, fun a1 n1 => ⟨by show 2 ≤ sizeLine; decide, fun a2 n2 => ⟨by show 0 ≤ sizeLine; decide, fun t1 m1 => ⟨by show 2 ≤ sizeLine; decide, fun t2 m2 => fun e ne => ⟨by show 1 ≤ sizeLine; decide, fun l3 n3 => ⟨by show 2 ≤ sizeLine; decide, fun tp n4 => ⟨by show 1 ≤ sizeLine; decide, fun lp n5 => ?_⟩⟩⟩⟩⟩⟩⟩
    have y1 := Evl.Ex.new (o := .lst []) n1
    have y2 := Evl.Ex.new (o := .lst [V.int 1, .str "a"]) n2
    have y3 := Evl.Ex.new (o := .tup []) m1
    have y4 := Evl.Ex.new (o := .tup [V.int 1, .bl true]) m2
    have y5 := Evl.Ex.new (o := .dK []) ne
    have y6 := Evl.Ex.new (o := .lst [V.int 3]) n3
    have y7 := Evl.Ex.new (o := .tup [V.str "a", .ref l3]) n4
    have y8 := Evl.Ex.new (o := .lst [V.ref tp]) n5
    refine ⟨lp, [tp], [(.inr "a", .ref l3)], rfl, SqL.of upd_same, .cons (SqT.of (y8 _ _ upd_same)) .nil, fun d n6 => ⟨_, _, rfl, rfl, hp29, _, rfl, by show 14 ≤ sizeLine; decide, fun L nL => ?_⟩⟩
    have y9 := Evl.Ex.new (o := .dK (mergeK [] [((.inr "a" : Key), V.ref l3)])) n6
    have yL := Evl.Ex.new (o := .lst [V.non, .bl true, .bl false, .int 0, .int 7, .str "", .str "path", .ref a1, .ref a2, .ref t1, .ref t2, .ref e, .ref d, .int (-(10 ^ (29 : Int).toNat))]) nL
    have w9 := y9.trans yL
    have w8 := y8.trans w9
    have w7 := y7.trans w8
    have w6 := y6.trans w7
    have w5 := y5.trans w6
    have w4 := y4.trans w5
    have w3 := y3.trans w4
    have w2 := y2.trans w3
    have W := y1.trans w2
    have h1 := w2 _ _ (upd_same (H := H) (a := a1) (o := .lst []))
    have h2 := w3 _ _ (upd_same (H := _) (a := a2) (o := .lst [V.int 1, .str "a"]))
    have h3 := w4 _ _ (upd_same (H := _) (a := t1) (o := .tup []))
    have h4 := w5 _ _ (upd_same (H := _) (a := t2) (o := .tup [V.int 1, .bl true]))
    have h5 := w6 _ _ (upd_same (H := _) (a := e) (o := .dK []))
    have h6 := w7 _ _ (upd_same (H := _) (a := l3) (o := .lst [V.int 3]))
    have h9 := yL _ _ (upd_same (H := _) (a := d) (o := .dK (mergeK [] [((.inr "a" : Key), V.ref l3)])))
    have b1 := (B.at n1)
    have b2 := (B.ex y1).at n2
    have b3 := ((B.ex y1).ex y2).at m1
    have b4 := (((B.ex y1).ex y2).ex y3).at m2
    have b5 := ((((B.ex y1).ex y2).ex y3).ex y4).at ne
    have b6 := (((((B.ex y1).ex y2).ex y3).ex y4).ex y5).at n3
    have b9 := (((((((((B.ex y1).ex y2).ex y3).ex y4).ex y5).ex y6).ex y7).ex y8)).at n6
    have bL := ((((((((((B.ex y1).ex y2).ex y3).ex y4).ex y5).ex y6).ex y7).ex y8)).ex y9).at nL
    have dl : d ≠ l3 := (ne_of_none ((y7.trans y8) _ _ (upd_same (H := _) (a := l3) (o := .lst [V.int 3]))) n6).symm
    have BW := B.ex W
    refine ⟨_, rfl, _, rfl, bx, 14, c, rfl, BW, by omega, by omega, by omega, fun r H3 r0 r1 e3 B3 => menu_v (e3 _ _ bL upd_same) r0 r1 fun v hv => ?_⟩
    have E3 : Exb bx H H3 := (Exb.of W).trans e3
    have go : ∀ (v : V) (t : Str), (∀ H2, Exb bx H3 H2 → Rp H2 v t) → Q v H3 := fun v t h => q v t H3 E3 B3 h
    simp only [List.mem_cons, List.not_mem_nil, or_false] at hv
    rcases hv with rfl | rfl | rfl | rfl | rfl | rfl | rfl | rfl | rfl | rfl | rfl | rfl | rfl | rfl
    · exact go _ _ fun H2 _ => rp_flat .non (by decide +kernel)
    · exact go _ _ fun H2 _ => rp_flat (.bl true) (by decide +kernel)
    · exact go _ _ fun H2 _ => rp_flat (.bl false) (by decide +kernel)
    · exact go _ _ fun H2 _ => rp_flat (.int 0 (by decide +kernel)) (by decide +kernel)
    · exact go _ _ fun H2 _ => rp_flat (.int 7 (by decide +kernel)) (by decide +kernel)
    · exact go _ _ fun H2 _ => rp_flat (tx_s (by decide +kernel)) (by decide +kernel)
    · exact go _ _ fun H2 _ => rp_flat (tx_s (by decide +kernel)) (by decide +kernel)
    · exact go _ "[]" fun H2 e2 => ⟨by decide, .inl ⟨[], 0, .lst0 (e2 _ _ b1 (e3 _ _ b1 h1)), by decide⟩⟩
    · exact go _ (listText [txI 1, reprText "a"]) fun H2 e2 => ⟨by decide +kernel, .inl ⟨[a2], 1, .lst (e2 _ _ b2 (e3 _ _ b2 h2)) (fun z => by cases z) (.cons (.flat (.int 1 (by decide +kernel))) (fun _ z => by cases z) (Nat.le_refl 0) (.cons (.flat (tx_s (by decide +kernel))) (fun _ z => by cases z) (Nat.le_refl 0) .nil)) (fun z => by cases z), by decide⟩⟩
    · exact go _ (tupleText []) fun H2 e2 => ⟨by decide +kernel, .inl ⟨[t1], 1, .tup (e2 _ _ b3 (e3 _ _ b3 h3)) .nil (fun z => by cases z), by decide⟩⟩
    · exact go _ (tupleText [txI 1, "True"]) fun H2 e2 => ⟨by decide +kernel, .inl ⟨[t2], 1, .tup (e2 _ _ b4 (e3 _ _ b4 h4)) (.cons (.flat (.int 1 (by decide +kernel))) (fun _ z => by cases z) (Nat.le_refl 0) (.cons (.flat (.bl true)) (fun _ z => by cases z) (Nat.le_refl 0) .nil)) (fun z => by cases z), by decide⟩⟩
    · exact go _ (dictText []) fun H2 e2 => ⟨by decide +kernel, .inl ⟨[e], 1, .dct (e2 _ _ b5 (e3 _ _ b5 h5)) .nil, by decide⟩⟩
    · refine go _ (dictText [reprText "a" ++ ": " ++ listText [txI 3]]) fun H2 e2 => ⟨by decide +kernel, .inr ⟨d, _, _, [l3], 1, rfl, e2 _ _ b9 (e3 _ _ b9 h9), .cons ⟨reprText "a", listText [txI 3], tx_s (by decide +kernel), .lst (bs := []) (d := 0) (e2 _ _ b6 (e3 _ _ b6 h6)) (fun z => by cases z) (.cons (.flat (.int 3 (by decide +kernel))) (fun _ z => by cases z) (Nat.le_refl 0) .nil) (fun z => by cases z), rfl⟩ .nil, fun z => dl (by simpa using z), by decide, rfl⟩⟩
    · exact go _ _ fun H2 _ => rp_flat (.int _ (by decide +kernel)) (by decide +kernel)
end
end K0
namespace K0
open PySem PySem.Spec PyProof.Rows L2 VB BM
section
variable {P : Program} {w : World} {K : PySem.W.Frag} {mg : Str → Option Value} {base : Heap} {f : Addr} {fd : FuncData}
def spAR : Sp := fun vs H Q _ => ∃ (bx : Addr) (c : Int), vs = [.ref bx] ∧ Box H bx c ∧ c < 50000000 ∧ ∀ H', Exb bx H H' → Box H' bx (c + 2) → Q (.bl true) H'
theorem ok_all_right (hd : base.NoDigits) (T : Txt K mg) (F : FnP K "_law_all_right" s__law_all_right f fd) (C__law_thing : Cal P w K mg base CX0 2 "_law_thing" ["_law_box_here"] spThing) (C__law_by_place : Cal P w K mg base CX0 3 "_law_by_place" ["_law_thing_here"] (spMk K)) (C__law_by_name : Cal P w K mg base CX0 3 "_law_by_name" ["_law_thing_here"] (spMk K))
    (C__law_is : Cal P w K mg base CX0 2 "_law_is" ["_law_e", "_law_spot"] (spIsE K [])) (C__law_kept : Cal P w K mg base CX0 1 "_law_kept" ["_law_e"] (spKept K [])) : Fg P w K mg base CX0 4 f fd ["_law_box_here"] spAR := by
  refine fg_of F sc__law_all_right (fun vs H Q E h => ?_) (fun cdv A outer s H vs Q E hr h => ⟨_, (PSs.nox (pss_cons (ps_par (i := 1) (j := 2) rfl sc__law_all_right.nd rfl rfl (by decide) rfl rfl (pa_cons (pe_cal C__law_thing hr.le pass0 (pa_cons (pv 0) pa_nil)) (pa_cons (pe_cal C__law_thing hr.le pass0 (pa_cons (pv 0) pa_nil)) pa_nil)) (by rfl))
  (pss_cons (ps_set (i := 3) sc__law_all_right.nd rfl (by first | exact Or.inl rfl | exact Or.inr rfl) (pe_lst (pa_cons (pe_cal C__law_by_place hr.le pass0 (pa_cons (pv 1) pa_nil)) (pa_cons (pe_cal C__law_by_name hr.le pass0 (pa_cons (pv 2) pa_nil)) (pa_cons (pe_cal C__law_by_name hr.le pass0 (pa_cons (pv 1) pa_nil)) (pa_cons (pe_cal C__law_by_place hr.le pass0 (pa_cons (pv 2) pa_nil)) pa_nil))))))
  (pss_cons (ps_for PassesOwn.never rfl (pi_range1 rfl T.f_range (pa_cons pe_int pa_nil)) (pg_name (i := 4) sc__law_all_right.nd rfl (by first | exact Or.inl rfl | exact Or.inr rfl))
  (pss_one (ps_for PassesOwn.never rfl (pi_range1 rfl T.f_range (pa_cons pe_int pa_nil)) (pg_name (i := 5) sc__law_all_right.nd rfl (by first | exact Or.inl rfl | exact Or.inr rfl))
  (pss_cons (ps_set (i := 6) sc__law_all_right.nd rfl (by first | exact Or.inl rfl | exact Or.inr rfl) (pe_ix (u_ix (K := K)) (pe_ix (u_ix (K := K)) (pv 3) (pv 4) (fun _ _ => rfl)) (pv 5) (fun _ _ => rfl)))
  (pss_one (ps_if (PW.pt (pw_or (pt_not (pt_tru (K := K) (pe_cal C__law_is hr.le pass0 (pa_cons (pv 6) (pa_cons (pv 5) pa_nil))) (by intro _; rfl))) (pw_or1 (pt_cmpR (u_ne (K := K) hr) (pe_callB (call_reprP hr hd) (by rfl) T.f_repr (by decide +kernel) (pa_cons (pe_cal C__law_kept hr.le pass0 (pa_cons (pv 6) pa_nil)) pa_nil)) (pe_callB (call_reprP hr hd) (by rfl) T.f_repr (by decide +kernel) (pa_cons (pe_ix (u_ix (K := K)) (pe_lst (pa_cons (pv 1) (pa_cons (pv 2) pa_nil))) (pe_op u_mod (pv 4) pe_int) (fun _ _ => rfl)) pa_nil)) (nomark _)))))
  (pss_one (ps_ret pe_bl)) pss_nil))))))
  (pss_one (ps_ret pe_bl)))))), ?_⟩)
  · obtain ⟨bx, c, rfl, _⟩ := h
    rfl
  · obtain ⟨bx, c, rfl, B, hc, q⟩ := h
    refine ⟨_, rfl, bx, c, rfl, B, by omega, fun x1 t1 H1 e1 B1 r1 => ⟨_, rfl, bx, _, rfl, B1, by omega, fun x2 t2 H2 e2 B2 r2 => ⟨_, _, rfl, ?_⟩⟩⟩
    have R1 := r1 H2 e2
    have R2 := r2 H2 (fun _ _ _ z => z)
    refine ⟨_, rfl, x1, rfl, fun as0 p0 H3 l0 n0 e3 h0 s0 => ⟨_, rfl, x2, rfl, fun as1 p1 H4 l1 n1 e4 h1 s1 => ⟨_, rfl, x1, rfl, fun as2 p2 H5 l2 n2 e5 h2 s2 => ⟨_, rfl, x2, rfl, fun as3 p3 H6 l3 n3 e6 h3 s3 => ⟨by show 4 ≤ sizeLine; decide, fun L nL => ?_⟩⟩⟩⟩⟩
    have yL := Evl.Ex.new (o := .lst [V.ref p0, .ref p1, .ref p2, .ref p3]) nL
    have hL := upd_same (H := H6) (a := L) (o := .lst [V.ref p0, .ref p1, .ref p2, .ref p3])
    have w4 := (e4.trans e5).trans (e6.trans yL)
    have E7 : Evl.Ex H2 _ := e3.trans w4
    have R1' := R1.ex E7
    have R2' := R2.ex E7
    have g0 := w4 _ _ h0
    have g1 := (e5.trans (e6.trans yL)) _ _ h1
    have g2 := (e6.trans yL) _ _ h2
    have g3 := yL _ _ h3
    have z0 := s0.ex w4
    have z1 := s1.ex (e5.trans (e6.trans yL))
    have z2 := s2.ex (e6.trans yL)
    have z3 := s3.ex yL
    generalize upd H6 L (.lst [V.ref p0, .ref p1, .ref p2, .ref p3]) = G at hL E7 R1' R2' g0 g1 g2 g3 z0 z1 z2 z3 ⊢
    have sel : ∀ n : Nat, n < 4 → ∃ (p : Addr) (as : List Addr) (x : V) (t : Str), atI [V.ref p0, .ref p1, .ref p2, .ref p3] (n : Int) = some (.ref p) ∧ G p = some (.lst (as.map .ref)) ∧ as.length = 23 ∧ Es K G x 0 as ∧ Rp G x t ∧ atI [x1, x2] ((n : Int) % 2) = some x := by
      intro n hn
      match n, hn with
      | 0, _ => exact ⟨p0, as0, x1, t1, rfl, g0, l0, z0, R1', rfl⟩
      | 1, _ => exact ⟨p1, as1, x2, t2, rfl, g1, l1, z1, R2', rfl⟩
      | 2, _ => exact ⟨p2, as2, x1, t1, rfl, g2, l2, z2, R1', rfl⟩
      | 3, _ => exact ⟨p3, as3, x2, t2, rfl, g3, l3, z3, R2', rfl⟩
    refine ⟨(4 : Int), rfl, by decide, by decide, ?_⟩
    refine for_range (lo := 0) (n := 4) (fun i σ H' => Evl.Ex G H' ∧ ∃ v4 v5 v6 : Option V, σ = [some (.ref bx), some x1, some x2, some (.ref L), v4, v5, v6]) ⟨Evl.Ex.refl _, _, _, _, rfl⟩ ?_ ?_
    · rintro i σ H7 hi ⟨e7, v4, v5, v6, rfl⟩
      have ez : (0 : Int) + (i : Int) = (i : Int) := Int.zero_add _
      rw [ez]
      obtain ⟨p, as, x, t, hp, gp, lp, zp, Rx, hx⟩ := sel i hi
      refine ⟨(23 : Int), rfl, by decide, by decide, ?_⟩
      refine for_range (lo := 0) (n := 23) (fun j σ H' => Evl.Ex G H' ∧ ∃ v5 v6 : Option V, σ = [some (.ref bx), some x1, some x2, some (.ref L), some (.int (i : Int)), v5, v6]) ⟨e7, _, _, rfl⟩ ?_ ?_
      · rintro j σ H8 hj ⟨e8, v5, v6, rfl⟩
        have ez : (0 : Int) + (j : Int) = (j : Int) := Int.zero_add _
        rw [ez]
        obtain ⟨a, ha⟩ : ∃ a, as[j]? = some a := ⟨as[j]'(by omega), List.getElem?_eq_getElem (by omega)⟩
        have EA : EAt K H8 a j x := by
          have := (zp j a ha).ex e8
          rw [Nat.zero_add] at this
          exact this
        have at_ : atI (as.map V.ref) (j : Int) = some (V.ref a) := atI_nat (by rw [List.getElem?_map, ha]; rfl)
        refine ⟨_, rfl, _, rfl, .inl ⟨L, _, (i : Int), _, rfl, rfl, SqL.of (e8 _ _ hL), hp, _, rfl, .inl ⟨p, _, (j : Int), _, rfl, rfl, SqL.of (e8 _ _ gp), at_, ?_⟩⟩⟩
        refine ⟨_, rfl, _, rfl, a, j, j, rfl, EA.any.p, fun H9 e9 => ⟨_, rfl, ?_⟩⟩
        rw [decide_eq_true rfl]
        refine iteF ⟨_, rfl, a, j, x, rfl, (EA.ex e9).p, x, t, rfl, Rx.ex (e8.trans e9), ?_⟩
        refine ⟨_, rfl, _, rfl, by show 2 ≤ sizeLine; decide, fun l nl => ?_⟩
        have y := Evl.Ex.new (o := .lst [x1, x2]) nl
        have n2 : (0 : Int) < 2 := by decide
        refine ⟨_, rfl, _, _, rfl, rfl, n2, .inl ⟨l, _, (i : Int) % 2, x, rfl, rfl, SqL.of upd_same, hx, x, t, rfl, Rx.ex ((e8.trans e9).trans y), .inl ⟨rfl, _, rfl, same_ne ?_⟩⟩⟩
        exact ⟨(e8.trans e9).trans y, _, _, rfl⟩
      · rintro σ H8 ⟨e8, v5, v6, rfl⟩
        exact ⟨e8, _, _, _, rfl⟩
    · rintro σ H7 ⟨e7, v4, v5, v6, rfl⟩
      have E := E7.trans e7
      exact q _ ((e1.trans e2).trans (Exb.of E)) ((B2.ex E).le (by omega))
end
end K0
namespace K0
open PySem PySem.Spec PyProof.Rows L2 VB BM
section
variable {P : Program} {w : World} {K : PySem.W.Frag} {mg : Str → Option Value} {base : Heap} {f : Addr} {fd : FuncData}
def spRaised (K : PySem.W.Frag) : Sp := fun vs H Q E => ∃ (way : Nat) (x : V), vs = [.int (way : Int), x] ∧ way < 6 ∧ (way ≠ 3 → ∀ (d : Addr) (H' : Hp), Evl.Ex H H' → H' d = none → E (.ref (Er K (nm (ixE way)))) (some d) (upd H' d (.xd [(fl (ixE way), x)]))) ∧ (way = 3 → E (.ref (Er K (nm 24))) none H)
theorem ok_raised {fM fP fT fR fN : Addr} (T : Txt K mg) (E_InvalidMask : MkE P w K mg base "InvalidMask" "given" (Er K "InvalidMask") fM) (EK_PowerCut : MkEK P w K mg base "PowerCut" "op" (Er K "PowerCut") fP) (EK_InvalidTree : MkEK P w K mg base "InvalidTree" "given" (Er K "InvalidTree") fT) (B_NoRoom : BareC K mg "NoRoom" (Er K "NoRoom"))
    (E_InvalidRecords : MkE P w K mg base "InvalidRecords" "given" (Er K "InvalidRecords") fR) (E_NoThing : MkE P w K mg base "NoThing" "name" (Er K "NoThing") fN) (F : FnP K "_law_raised" s__law_raised f fd) : Fg P w K mg base (L2N.CX P w) 3 f fd ["_law_way", "_law_thing_here"] (spRaised K) := by
  refine fg_of F sc__law_raised (fun vs H Q E h => ?_) (fun cdv A outer s H vs Q E hr h => ⟨_, ((pss_cons (ps_if (pt_cmpR (u_eq (K := K) hr) (pv 0) pe_int (nomark _))
  (pss_one (L2N.ps_raise rfl (L2N.takes_of rfl rfl rfl rfl) (pmkN_err E_InvalidMask hr (pa_cons (pv 1) pa_nil)))) pss_nil)
  (pss_cons (ps_if (pt_cmpR (u_eq (K := K) hr) (pv 0) pe_int (nomark _))
  (pss_one (L2N.ps_raise rfl (L2N.takes_of rfl rfl rfl rfl) (pmkN_errK EK_PowerCut hr (pk_cons (pv 1) pk_nil)))) pss_nil)
  (pss_cons (ps_if (pt_cmpR (u_eq (K := K) hr) (pv 0) pe_int (nomark _))
  (pss_one (L2N.ps_raise rfl (L2N.takes_of rfl rfl rfl rfl) (pmkN_errK EK_InvalidTree hr (pk_cons (pv 1) pk_nil)))) pss_nil)
  (pss_cons (ps_if (pt_cmpR (u_eq (K := K) hr) (pv 0) pe_int (nomark _))
  (pss_one (L2N.ps_raise rfl (L2N.takes_of rfl rfl rfl rfl) (pmkN_exc0 B_NoRoom))) pss_nil)
  (pss_cons (ps_if (pt_cmpR (u_eq (K := K) hr) (pv 0) pe_int (nomark _))
  (pss_one (L2N.ps_raise rfl (L2N.takes_of rfl rfl rfl rfl) (pmkN_err E_InvalidRecords hr (pa_cons (pv 1) pa_nil)))) pss_nil)
  (pss_one (L2N.ps_raise rfl (L2N.takes_of rfl rfl rfl rfl) (pmkN_err E_NoThing hr (pa_cons (pv 1) pa_nil)))))))))), ?_⟩)
  · obtain ⟨way, x, rfl, _⟩ := h
    rfl
  · obtain ⟨way, x, rfl, hw, qE, q3⟩ := h
    have wy : ∀ n : Nat, way ≠ n → decide (V.int (way : Int) = V.int (n : Int)) = false := fun n h => decide_eq_false fun z => h (by have := V.int.inj z; omega)
    refine ⟨_, rfl, .inl ⟨rfl, _, rfl, ?_⟩⟩
    by_cases w0 : way = 0
    · subst w0
      exact iteT ⟨_, rfl, x, rfl, fun d nd => qE (by decide) d H (Evl.Ex.refl _) nd⟩
    have y0 : decide (V.int (way : Int) = V.int 0) = false := wy 0 w0
    rw [y0]
    refine iteF ⟨_, rfl, .inl ⟨rfl, _, rfl, ?_⟩⟩
    by_cases w1 : way = 1
    · subst w1
      exact iteT ⟨_, rfl, x, rfl, fun d nd => qE (by decide) d H (Evl.Ex.refl _) nd⟩
    have y1 : decide (V.int (way : Int) = V.int 1) = false := wy 1 w1
    rw [y1]
    refine iteF ⟨_, rfl, .inl ⟨rfl, _, rfl, ?_⟩⟩
    by_cases w2 : way = 2
    · subst w2
      exact iteT ⟨_, rfl, x, rfl, fun d nd => qE (by decide) d H (Evl.Ex.refl _) nd⟩
    have y2 : decide (V.int (way : Int) = V.int 2) = false := wy 2 w2
    rw [y2]
    refine iteF ⟨_, rfl, .inl ⟨rfl, _, rfl, ?_⟩⟩
    by_cases w3 : way = 3
    · subst w3
      exact iteT (q3 rfl)
    have y3 : decide (V.int (way : Int) = V.int 3) = false := wy 3 w3
    rw [y3]
    refine iteF ⟨_, rfl, .inl ⟨rfl, _, rfl, ?_⟩⟩
    by_cases w4 : way = 4
    · subst w4
      exact iteT ⟨_, rfl, x, rfl, fun d nd => qE (by decide) d H (Evl.Ex.refl _) nd⟩
    have y4 : decide (V.int (way : Int) = V.int 4) = false := wy 4 w4
    rw [y4]
    obtain rfl : way = 5 := by omega
    exact iteF ⟨_, rfl, x, rfl, fun d nd => qE (by decide) d H (Evl.Ex.refl _) nd⟩
end
end K0
namespace K0
open PySem PySem.Spec PyProof.Rows L2 VB BM
section
variable {P : Program} {w : World} {K : PySem.W.Frag} {mg : Str → Option Value} {base : Heap} {f : Addr} {fd : FuncData}
abbrev dMore : PyData := .list [.int 1, .str "more"]
theorem dp_more {H : Hp} {a : Addr} (h : H a = some (.lst [V.int 1, .str "more"])) : Dp K H (.ref a) dMore := .lst (SqL.of h) (.cons (.int 1) (.cons (.str "more") .nil))
theorem exo_lst {a C : Addr} {d : Option Addr} {xs : List V} : HO.lst xs ≠ exo a C d := fun z => by
  unfold exo at z
  cases z
theorem erO_lst {a C : Addr} {d : Option Addr} {xs : List V} : HO.lst xs ≠ erO a C d := fun z => by
  unfold erO at z
  cases z
theorem ExO_lst {a : Addr} {C : Value} {xs : List V} : HO.lst xs ≠ ExO C a := fun z => by
  unfold ExO at z
  cases z
theorem exd_lst {d : Addr} {fs : List (Str × V)} {xs : List V} : HO.lst xs ≠ exd d fs := fun z => by
  unfold exd at z
  cases z
theorem errAt_mut {H : Hp} {n a C : Addr} {d : Option Addr} {xs zs : List V} (h : H n = some (.lst xs)) (e : ErrAt H a C d) : ErrAt (upd H n (.lst zs)) a C d := by
  have ne : a ≠ n := fun z => by
    subst z
    rcases e with e | e | ⟨_, e⟩
    · exact exo_lst (Option.some.inj (h.symm.trans e))
    · exact erO_lst (Option.some.inj (h.symm.trans e))
    · exact ExO_lst (Option.some.inj (h.symm.trans e))
  rcases e with e | e | ⟨e0, e⟩
  · exact .inl (by rw [upd_ne ne]; exact e)
  · exact .inr (.inl (by rw [upd_ne ne]; exact e))
  · exact .inr (.inr ⟨e0, by rw [upd_ne ne]; exact e⟩)
theorem fldAt_mut {H : Hp} {n d : Addr} {fs : List (Str × V)} {xs zs : List V} (h : H n = some (.lst xs)) (e : FldAt H d fs) : FldAt (upd H n (.lst zs)) d fs := by
  have ne : d ≠ n := fun z => by
    subst z
    rcases e with e | e
    · exact exd_lst (Option.some.inj (h.symm.trans e))
    · rw [h] at e
      cases e
  rcases e with e | e
  · exact .inl (by rw [upd_ne ne]; exact e)
  · exact .inr (by rw [upd_ne ne]; exact e)
def spVR : Sp := fun vs H Q _ => vs = [] ∧ ∀ H', Q (.bl true) H'
theorem ok_very_right {fN fC fT : Addr} (T : Txt K mg) (Fk : Fs K) (F : FnP K "_law_very_right" s__law_very_right f fd) (E_NoThing : MkE P w K mg base "NoThing" "name" (Er K "NoThing") fN) (E_InvalidChip : MkE P w K mg base "InvalidChip" "given" (Er K "InvalidChip") fC) (EK_TooMany : MkEK P w K mg base "TooMany" "count" (Er K "TooMany") fT)
    (C__law_by_place : Cal P w K mg base CX0 3 "_law_by_place" ["_law_thing_here"] (spMk K)) (C__law_by_name : Cal P w K mg base CX0 3 "_law_by_name" ["_law_thing_here"] (spMk K))
    (C__law_kept : Cal P w K mg base CX0 1 "_law_kept" ["_law_e"] (spKept K [])) : Fg P w K mg base CX0 4 f fd [] spVR := by
  refine fg_of F sc__law_very_right (fun vs H Q E h => ?_) (fun cdv A outer s H vs Q E hr h => ⟨_, (PSs.nox (pss_cons (ps_set (i := 0) sc__law_very_right.nd rfl (by first | exact Or.inl rfl | exact Or.inr rfl) (pe_lst (pa_cons pe_int pa_nil)))
  (pss_cons (ps_setLc (i := 1) (own := [("_law_e", 4)]) rfl sc__law_very_right.nd rfl rfl (sw_true rfl rfl rfl (by decide +kernel)) (pi_seq (K := K) (pe_op (u_add (K := K)) (pe_cal C__law_by_place hr.le pass0 (pa_cons (pv 0) pa_nil)) (pe_cal C__law_by_name hr.le pass0 (pa_cons (pv 0) pa_nil)))) (blkOk_by (own := [("_law_e", 4)]) (N := ["_law_grown", "_law_kept_here", "_law_inner", "_law_outer", "_law_e", "_law_thing_here"]) (sc := defScope s__law_very_right) (by decide +kernel)) (fun _ _ _ _ _ => (pg_name (i := 4) sc__law_very_right.nd rfl (by first | exact Or.inl rfl | exact Or.inr rfl))) (fun _ _ _ _ _ => pts_nil) (fun _ _ _ _ _ => (pe_cal C__law_kept hr.le pass0 (pa_cons (pv 4) pa_nil))))
  (pss_cons (ps_expr (pe_bm PySem.F.plainAttrs_list PySem.F.slot_list_append PySem.F.type_list_append mt_append (pv 0) (pa_cons pe_str pa_nil)))
  (pss_cons (ps_if (PW.pt (pw_or (pt_cmpR (u_ne (K := K) hr) (pe_callB (u_len (K := K)) (by rfl) T.f_len (by decide +kernel) (pa_cons (pv 1) pa_nil)) pe_int (nomark _)) (pw_or1 (pt_cmpR (u_ne (K := K) hr) (pe_lc (own := [("_law_thing_here", 5)]) rfl sc__law_very_right.nd (pi_seq (K := K) (pv 1)) (blkOk_by (own := [("_law_thing_here", 5)]) (N := ["_law_grown", "_law_kept_here", "_law_inner", "_law_outer", "_law_e", "_law_thing_here"]) (sc := defScope s__law_very_right) (by decide +kernel)) (fun _ _ _ _ _ => (pg_name (i := 5) sc__law_very_right.nd rfl (by first | exact Or.inl rfl | exact Or.inr rfl))) (fun _ _ _ _ _ => (pts_one (pt_cmpR (u_ne (K := K) hr) (pv 5) (pe_lst (pa_cons pe_int (pa_cons pe_str pa_nil))) (nomark _)))) (fun _ _ _ _ _ => (pv 5))) (pe_lst pa_nil) (nomark _)))))
  (pss_one (ps_ret pe_bl)) pss_nil)
  (pss_cons (ps_set (i := 2) sc__law_very_right.nd rfl (by first | exact Or.inl rfl | exact Or.inr rfl) (pe_lst (pa_cons pe_int pa_nil)))
  (pss_cons (ps_set (i := 3) sc__law_very_right.nd rfl (by first | exact Or.inl rfl | exact Or.inr rfl) (pe_mkvK EK_TooMany hr (pk_cons (pe_mkv E_InvalidChip hr (pa_cons (pe_mkv E_NoThing hr (pa_cons (pv 2) pa_nil)) pa_nil)) pk_nil)))
  (pss_cons (ps_expr (pe_bm PySem.F.plainAttrs_list PySem.F.slot_list_append PySem.F.type_list_append mt_append (pv 2) (pa_cons pe_int pa_nil)))
  (pss_one (ps_ret (pe_and (pe_callB call_isX (by rfl) T.f_isinstance (by decide +kernel) (pa_cons (pe_ef (pv 3)) (pa_cons (pe_glob (v := .ref (He.ga K "InvalidChip")) rfl T.g_InvalidChip rfl) pa_nil))) (pe_one (pe_cmpR (u_eq (K := K) hr) (pe_ef (pe_ef (pe_ef (pv 3)))) (pe_lst (pa_cons pe_int (pa_cons pe_int pa_nil))) (nomark _)))))))))))))), ?_⟩)
  · obtain ⟨rfl, _⟩ := h
    rfl
  · obtain ⟨rfl, q⟩ := h
    refine ⟨by show 1 ≤ sizeLine; decide, fun g ng => ?_⟩
    have yg := Evl.Ex.new (o := .lst [V.int 1]) ng
    have hg := upd_same (H := H) (a := g) (o := .lst [V.int 1])
    generalize upd H g (.lst [V.int 1]) = G at yg hg ⊢
    refine .inl ⟨_, rfl, .ref g, rfl, fun as p H1 la np e1 hp es => ⟨_, rfl, .ref g, rfl, fun bs p2 H2 lb np2 e2 hp2 es2 => .inr (.inl ⟨p, p2, _, _, rfl, rfl, e2 _ _ hp, hp2, by rw [List.length_map, List.length_map, la, lb]; decide, fun r nr => ⟨r, rfl, ⟨_, SqL.of upd_same⟩, fun D hD => ?_⟩⟩)⟩⟩
    have yr := Evl.Ex.new (o := .lst (as.map V.ref ++ bs.map V.ref)) nr
    have hr' := upd_same (H := H2) (a := r) (o := .lst (as.map V.ref ++ bs.map V.ref))
    have item : ∀ (i : Nat) (c : V), (as.map V.ref ++ bs.map V.ref)[i]? = some c → ∃ a j, c = .ref a ∧ EAt K (upd H2 r (.lst (as.map V.ref ++ bs.map V.ref))) a j (.ref g) := by
      intro i c hc
      rw [← List.map_append, List.getElem?_map] at hc
      obtain ⟨a, ha, rfl⟩ := Option.map_eq_some_iff.mp hc
      by_cases hi : i < as.length
      · rw [List.getElem?_append_left hi] at ha
        exact ⟨a, _, rfl, ((es i a ha).ex e2).ex yr⟩
      · rw [List.getElem?_append_right (by omega)] at ha
        exact ⟨a, _, rfl, (es2 _ a ha).ex yr⟩
    have len46 : (as.map V.ref ++ bs.map V.ref).length = 46 := by rw [List.length_append, List.length_map, List.length_map, la, lb]
    have X := (e1.trans e2).trans yr
    have gx := X _ _ hg
    generalize as.map V.ref ++ bs.map V.ref = cs at hr' item len46 yr X gx hD ⊢
    generalize upd H2 r (.lst cs) = Gr at hr' item yr X gx hD ⊢
    refine lc_it walk_list (fun i H' => Evl.Ex Gr H' ∧ i ≤ 46 ∧ H' D = some (.lst (List.replicate i (V.ref g)))) ⟨Evl.Ex.new hD, by decide, upd_same⟩ (fun _ _ _ h => SqL.of (h.1 _ _ hr')) ?_ ?_
    · rintro i x H3 H3' hi ⟨e3, _, h3⟩ ⟨rfl, hx⟩
      obtain ⟨a, j, rfl, ea⟩ := item i x hx
      refine ⟨rfl, ?_⟩
      refine ⟨_, rfl, a, j, _, rfl, (ea.ex e3).p, ?_⟩
      refine ⟨_, h3, by rw [List.length_replicate]; exact Evl.sz_lt (by omega), Evl.Ex.mut e3 hD, by omega, ?_⟩
      rw [upd_same, List.replicate_succ']
    · rintro H3 ⟨e3, _, h3⟩
      rw [len46] at h3
      have g3 := e3 _ _ gx
      have nDg : D ≠ g := fun z => by rw [z, gx] at hD; cases hD
      refine ⟨_, rfl, .inl ⟨rfl, _, SqL.of g3⟩, g, _, _, rfl, rfl, g3, by decide, ?_⟩
      have h4 : upd H3 g (.lst ([V.int 1] ++ [V.str "more"])) D = some (.lst (List.replicate 46 (V.ref g))) := by rw [upd_ne nDg]; exact h3
      have g4 : upd H3 g (.lst ([V.int 1] ++ [V.str "more"])) g = some (.lst [V.int 1, .str "more"]) := upd_same
      generalize upd H3 g (.lst ([V.int 1] ++ [V.str "more"])) = H4 at h4 g4 ⊢
      refine ⟨_, rfl, _, _, rfl, (Sv.lst (K := K) h4).len, .inl ⟨rfl, _, rfl, ?_⟩⟩
      have l46 : V.int ((List.replicate 46 (V.ref g)).length : Int) = V.int 46 := by rw [List.length_replicate]; rfl
      rw [l46]
      refine same_ne ?_
      have ev : PyData.eqv dMore dMore = true := by decide +kernel
      have ev0 : PyData.eqv (.list []) (.list []) = true := by decide +kernel
      have sh : SeqAt.shaped dMore = true := by decide +kernel
      have sh0 : SeqAt.shaped (.list []) = true := by decide +kernel
      refine seq_var (t := false) rfl (Sv.lst h4) fun J wk D2 hD2 => ?_
      refine lc_it wk (fun i H' => Evl.Ex H4 H' ∧ H' D2 = some (.lst [])) ⟨Evl.Ex.new hD2, upd_same⟩ (fun _ _ _ h => Sv.lst (h.1 _ _ h4)) ?_ ?_
      · rintro i x H5 H5' hi ⟨e5, h5⟩ ⟨rfl, hx⟩
        obtain rfl : x = .ref g := List.eq_of_mem_replicate (List.mem_of_getElem? hx)
        refine ⟨rfl, ?_⟩
        refine ⟨_, rfl, by show 2 ≤ sizeLine; decide, fun l nl => ?_⟩
        have y := Evl.Ex.new (o := .lst [V.int 1, .str "more"]) nl
        refine .inr ⟨dMore, dMore, dp_more (y _ _ (e5 _ _ g4)), dp_more upd_same, sh, sh, ?_⟩
        rw [ev]
        exact ⟨_, rfl, iteF ⟨e5.trans y, y _ _ h5⟩⟩
      · rintro H5 ⟨e5, h5⟩
        refine ⟨by show 0 ≤ sizeLine; decide, fun l nl => ?_⟩
        have y := Evl.Ex.new (o := .lst []) nl
        refine .inr ⟨.list [], .list [], .lst (SqL.of (y _ _ h5)) .nil, .lst (SqL.of upd_same) .nil, sh0, sh0, ?_⟩
        rw [ev0]
        refine ⟨_, rfl, iteF ?_⟩
        refine ⟨by show 1 ≤ sizeLine; decide, fun n nn => ?_⟩
        have hn := upd_same (H := upd H5 l (.lst [])) (a := n) (o := .lst [V.int 1])
        generalize upd (upd H5 l (.lst [])) n (.lst [V.int 1]) = H6 at hn ⊢
        -- one in another
        refine ⟨_, rfl, _, rfl, fun a1 d1 na1 nd1 ne1 => ?_⟩
        obtain ⟨e7, ea1, ed1⟩ := mk_facts (C := Er K "NoThing") (g := "name") (x := V.ref n) na1 nd1 ne1
        generalize upd (upd (upd H6 a1 (exo a1 (Er K "NoThing") none)) d1 (exd d1 [("name", V.ref n)])) a1 (exo a1 (Er K "NoThing") (some d1)) = H7 at e7 ea1 ed1 ⊢
        refine ⟨_, rfl, fun a2 d2 na2 nd2 ne2 => ?_⟩
        obtain ⟨e8, ea2, ed2⟩ := mk_facts (C := Er K "InvalidChip") (g := "given") (x := V.ref a1) na2 nd2 ne2
        generalize upd (upd (upd H7 a2 (exo a2 (Er K "InvalidChip") none)) d2 (exd d2 [("given", V.ref a1)])) a2 (exo a2 (Er K "InvalidChip") (some d2)) = H8 at e8 ea2 ed2 ⊢
        refine ⟨_, rfl, fun a3 d3 na3 nd3 ne3 => ?_⟩
        obtain ⟨e9, ea3, ed3⟩ := mk_facts (C := Er K "TooMany") (g := "count") (x := V.ref a2) na3 nd3 ne3
        generalize upd (upd (upd H8 a3 (exo a3 (Er K "TooMany") none)) d3 (exd d3 [("count", V.ref a2)])) a3 (exo a3 (Er K "TooMany") (some d3)) = H9 at e9 ea3 ed3 ⊢
        have E9 := (e7.trans e8).trans e9
        have hn9 := E9 _ _ hn
        have ea2' := ea2.ex e9
        have ed2' := ed2.ex e9
        have ea1' := (ea1.ex e8).ex e9
        have ed1' := (ed1.ex e8).ex e9
        refine ⟨_, rfl, .inl ⟨rfl, _, SqL.of hn9⟩, n, _, _, rfl, rfl, hn9, by decide, ?_⟩
        have fa1 := errAt_mut (zs := [V.int 1] ++ [V.int 2]) hn9 ea1'
        have fd1 := fldAt_mut (zs := [V.int 1] ++ [V.int 2]) hn9 ed1'
        have fa2 := errAt_mut (zs := [V.int 1] ++ [V.int 2]) hn9 ea2'
        have fd2 := fldAt_mut (zs := [V.int 1] ++ [V.int 2]) hn9 ed2'
        have fa3 := errAt_mut (zs := [V.int 1] ++ [V.int 2]) hn9 ea3
        have fd3 := fldAt_mut (zs := [V.int 1] ++ [V.int 2]) hn9 ed3
        have hn10 : upd H9 n (.lst ([V.int 1] ++ [V.int 2])) n = some (.lst (IV [1, 2])) := upd_same
        generalize upd H9 n (.lst ([V.int 1] ++ [V.int 2])) = H10 at fa1 fd1 fa2 fd2 fa3 fd3 hn10 ⊢
        have k1 : PySem.W.kitOne K (.ref (Er K "InvalidChip")) (.ref (Er K "InvalidChip")) = some true := Fk.kit 16 16 (by decide) (by decide)
        refine ⟨_, rfl, a3, _, d3, _, .ref a2, rfl, Fk.xf 21 (by decide), Fk.no 21 (by decide), .inl fa3, fd3, rfl, ?_⟩
        refine ⟨a2, _, some d2, _, _, true, rfl, Fk.xf 16 (by decide), Fk.ix 16 (by decide), .inl fa2, (fun dd z => by cases z; exact ⟨_, fd2⟩), (fun u r => r), k1, true, rfl, iteT ?_⟩
        refine ⟨_, rfl, a3, _, d3, _, .ref a2, rfl, Fk.xf 21 (by decide), Fk.no 21 (by decide), .inl fa3, fd3, rfl, ?_⟩
        refine ⟨a2, _, d2, _, .ref a1, rfl, Fk.xf 16 (by decide), Fk.no 16 (by decide), .inl fa2, fd2, rfl, ?_⟩
        refine ⟨a1, _, d1, _, .ref n, rfl, Fk.xf 22 (by decide), Fk.no 22 (by decide), .inl fa1, fd1, rfl, ?_⟩
        refine ⟨by show 2 ≤ sizeLine; decide, fun l nl => ?_⟩
        have y := Evl.Ex.new (o := .lst (IV [1, 2])) nl
        refine .inr (req_l (SqL.of (y _ _ hn10)) (SqL.of (show _ = some (HO.lst (IV [1, 2])) from upd_same)) ?_)
        rw [decide_eq_true rfl]
        exact q _
end
end K0
/-! sorts, is, kept: called within an except suite -/
namespace K0
open PySem PySem.Spec PyProof.Rows L2 VB
section
variable {P : Program} {w : World} {K : PySem.W.Frag} {mg : Str → Option Value} {base : Heap} {f : Addr} {fd : FuncData} {p : PO}
theorem okh_sorts (T : Txt K mg) (Fk : Fs K) (F : FnP K "_law_sorts" s__law_sorts f fd) : Fh P w K mg base CX0 p 1 f fd ["_law_e"] (spSorts K [p]) := by
  refine fh_of F sc__law_sorts (fun vs H Q E h => ?_) (fun cdv A outer s H vs Q E hr h => ⟨_, (PSs.nox (pss_cons (ps_set (i := 1) sc__law_sorts.nd rfl (by first | exact Or.inl rfl | exact Or.inr rfl) (pe_lst (pa_cons (pe_callB call_isX (by rfl) T.f_isinstance (by decide +kernel) (pa_cons (pv 0) (pa_cons (pe_glob (v := .ref (He.ga K "InvalidOctets")) rfl T.g_InvalidOctets rfl) pa_nil))) (pa_cons (pe_callB call_isX (by rfl) T.f_isinstance (by decide +kernel) (pa_cons (pv 0) (pa_cons (pe_glob (v := .ref (He.ga K "InvalidCount")) rfl T.g_InvalidCount rfl) pa_nil))) (pa_cons (pe_callB call_isX (by rfl) T.f_isinstance (by decide +kernel) (pa_cons (pv 0) (pa_cons (pe_glob (v := .ref (He.ga K "InvalidNumber")) rfl T.g_InvalidNumber rfl) pa_nil))) pa_nil)))))
  (pss_cons (ps_set (i := 1) sc__law_sorts.nd rfl (by first | exact Or.inl rfl | exact Or.inr rfl) (pe_op (u_add (K := K)) (pv 1) (pe_lst (pa_cons (pe_callB call_isX (by rfl) T.f_isinstance (by decide +kernel) (pa_cons (pv 0) (pa_cons (pe_glob (v := .ref (He.ga K "InvalidMask")) rfl T.g_InvalidMask rfl) pa_nil))) (pa_cons (pe_callB call_isX (by rfl) T.f_isinstance (by decide +kernel) (pa_cons (pv 0) (pa_cons (pe_glob (v := .ref (He.ga K "InvalidOp")) rfl T.g_InvalidOp rfl) pa_nil))) (pa_cons (pe_callB call_isX (by rfl) T.f_isinstance (by decide +kernel) (pa_cons (pv 0) (pa_cons (pe_glob (v := .ref (He.ga K "InvalidBlock")) rfl T.g_InvalidBlock rfl) pa_nil))) pa_nil))))))
  (pss_cons (ps_set (i := 1) sc__law_sorts.nd rfl (by first | exact Or.inl rfl | exact Or.inr rfl) (pe_op (u_add (K := K)) (pv 1) (pe_lst (pa_cons (pe_callB call_isX (by rfl) T.f_isinstance (by decide +kernel) (pa_cons (pv 0) (pa_cons (pe_glob (v := .ref (He.ga K "InvalidPage")) rfl T.g_InvalidPage rfl) pa_nil))) (pa_cons (pe_callB call_isX (by rfl) T.f_isinstance (by decide +kernel) (pa_cons (pv 0) (pa_cons (pe_glob (v := .ref (He.ga K "InvalidShape")) rfl T.g_InvalidShape rfl) pa_nil))) (pa_cons (pe_callB call_isX (by rfl) T.f_isinstance (by decide +kernel) (pa_cons (pv 0) (pa_cons (pe_glob (v := .ref (He.ga K "InvalidImage")) rfl T.g_InvalidImage rfl) pa_nil))) pa_nil))))))
  (pss_cons (ps_set (i := 1) sc__law_sorts.nd rfl (by first | exact Or.inl rfl | exact Or.inr rfl) (pe_op (u_add (K := K)) (pv 1) (pe_lst (pa_cons (pe_callB call_isX (by rfl) T.f_isinstance (by decide +kernel) (pa_cons (pv 0) (pa_cons (pe_glob (v := .ref (He.ga K "InvalidData")) rfl T.g_InvalidData rfl) pa_nil))) (pa_cons (pe_callB call_isX (by rfl) T.f_isinstance (by decide +kernel) (pa_cons (pv 0) (pa_cons (pe_glob (v := .ref (He.ga K "InvalidRecord")) rfl T.g_InvalidRecord rfl) pa_nil))) (pa_cons (pe_callB call_isX (by rfl) T.f_isinstance (by decide +kernel) (pa_cons (pv 0) (pa_cons (pe_glob (v := .ref (He.ga K "InvalidPath")) rfl T.g_InvalidPath rfl) pa_nil))) pa_nil))))))
  (pss_cons (ps_set (i := 1) sc__law_sorts.nd rfl (by first | exact Or.inl rfl | exact Or.inr rfl) (pe_op (u_add (K := K)) (pv 1) (pe_lst (pa_cons (pe_callB call_isX (by rfl) T.f_isinstance (by decide +kernel) (pa_cons (pv 0) (pa_cons (pe_glob (v := .ref (He.ga K "InvalidDeed")) rfl T.g_InvalidDeed rfl) pa_nil))) (pa_cons (pe_callB call_isX (by rfl) T.f_isinstance (by decide +kernel) (pa_cons (pv 0) (pa_cons (pe_glob (v := .ref (He.ga K "InvalidLine")) rfl T.g_InvalidLine rfl) pa_nil))) (pa_cons (pe_callB call_isX (by rfl) T.f_isinstance (by decide +kernel) (pa_cons (pv 0) (pa_cons (pe_glob (v := .ref (He.ga K "InvalidScript")) rfl T.g_InvalidScript rfl) pa_nil))) pa_nil))))))
  (pss_cons (ps_set (i := 1) sc__law_sorts.nd rfl (by first | exact Or.inl rfl | exact Or.inr rfl) (pe_op (u_add (K := K)) (pv 1) (pe_lst (pa_cons (pe_callB call_isX (by rfl) T.f_isinstance (by decide +kernel) (pa_cons (pv 0) (pa_cons (pe_glob (v := .ref (He.ga K "InvalidTree")) rfl T.g_InvalidTree rfl) pa_nil))) (pa_cons (pe_callB call_isX (by rfl) T.f_isinstance (by decide +kernel) (pa_cons (pv 0) (pa_cons (pe_glob (v := .ref (He.ga K "InvalidChip")) rfl T.g_InvalidChip rfl) pa_nil))) (pa_cons (pe_callB call_isX (by rfl) T.f_isinstance (by decide +kernel) (pa_cons (pv 0) (pa_cons (pe_glob (v := .ref (He.ga K "InvalidRecords")) rfl T.g_InvalidRecords rfl) pa_nil))) pa_nil))))))
  (pss_cons (ps_set (i := 1) sc__law_sorts.nd rfl (by first | exact Or.inl rfl | exact Or.inr rfl) (pe_op (u_add (K := K)) (pv 1) (pe_lst (pa_cons (pe_callB call_isX (by rfl) T.f_isinstance (by decide +kernel) (pa_cons (pv 0) (pa_cons (pe_glob (v := .ref (He.ga K "InvalidName")) rfl T.g_InvalidName rfl) pa_nil))) (pa_cons (pe_callB call_isX (by rfl) T.f_isinstance (by decide +kernel) (pa_cons (pv 0) (pa_cons (pe_glob (v := .ref (He.ga K "InvalidPlans")) rfl T.g_InvalidPlans rfl) pa_nil))) (pa_cons (pe_callB call_isX (by rfl) T.f_isinstance (by decide +kernel) (pa_cons (pv 0) (pa_cons (pe_glob (v := .ref (He.ga K "PowerCut")) rfl T.g_PowerCut rfl) pa_nil))) pa_nil))))))
  (pss_cons (ps_set (i := 1) sc__law_sorts.nd rfl (by first | exact Or.inl rfl | exact Or.inr rfl) (pe_op (u_add (K := K)) (pv 1) (pe_lst (pa_cons (pe_callB call_isX (by rfl) T.f_isinstance (by decide +kernel) (pa_cons (pv 0) (pa_cons (pe_glob (v := .ref (He.ga K "TooMany")) rfl T.g_TooMany rfl) pa_nil))) (pa_cons (pe_callB call_isX (by rfl) T.f_isinstance (by decide +kernel) (pa_cons (pv 0) (pa_cons (pe_glob (v := .ref (He.ga K "NoThing")) rfl T.g_NoThing rfl) pa_nil))) pa_nil)))))
  (pss_one (ps_ret (pe_op (u_add (K := K)) (pv 1) (pe_lst (pa_cons (pe_callB call_isX (by rfl) T.f_isinstance (by decide +kernel) (pa_cons (pv 0) (pa_cons (pe_glob (v := .ref (He.ga K "NotReady")) rfl T.g_NotReady rfl) pa_nil))) (pa_cons (pe_callB call_isX (by rfl) T.f_isinstance (by decide +kernel) (pa_cons (pv 0) (pa_cons (pe_glob (v := .ref (He.ga K "NoRoom")) rfl T.g_NoRoom rfl) pa_nil))) (pa_cons (pe_callB call_isX (by rfl) T.f_isinstance (by decide +kernel) (pa_cons (pv 0) (pa_cons (pe_glob (v := .ref (He.ga K "NothingToUndo")) rfl T.g_NothingToUndo rfl) pa_nil))) pa_nil)))))))))))))))), ?_⟩)
  · obtain ⟨a, i, rfl, _⟩ := h
    rfl
  · obtain ⟨a, i, rfl, h, q⟩ := h
    have hl : ∀ (a : Nat) (l : List Addr), l = (List.range l.length).map (fun j => Er K (nm (a + j))) → ∀ j p, l[j]? = some p → p = Er K (nm (a + j)) := fun a l e j p hp => by
      rw [e, List.getElem?_map] at hp
      obtain ⟨n, hn, rfl⟩ := Option.map_eq_some_iff.mp hp
      rw [List.getElem?_eq_some_iff] at hn
      obtain ⟨h1, h2⟩ := hn
      rw [List.getElem_range] at h2
      rw [h2]
    refine asg_step (lst_step ?_)
    refine isTA_run Fk rfl [Er K (nm 0), Er K (nm 1), Er K (nm 2)] 0 H _ h (by show 0 + 3 ≤ 26; decide) (hl 0 _ rfl) ⟨by show 3 ≤ sizeLine; decide, fun p0 n0 => ?_⟩
    have X0 := Evl.Ex.new (o := .lst (bs26 i 0 3)) n0
    have h0 := upd_same (H := H) (a := p0) (o := .lst (bs26 i 0 3))
    have k0 := h.ex X0
    change tSeq _ _ _ _ (upd H p0 (.lst (bs26 i 0 3)))
    generalize upd H p0 (.lst (bs26 i 0 3)) = G0 at X0 h0 k0 ⊢
    refine asg_step (cis_te Fk [Er K (nm 3), Er K (nm 4), Er K (nm 5)] 3 rfl rfl k0 h0 (by show 3 + 3 ≤ 26; decide) (hl 3 _ rfl) fun p1 G1 e1 n1 h1 => ?_)
    have X1 := X0.trans e1
    have k1 := k0.ex e1
    refine asg_step (cis_te Fk [Er K (nm 6), Er K (nm 7), Er K (nm 8)] 6 rfl rfl k1 h1 (by show 6 + 3 ≤ 26; decide) (hl 6 _ rfl) fun p2 G2 e2 n2 h2 => ?_)
    have X2 := X1.trans e2
    have k2 := k1.ex e2
    refine asg_step (cis_te Fk [Er K (nm 9), Er K (nm 10), Er K (nm 11)] 9 rfl rfl k2 h2 (by show 9 + 3 ≤ 26; decide) (hl 9 _ rfl) fun p3 G3 e3 n3 h3 => ?_)
    have X3 := X2.trans e3
    have k3 := k2.ex e3
    refine asg_step (cis_te Fk [Er K (nm 12), Er K (nm 13), Er K (nm 14)] 12 rfl rfl k3 h3 (by show 12 + 3 ≤ 26; decide) (hl 12 _ rfl) fun p4 G4 e4 n4 h4 => ?_)
    have X4 := X3.trans e4
    have k4 := k3.ex e4
    refine asg_step (cis_te Fk [Er K (nm 15), Er K (nm 16), Er K (nm 17)] 15 rfl rfl k4 h4 (by show 15 + 3 ≤ 26; decide) (hl 15 _ rfl) fun p5 G5 e5 n5 h5 => ?_)
    have X5 := X4.trans e5
    have k5 := k4.ex e5
    refine asg_step (cis_te Fk [Er K (nm 18), Er K (nm 19), Er K (nm 20)] 18 rfl rfl k5 h5 (by show 18 + 3 ≤ 26; decide) (hl 18 _ rfl) fun p6 G6 e6 n6 h6 => ?_)
    have X6 := X5.trans e6
    have k6 := k5.ex e6
    refine asg_step (cis_te Fk [Er K (nm 21), Er K (nm 22)] 21 rfl rfl k6 h6 (by show 21 + 2 ≤ 26; decide) (hl 21 _ rfl) fun p7 G7 e7 n7 h7 => ?_)
    have X7 := X6.trans e7
    have k7 := k6.ex e7
    refine (cis_te Fk [Er K (nm 23), Er K (nm 24), Er K (nm 25)] 23 rfl rfl k7 h7 (by show 23 + 3 ≤ 26; decide) (hl 23 _ rfl) fun p8 G8 e8 n8 h8 => ?_)
    have X8 := X7.trans e8
    exact q p8 G8 (Evl.fresh_back X7 n8) X8 h8
theorem okh_is (T : Txt K mg) (Fk : Fs K) (F : FnP K "_law_is" s__law_is f fd) (C__law_sorts : CalH P w K mg base CX0 1 "_law_sorts" ["_law_e"] (spSorts K)) : Fh P w K mg base CX0 p 2 f fd ["_law_e", "_law_spot"] (spIsE K [p]) := by
  refine fh_of F sc__law_is (fun vs H Q E h => ?_) (fun cdv A outer s H vs Q E hr h => ⟨_, (PSs.nox (pss_cons (ps_set (i := 2) sc__law_is.nd rfl (by first | exact Or.inl rfl | exact Or.inr rfl) (pe_calH C__law_sorts hr.le pass0 (pa_cons (pv 0) pa_nil)))
  (pss_cons (ps_if (PW.pt (pw_or (pt_not (pt_tru (K := K) (pe_callB call_isX (by rfl) T.f_isinstance (by decide +kernel) (pa_cons (pv 0) (pa_cons (pe_glob (v := .ref (He.ga K "FlashError")) rfl T.g_FlashError rfl) pa_nil))) (by intro _; rfl))) (pw_or1 (pt_not (pt_tru (K := K) (pe_callB call_isX (by rfl) T.f_isinstance (by decide +kernel) (pa_cons (pv 0) (pa_cons (pe_bltn (v := .ty "ValueError") rfl T.f_ValueError (by decide +kernel) rfl) pa_nil))) (by intro _; rfl))))))
  (pss_one (ps_ret pe_bl)) pss_nil)
  (pss_one (ps_ret (pe_cmpR (u_eqH (K := K) hr) (pe_lcH (own := [("_law_k", 3)]) hr sc__law_is.nd (L2H.pi_range1H rfl T.f_range (pa_cons (pe_callB (u_len (K := K)) (by rfl) T.f_len (by decide +kernel) (pa_cons (pv 2) pa_nil)) pa_nil)) (blkOk_by (own := [("_law_k", 3)]) (N := ["_law_e", "_law_spot", "_law_sorts_here", "_law_k"]) (sc := defScope s__law_is) (by decide +kernel)) (fun _ _ _ _ _ => (pg_name (i := 3) sc__law_is.nd rfl (by first | exact Or.inl rfl | exact Or.inr rfl))) (fun _ _ _ _ _ => (pts_one (pt_tru (K := K) (pe_ix (u_ix (K := K)) (pv 2) (pv 3) (fun _ _ => rfl)) (by intro _; rfl)))) (fun _ _ _ _ _ => (pv 3))) (pe_lst (pa_cons (pv 1) pa_nil)) (nomark _))))))), ?_⟩)
  · obtain ⟨a, i, j, rfl, _⟩ := h
    rfl
  · obtain ⟨a, i, j, rfl, h, q⟩ := h
    have i26 := h.1
    refine ⟨_, rfl, a, i, rfl, h, fun pl H1 np e1 hp => ?_⟩
    have h1 := h.ex e1
    obtain ⟨_, d, ea, ed⟩ := id h1
    refine ⟨_, rfl, a, _, d, _, _, true, rfl, Fk.xf i i26, Fk.ix i i26, ea, ed, (fun u r => r), Fk.kF i i26, true, rfl, iteF ?_⟩
    refine ⟨_, rfl, a, _, d, .ty "ValueError", .type "ValueError", true, rfl, Fk.xf i i26, Fk.ix i i26, ea, ed, (fun u r => r), Fk.kV i i26, true, rfl, iteF ?_⟩
    have bl26 : (bs26 i 0 26).length = 26 := by simp
    refine ⟨_, rfl, _, _, rfl, (Sv.lst (K := K) hp).len, _, rfl, by rw [bl26]; decide, by rw [bl26]; decide, fun D hD => ?_⟩
    rw [bl26]
    have cn : ((26 : Nat) : Int).toNat = 26 := rfl
    rw [cn]
    have f1 : ∀ m : Nat, ((List.range (m + 1)).filter fun k => decide (i = k)) = ((List.range m).filter fun k => decide (i = k)) ++ (if i = m then [m] else []) := fun m => by
      rw [List.range_succ, List.filter_append]
      congr 1
      by_cases z : i = m <;> simp [z]
    refine lc_range (lo := 0) (n := 26) (fun m H' => Evl.Ex H1 H' ∧ m ≤ 26 ∧ H' D = some (.lst (IV (((List.range m).filter fun k => decide (i = k)).map fun k : Nat => (k : Int))))) ⟨Evl.Ex.new hD, by decide, upd_same⟩ ?_ ?_
    · rintro m H2 hm ⟨e2, _, h2⟩
      have ez : (0 : Int) + (m : Int) = (m : Int) := Int.zero_add _
      rw [ez]
      have at_ : atI (bs26 i 0 26) (m : Int) = some (V.bl (decide (i = m))) := by
        rw [atI_nat]
        unfold bs26
        rw [List.getElem?_map, List.getElem?_range hm]
        simp
      refine ⟨rfl, _, rfl, _, rfl, .inl ⟨pl, _, (m : Int), _, rfl, rfl, SqL.of (e2 _ _ hp), at_, _, rfl, ?_⟩⟩
      rw [f1, List.map_append] 
      by_cases z : i = m
      · rw [decide_eq_true z, if_pos z]
        refine iteT ⟨_, rfl, _, h2, ?_, Evl.Ex.mut e2 hD, by omega, ?_⟩
        · rw [iv_len, List.length_map]
          have := List.length_filter_le (fun k => decide (i = k)) (List.range m)
          rw [List.length_range] at this
          exact Evl.sz_lt (by omega)
        · rw [upd_same, iv_snoc]
          rfl
      · rw [decide_eq_false z, if_neg z]
        refine iteF ⟨e2, by omega, ?_⟩
        rw [List.map_nil, List.append_nil]
        exact h2
    · rintro H2 ⟨e2, _, h2⟩
      have ff := filt 26 i 0
      have f0 : ((List.range 26).filter fun k => decide (i = k)) = [i] := by
        have e : ((List.range 26).filter fun k => decide (i = k)) = ((List.range 26).filter fun j => decide (i = 0 + j)) := by
          congr 1
          funext j
          rw [Nat.zero_add]
        rw [e, ff, if_pos (by omega)]
        rfl
      rw [f0] at h2
      refine ⟨_, rfl, by show 1 ≤ sizeLine; decide, fun l nl => ?_⟩
      have y := Evl.Ex.new (o := .lst (IV [(j : Int)])) nl
      refine .inr (req_l (SqL.of (y _ _ h2)) (SqL.of (show _ = some (HO.lst (IV [(j : Int)])) from upd_same)) ?_)
      have ed : decide ([i].map (fun k : Nat => (k : Int)) = [(j : Int)]) = decide (i = j) := by
        by_cases z : i = j
        · subst z
          exact (decide_eq_true (p := ([(i : Int)] : List Int) = [(i : Int)]) rfl).trans (decide_eq_true rfl).symm
        · rw [decide_eq_false z, decide_eq_false]
          intro w
          have : (i : Int) = (j : Int) := by simpa using w
          omega
      rw [ed]
      exact q _ ((e1.trans e2).trans y)
theorem okh_kept (T : Txt K mg) (Fk : Fs K) (F : FnP K "_law_kept" s__law_kept f fd) : Fh P w K mg base CX0 p 1 f fd ["_law_e"] (spKept K [p]) := by
  refine fh_of F sc__law_kept (fun vs H Q E h => ?_) (fun cdv A outer s H vs Q E hr h => ⟨_, (PSs.nox (pss_cons (ps_if (pt_tru (K := K) (pe_callB call_isX (by rfl) T.f_isinstance (by decide +kernel) (pa_cons (pv 0) (pa_cons (pe_glob (v := .ref (He.ga K "PowerCut")) rfl T.g_PowerCut rfl) pa_nil))) (by intro _; rfl))
  (pss_one (ps_ret (pe_ef (pv 0)))) pss_nil)
  (pss_cons (ps_if (pt_tru (K := K) (pe_callB call_isX (by rfl) T.f_isinstance (by decide +kernel) (pa_cons (pv 0) (pa_cons (pe_glob (v := .ref (He.ga K "TooMany")) rfl T.g_TooMany rfl) pa_nil))) (by intro _; rfl))
  (pss_one (ps_ret (pe_ef (pv 0)))) pss_nil)
  (pss_one (ps_ret (pe_ifExp (pt_tru (K := K) (pe_callB call_isX (by rfl) T.f_isinstance (by decide +kernel) (pa_cons (pv 0) (pa_cons (pe_glob (v := .ref (He.ga K "NoThing")) rfl T.g_NoThing rfl) pa_nil))) (by intro _; rfl)) (pe_ef (pv 0)) (pe_ef (pv 0)))))))), ?_⟩)
  · obtain ⟨a, i, x, rfl, _⟩ := h
    rfl
  · obtain ⟨a, i, x, rfl, h, q⟩ := h
    have hA := h.any
    obtain ⟨i23, d, ea, ed⟩ := h
    obtain ⟨i26, d', ea', ed'⟩ := hA
    have fld : ∀ {g : Str}, g = fl i → tEf K [p] g (tVar 0) [some (.ref a)] H Q := fun {g} e => by
      subst e
      exact ⟨_, rfl, a, _, d, _, x, rfl, Fk.xf i i26, Fk.no i i23, ea, ed, by simp [List.lookup], q⟩
    refine ⟨_, rfl, a, _, d', _, _, _, rfl, Fk.xf i i26, Fk.ix i i26, ea', ed', (fun u r => r), Fk.kit i 20 i26 (by decide), _, rfl, ?_⟩
    by_cases z : i = 20
    · subst z
      exact iteT (fld rfl)
    rw [decide_eq_false z]
    refine iteF ⟨_, rfl, a, _, d', _, _, _, rfl, Fk.xf i i26, Fk.ix i i26, ea', ed', (fun u r => r), Fk.kit i 21 i26 (by decide), _, rfl, ?_⟩
    by_cases z1 : i = 21
    · subst z1
      exact iteT (fld rfl)
    rw [decide_eq_false z1]
    refine iteF ⟨_, rfl, a, _, d', _, _, _, rfl, Fk.xf i i26, Fk.ix i i26, ea', ed', (fun u r => r), Fk.kit i 22 i26 (by decide), _, rfl, ?_⟩
    by_cases z2 : i = 22
    · subst z2
      exact iteT (fld rfl)
    rw [decide_eq_false z2]
    refine iteF (fld ?_)
    have i20 : i < 20 := by omega
    have fg : ∀ n : Fin 20, ("given" : Str) = fl n.val := by decide +kernel
    exact fg ⟨i, i20⟩
end
end K0
/-! caught -/
namespace K0
open PySem PySem.Spec PyProof.Rows L2 VB BM
theorem takes_noN {X : Cx} : L2N.Takes X (fun _ _ _ _ => False) := fun _ _ ⟨_, _, _, _, _, _, _, _, _, _, _, _, _, _, _, _, w⟩ => w.elim
theorem pss_pin {X : Cx} {b : List Stmt} {t : Obj → TS} {Z : Obj → Prop} (oe : Obj) (hz : Z oe) (h : PSs X b (t oe)) : PSs X b (fun D σ H => ∀ oe, Z oe → t oe D σ H) := ⟨fun pins s σ H D I q => h.run pins s σ H D I (q oe hz)⟩
/-- which clause takes which error -/
structure Fc (K : PySem.W.Frag) : Prop where
  xF : ∀ way, way < 6 → PySem.W.exmOne K (.ref (Er K (nm (ixE way)))) (.ref (Er K "FlashError")) = some true
  x8 : ∀ way, way < 6 → PySem.W.exmAny K (.ref (Er K (nm (ixE way)))) ((i8.map fun i => Er K (nm i)).map .ref) = some false
  x6 : ∀ way, way < 6 → PySem.W.exmAny K (.ref (Er K (nm (ixE way)))) ((i6.map fun i => Er K (nm i)).map .ref) = some true
section
variable {P : Program} {w : World} {K : PySem.W.Frag} {mg : Str → Option Value} {base : Heap} {f : Addr} {fd : FuncData}
abbrev tIsV (K : PySem.W.Frag) (p : PO) : TE := tCall (spIsE K [p]) [] E0 (tCons (tVar 4) (tCons (tOp (rIx K) (tLst (tCons (tC (V.int 3)) (tCons (tC (V.int 20)) (tCons (tC (V.int 15)) (tCons (tC (V.int 24)) (tCons (tC (V.int 17)) (tCons (tC (V.int 22)) tNil))))))) (tVar 2)) tNil))
abbrev tSame (K : PySem.W.Frag) (p : PO) : TE := tOp (rEqU K) (tCB rReprP (tCons (tCall (spKept K [p]) [] E0 (tCons (tVar 4) tNil)) tNil)) (tCB rReprP (tCons (tVar 1) tNil))
/-- the first suite -/
abbrev tSt (K : PySem.W.Frag) (p : PO) : TS := tDrop (tBM K "list" rAppend (tVar 3) (tCons (tAndV (tIsV K p) (tOrV (tOp (rEqU K) (tVar 2) (tC (V.int 3))) (tSame K p))) tNil))
def tSu (K : PySem.W.Frag) : TSu := fun a cls d D σ H => ∀ oe : Obj, (L2N.Zn cls d oe ∧ ∃ vs, oe.data = .fields vs) → tSt K (a, oe) D σ H
def tSb (K : PySem.W.Frag) (b : Bool) : TSu := fun _ _ _ => tDrop (tBM K "list" rAppend (tVar 3) (tCons (tC (.bl b)) tNil))
theorem at6 : ∀ way : Nat, way < 6 → atI [V.int 3, .int 20, .int 15, .int 24, .int 17, .int 22] (way : Int) = some (.int ((ixE way : Nat) : Int))
  | 0, _ => rfl
  | 1, _ => rfl
  | 2, _ => rfl
  | 3, _ => rfl
  | 4, _ => rfl
  | 5, _ => rfl
theorem ix26 : ∀ way : Nat, way < 6 → ixE way < 26
  | 0, _ => by decide
  | 1, _ => by decide
  | 2, _ => by decide
  | 3, _ => by decide
  | 4, _ => by decide
  | 5, _ => by decide
theorem ix23 : ∀ way : Nat, way < 6 → way ≠ 3 → ixE way < 23
  | 0, _, _ => by decide
  | 1, _, _ => by decide
  | 2, _, _ => by decide
  | 3, _, h => absurd rfl h
  | 4, _, _ => by decide
  | 5, _, _ => by decide
theorem suite_run (Fk : Fs K) {D : Ends} {bx m a : Addr} {x : V} {t : Str} {d : Option Addr} {oe : Obj} {way : Nat} {H : Hp} (hw : way < 6) (hz : L2N.Zn (.ref (Er K (nm (ixE way)))) d oe) (hv : ∃ vs, oe.data = .fields vs) (hm : H m = some (.lst []))
    (hd : way ≠ 3 → ∃ dd, d = some dd ∧ FldAt H dd [(fl (ixE way), x)]) (h3 : way = 3 → d = none) (rp : ∀ H2, Evl.Ex H H2 → Rp H2 x t)
    (q : ∀ H1, Evl.Ex H H1 → D.nx [some (.ref bx), some x, some (.int (way : Int)), some (.ref m), some (.ref a)] (upd H1 m (.lst [.bl true]))) : tSt K (a, oe) D [some (.ref bx), some x, some (.int (way : Int)), some (.ref m), some (.ref a)] H := by
  obtain ⟨vs, hv⟩ := hv
  have er : ∀ {H' : Hp}, ErrP [(a, oe)] H' a (Er K (nm (ixE way))) d := fun {H'} => .inr ⟨oe, vs, List.mem_cons_self, hz.zc, hv⟩
  have any : ∀ {H' : Hp}, Evl.Ex H H' → AnyP K [(a, oe)] H' a (ixE way) := fun {H'} e => ⟨ix26 way hw, d, er, fun dd z => by
    by_cases w3 : way = 3
    · rw [h3 w3] at z
      cases z
    · obtain ⟨d', e1, h⟩ := hd w3
      rw [e1] at z
      cases z
      exact ⟨_, h.ex e⟩⟩
  refine ⟨_, rfl, .inl ⟨rfl, _, SqL.of hm⟩, _, rfl, by show 6 ≤ sizeLine; decide, fun l nl => ⟨_, rfl, .inl ⟨l, _, (way : Int), _, rfl, rfl, SqL.of upd_same, at6 way hw, ?_⟩⟩⟩
  have y := Evl.Ex.new (o := .lst [V.int 3, .int 20, .int 15, .int 24, .int 17, .int 22]) nl
  refine ⟨a, ixE way, ixE way, rfl, any y, fun H1 e1 => ⟨_, rfl, ?_⟩⟩
  rw [decide_eq_true rfl]
  have y1 := y.trans e1
  have fin : ∀ {H2 : Hp}, Evl.Ex H H2 → rAppend (.ref m) [V.bl true] H2 (fun _ H1 => D.nx [some (.ref bx), some x, some (.int (way : Int)), some (.ref m), some (.ref a)] H1) := fun {H2} e => ⟨m, [], _, rfl, rfl, e _ _ hm, by show 0 < sizeLine; decide, q H2 e⟩
  refine iteT ⟨_, rfl, .inl ⟨rfl, ?_⟩⟩
  by_cases w3 : way = 3
  · subst w3
    exact ⟨_, rfl, iteT (fin y1)⟩
  · have y3 : decide (V.int (way : Int) = V.int 3) = false := decide_eq_false fun z => w3 (by have := V.int.inj z; omega)
    rw [y3]
    obtain ⟨d', ed, fd'⟩ := hd w3
    refine ⟨_, rfl, iteF ⟨_, rfl, a, ixE way, x, rfl, ⟨ix23 way hw w3, d', ed ▸ er, fd'.ex y1⟩, x, t, rfl, rp _ y1, _, rfl, x, t, rfl, rp _ y1, .inl ⟨rfl, ?_⟩⟩⟩
    rw [decide_eq_true rfl]
    exact fin y1
abbrev dTT : PyData := .list [.bool true, .bool true]
abbrev l86 (K : PySem.W.Frag) : List (List Addr × TSu) := [(i8.map fun i => Er K (nm i), tSb K false), (i6.map fun i => Er K (nm i), tSb K true)]
theorem two_run (Fc : Fc K) {Q : VK} {bx m : Addr} {x : V} {v4 : Option V} {way : Nat} {H1 H : Hp} {D : Ends} (hw : way < 6) (n1 : H1 m = none) (e1 : Evl.Ex H1 H) (hm : H m = some (.lst [.bl true])) (eD : D.rt = Q) (q : ∀ H', Evl.Ex H1 H' → Q (.bl true) H') :
    tSeq (fun D σ H_1 => tDrop (tCallS (spRaised K) (WE (wTup K D (l86 K))) (tCons (tVar 2) (tCons (tVar 1) tNil))) D σ H_1) (tRet (tOp (rEqU K) (tVar 3) (tLst (tCons (tC (V.bl true)) (tCons (tC (V.bl true)) tNil))))) D [some (.ref bx), some x, some (.int (way : Int)), some (.ref m), v4] H := by
  have sb : ∀ (H2 : Hp) (a : Addr) (cls : Value) (d : Option Addr), Evl.Ex H1 H2 → H2 m = some (.lst [.bl true]) → tSb K true a cls d { D with nx := fun σ' H' => (tRet (tOp (rEqU K) (tVar 3) (tLst (tCons (tC (V.bl true)) (tCons (tC (V.bl true)) tNil))))) D σ' H' } [some (.ref bx), some x, some (.int (way : Int)), some (.ref m), v4] H2 := by
    intro H2 a cls d e2 h2
    refine ⟨_, rfl, .inl ⟨rfl, _, SqL.of h2⟩, m, _, _, rfl, rfl, h2, by show 1 < sizeLine; decide, ?_⟩
    have h3 : upd H2 m (.lst ([V.bl true] ++ [V.bl true])) m = some (.lst [V.bl true, .bl true]) := upd_same
    have e3 : Evl.Ex H1 (upd H2 m (.lst ([V.bl true] ++ [V.bl true]))) := Evl.Ex.mut e2 n1
    generalize upd H2 m (.lst ([V.bl true] ++ [V.bl true])) = H3 at h3 e3 ⊢
    refine ⟨_, rfl, by show 2 ≤ sizeLine; decide, fun l nl => .inr ⟨dTT, dTT, ?_, ?_, by decide +kernel, by decide +kernel, ?_⟩⟩
    · exact .lst (SqL.of (Evl.Ex.new nl _ _ h3)) (.cons (.bl true) (.cons (.bl true) .nil))
    · exact .lst (SqL.of upd_same) (.cons (.bl true) (.cons (.bl true) .nil))
    · have ev : PyData.eqv dTT dTT = true := by decide +kernel
      rw [ev]
      show D.rt (.bl true) _
      rw [eD]
      exact q _ (e3.trans (Evl.Ex.new nl))
  have go : ∀ (H2 : Hp) (d : Option Addr), Evl.Ex H H2 → wTup K { D with nx := fun σ' H' => (tRet (tOp (rEqU K) (tVar 3) (tLst (tCons (tC (V.bl true)) (tCons (tC (V.bl true)) tNil))))) D σ' H' } (l86 K) (.ref (Er K (nm (ixE way)))) d [some (.ref bx), some x, some (.int (way : Int)), some (.ref m), v4] H2 := fun H2 d e =>
    ⟨false, Fc.x8 way hw, fun z => absurd z (by decide), fun _ => ⟨true, Fc.x6 way hw, fun _ a na => sb H2 a _ d (e1.trans e) (e _ _ hm), fun z => absurd z (by decide)⟩⟩
  refine ⟨_, rfl, _, rfl, way, x, rfl, hw, fun w3 d H3 e3 n3 => go _ _ (e3.trans (Evl.Ex.new n3)), fun w3 => ?_⟩
  subst w3
  exact go _ _ (Evl.Ex.refl _)
def spCaught : Sp := fun vs H Q _ => ∃ (bx : Addr) (c : Int) (x : V) (t : Str), vs = [.ref bx, x] ∧ Box H bx c ∧ c < 60000000 ∧ (∀ H2, Exb bx H H2 → Rp H2 x t) ∧ ∀ H', Exb bx H H' → Box H' bx (c + 1) → Q (.bl true) H'
theorem ok_caught (hd : base.NoDigits) (T : Txt K mg) (Fk : Fs K) (Fc : Fc K) (F : FnP K "_law_caught" s__law_caught f fd) (C__law_take : Cal P w K mg base CX0 1 "_law_take" ["_law_box_here", "_law_many"] spTake) (C__law_raised : Cal P w K mg base (L2N.CX P w) 3 "_law_raised" ["_law_way", "_law_thing_here"] (spRaised K))
    (C__law_is : CalH P w K mg base CX0 2 "_law_is" ["_law_e", "_law_spot"] (spIsE K)) (C__law_kept : CalH P w K mg base CX0 1 "_law_kept" ["_law_e"] (spKept K)) : Fg P w K mg base CX0 4 f fd ["_law_box_here", "_law_thing_here"] spCaught := by
  refine fg_of F sc__law_caught (fun vs H Q E h => ?_) (fun cdv A outer s H vs Q E hr h => ⟨_, (pss_cons (ps_set (i := 2) sc__law_caught.nd rfl (by first | exact Or.inl rfl | exact Or.inr rfl) (pe_cal C__law_take hr.le pass0 (pa_cons (pv 0) (pa_cons pe_int pa_nil))))
    (pss_cons (ps_set (i := 3) sc__law_caught.nd rfl (by first | exact Or.inl rfl | exact Or.inr rfl) (pe_lst pa_nil))
    (pss_cons (L2N.ps_try_as (i := 4) (ts := tSu K) (c := .ref (Er K "FlashError")) rfl rfl sc__law_caught.nd rfl rfl ⟨rfl, by decide, .inl T.g_FlashError⟩ takes_noN
      (fun W pn xe tk pa => pss_one (ps_expr (pe_calS C__law_raised hr.le (L2N.passAt tk) (pa_cons (pv 2) (pa_cons (pv 1) pa_nil)))))
      (fun a oe cls d pn hz hv => pss_pin (Z := fun o => L2N.Zn cls d o ∧ ∃ vs, o.data = .fields vs) (t := fun o => tSt K (a, o)) oe ⟨hz, hv⟩ (pss_one (ps_expr (pe_bm PySem.F.plainAttrs_list PySem.F.slot_list_append PySem.F.type_list_append mt_append (pv 3) (pa_cons (pe_and (pe_calH C__law_is (hr.hot hv.choose_spec (hz.2.2 _ hv.choose_spec)).le pass0 (pa_cons (pv 4) (pa_cons (pe_ix (u_ix (K := K)) (pe_lst (pa_cons pe_int (pa_cons pe_int (pa_cons pe_int (pa_cons pe_int (pa_cons pe_int (pa_cons pe_int pa_nil))))))) (pv 2) (fun _ _ => rfl)) pa_nil)))
        (pe_one (pe_or (pe_cmpR (u_eqH (K := K) (hr.hot hv.choose_spec (hz.2.2 _ hv.choose_spec))) (pv 2) pe_int (nomark _)) (pe_one (pe_cmpR (u_eqH (K := K) (hr.hot hv.choose_spec (hz.2.2 _ hv.choose_spec))) (pe_callB (call_reprPH (hr.hot hv.choose_spec (hz.2.2 _ hv.choose_spec)) hd) (by rfl) T.f_repr (by decide +kernel) (pa_cons (pe_calH C__law_kept (hr.hot hv.choose_spec (hz.2.2 _ hv.choose_spec)).le pass0 (pa_cons (pv 4) pa_nil)) pa_nil)) (pe_callB (call_reprPH (hr.hot hv.choose_spec (hz.2.2 _ hv.choose_spec)) hd) (by rfl) T.f_repr (by decide +kernel) (pa_cons (pv 1) pa_nil)) (nomark _)))))) pa_nil))))))
    (pss_cons (ps_try_tup rfl rfl (fun W pn xe tk pa => pss_one (ps_expr (pe_calS C__law_raised hr.le (L2N.passAt tk) (pa_cons (pv 2) (pa_cons (pv 1) pa_nil)))))
      (.cons (ts := tSb K false) (as := i8.map fun i => Er K (nm i)) (by show 8 ≤ sizeLine; decide) (.cons rfl T.g_InvalidNumber rfl rfl (.cons rfl T.g_InvalidOp rfl rfl (.cons rfl T.g_InvalidChip rfl rfl (.cons rfl T.g_NotReady rfl rfl (.cons rfl T.g_InvalidRecord rfl rfl (.cons rfl T.g_InvalidName rfl rfl (.cons rfl T.g_TooMany rfl rfl (.cons rfl T.g_NothingToUndo rfl rfl .nil))))))))
        (fun a oe cls d pn hz hv => pss_one (ps_expr (pe_bm PySem.F.plainAttrs_list PySem.F.slot_list_append PySem.F.type_list_append mt_append (pv 3) (pa_cons pe_bl pa_nil))))
      (.cons (ts := tSb K true) (as := i6.map fun i => Er K (nm i)) (by show 6 ≤ sizeLine; decide) (.cons rfl T.g_InvalidMask rfl rfl (.cons rfl T.g_PowerCut rfl rfl (.cons rfl T.g_InvalidTree rfl rfl (.cons rfl T.g_NoRoom rfl rfl (.cons rfl T.g_InvalidRecords rfl rfl (.cons rfl T.g_NoThing rfl rfl .nil))))))
        (fun a oe cls d pn hz hv => pss_one (ps_expr (pe_bm PySem.F.plainAttrs_list PySem.F.slot_list_append PySem.F.type_list_append mt_append (pv 3) (pa_cons pe_bl pa_nil)))) .nil)))
    (pss_one (ps_ret (pe_cmpR (u_eq (K := K) hr) (pv 3) (pe_lst (pa_cons pe_bl (pa_cons pe_bl pa_nil))) (nomark _)))))))), ?_⟩)
  · obtain ⟨bx, c, x, t, rfl, _⟩ := h
    rfl
  · obtain ⟨bx, c, x, t, rfl, B, hc, hx, q⟩ := h
    refine ⟨_, rfl, bx, 6, c, rfl, B, by decide, by decide, by omega, fun r H1 r0 r6 e1 B1 => ?_⟩
    obtain ⟨way, rfl⟩ : ∃ n : Nat, r = n := ⟨r.toNat, by omega⟩
    have hw : way < 6 := by omega
    refine ⟨by show 0 ≤ sizeLine; decide, fun m nm' => ?_⟩
    have ym := Evl.Ex.new (o := .lst []) nm'
    have hm := upd_same (H := H1) (a := m) (o := .lst [])
    generalize upd H1 m (.lst []) = H2 at ym hm ⊢
    have rp : ∀ H', Evl.Ex H1 H' → Rp H' x t := fun H' e => hx H' (e1.trans (Exb.of e))
    have go : ∀ (D : Ends) (H3 : Hp) (d : Option Addr) (a : Addr) (oe : Obj), (∀ Ha, Evl.Ex H3 Ha → D.nx [some (.ref bx), some x, some (.int (way : Int)), some (.ref m), some (.ref a)] (upd Ha m (.lst [.bl true]))) → Evl.Ex H2 H3 → (way ≠ 3 → ∃ dd, d = some dd ∧ FldAt H3 dd [(fl (ixE way), x)]) → (way = 3 → d = none) → (L2N.Zn (.ref (Er K (nm (ixE way)))) d oe ∧ ∃ vs, oe.data = .fields vs) → tSt K (a, oe) D [some (.ref bx), some x, some (.int (way : Int)), some (.ref m), some (.ref a)] H3 := fun D H3 d a oe qn e3 f1 f2 hz =>
      suite_run Fk hw hz.1 hz.2 (e3 _ _ hm) f1 f2 (fun H' e => rp H' ((ym.trans e3).trans e)) qn
    refine ⟨_, rfl, _, rfl, way, x, rfl, hw, fun w3 d H3 e3 n3 => ?_, fun w3 => ?_⟩
    · exact ⟨true, Fc.xF way hw, fun _ a na oe hz => go _ _ _ _ _ (fun Ha ea => two_run Fc hw nm' (Evl.Ex.mut ((ym.trans (e3.trans (Evl.Ex.new n3))).trans ea) nm') upd_same rfl fun H' e' => q H' (e1.trans (Exb.of e')) (B1.ex e')) (e3.trans (Evl.Ex.new n3)) (fun _ => ⟨d, rfl, .inr upd_same⟩) (fun z => absurd z w3) hz, fun z => absurd z (by decide)⟩
    · subst w3
      exact ⟨true, Fc.xF 3 hw, fun _ a na oe hz => go _ _ _ _ _ (fun Ha ea => two_run Fc hw nm' (Evl.Ex.mut ((ym.trans (Evl.Ex.refl _)).trans ea) nm') upd_same rfl fun H' e' => q H' (e1.trans (Exb.of e')) (B1.ex e')) (Evl.Ex.refl _) (fun z => absurd rfl z) (fun _ => rfl) hz, fun z => absurd z (by decide)⟩
end
end K0
namespace K0
open PySem PySem.Spec PyProof.Rows L2 VB BM
section
variable {P : Program} {w : World} {K : PySem.W.Frag} {mg : Str → Option Value} {base : Heap} {f : Addr} {fd : FuncData}
def spLaw (K : PySem.W.Frag) : Sp := fun vs H Q _ => ∃ (a : Addr) (ns : List Int), vs = [.ref a] ∧ SqL K H a (ns.map V.int) ∧ ns.length ≤ 1000 ∧ ∀ H' : Hp, Q (.bl true) H'
theorem ok_law {fR : Addr} (T : Txt K mg) (Fk : Fs K) (B_NotReady : BareC K mg "NotReady" (Er K "NotReady")) (B_NoRoom : BareC K mg "NoRoom" (Er K "NoRoom")) (B_NothingToUndo : BareC K mg "NothingToUndo" (Er K "NothingToUndo")) (EK_InvalidRecord : MkEK P w K mg base "InvalidRecord" "given" (Er K "InvalidRecord") fR)
    (F : FnP K "law" s_law f fd) (C__law_box : Cal P w K mg base CX0 1 "_law_box" ["_law_great"] spBox) (C__law_cell : Cal P w K mg base CX0 1 "_law_cell" ["_law_script", "_law_k"] (spCell K)) (C__law_is : Cal P w K mg base CX0 2 "_law_is" ["_law_e", "_law_spot"] (spIsE K []))
    (C__law_all_right : Cal P w K mg base CX0 4 "_law_all_right" ["_law_box_here"] spAR) (C__law_thing : Cal P w K mg base CX0 2 "_law_thing" ["_law_box_here"] spThing) (C__law_caught : Cal P w K mg base CX0 4 "_law_caught" ["_law_box_here", "_law_thing_here"] spCaught) (C__law_very_right : Cal P w K mg base CX0 4 "_law_very_right" [] spVR) :
    Fg P w K mg base CX0 5 f fd ["_law_script"] (spLaw K) := by
  refine fg_of F sc_law (fun vs H Q E h => ?_) (fun cdv A outer s H vs Q E hr h => ⟨_, (PSs.nox (pss_cons (ps_set (i := 1) sc_law.nd rfl (by first | exact Or.inl rfl | exact Or.inr rfl) (pe_lst (pa_cons (pe_exc0 B_NotReady) (pa_cons (pe_exc0 B_NoRoom) (pa_cons (pe_exc0 B_NothingToUndo) pa_nil)))))
  (pss_cons (ps_if (pt_cmpR (u_ne (K := K) hr) (pe_lc (own := [("_law_k", 3)]) rfl sc_law.nd (pi_range1 rfl T.f_range (pa_cons pe_int pa_nil)) (blkOk_by (own := [("_law_k", 3)]) (N := ["_law_script", "_law_bare", "_law_box_here", "_law_k"]) (sc := defScope s_law) (by decide +kernel)) (fun _ _ _ _ _ => (pg_name (i := 3) sc_law.nd rfl (by first | exact Or.inl rfl | exact Or.inr rfl))) (fun _ _ _ _ _ => (pts_one (pt_not (pt_tru (K := K) (pe_cal C__law_is hr.le pass0 (pa_cons (pe_ix (u_ix (K := K)) (pv 1) (pv 3) (fun _ _ => rfl)) (pa_cons (pe_op (u_add (K := K)) pe_int (pv 3)) pa_nil))) (by intro _; rfl))))) (fun _ _ _ _ _ => (pv 3))) (pe_lst pa_nil) (nomark _))
  (pss_one (ps_ret pe_bl)) pss_nil)
  (pss_cons (ps_for PassesOwn.never rfl (pi_range1 rfl T.f_range (pa_cons (pe_callB (call_max2 rfl) (by rfl) T.f_max (by decide +kernel) (pa_cons pe_int (pa_cons (pe_callB (call_min2 rfl) (by rfl) T.f_min (by decide +kernel) (pa_cons pe_int (pa_cons (pe_callB (u_len (K := K)) (by rfl) T.f_len (by decide +kernel) (pa_cons (pv 0) pa_nil)) pa_nil))) pa_nil))) pa_nil)) (pg_name (i := 3) sc_law.nd rfl (by first | exact Or.inl rfl | exact Or.inr rfl))
  (pss_cons (ps_set (i := 2) sc_law.nd rfl (by first | exact Or.inl rfl | exact Or.inr rfl) (pe_cal C__law_box hr.le pass0 (pa_cons (pe_cal C__law_cell hr.le pass0 (pa_cons (pv 0) (pa_cons (pv 3) pa_nil))) pa_nil)))
  (pss_one (ps_if (PW.pt (pw_or (pt_not (pt_tru (K := K) (pe_cal C__law_all_right hr.le pass0 (pa_cons (pv 2) pa_nil)) (by intro _; rfl))) (pw_or1 (pt_not (pt_tru (K := K) (pe_cal C__law_caught hr.le pass0 (pa_cons (pv 2) (pa_cons (pe_cal C__law_thing hr.le pass0 (pa_cons (pv 2) pa_nil)) pa_nil))) (by intro _; rfl))))))
  (pss_one (ps_ret pe_bl)) pss_nil))))
  (pss_one (ps_ret (pe_and (pe_cal0 C__law_very_right hr.le pass0) (pe_one (pe_callB call_isX (by rfl) T.f_isinstance (by decide +kernel) (pa_cons (pe_ef (pe_mkvK EK_InvalidRecord hr (pk_cons (pe_exc0 B_NoRoom) pk_nil))) (pa_cons (pe_glob (v := .ref (He.ga K "NoRoom")) rfl T.g_NoRoom rfl) pa_nil))))))))))), ?_⟩)
  · obtain ⟨a, ns, rfl, _⟩ := h
    rfl
  · obtain ⟨a, ns, rfl, S, hl, q⟩ := h
    intro a0 n0
    intro a1 n1 a2 n2
    refine ⟨by show 3 ≤ sizeLine; decide, fun p np => ?_⟩
    have y0 := Evl.Ex.new (o := ExO (.ref (Er K "NotReady")) a0) n0
    have y1 := Evl.Ex.new (o := ExO (.ref (Er K "NoRoom")) a1) n1
    have y2 := Evl.Ex.new (o := ExO (.ref (Er K "NothingToUndo")) a2) n2
    have yp := Evl.Ex.new (o := .lst [V.ref a0, .ref a1, .ref a2]) np
    have A0 : AnyAt K _ a0 23 := ⟨by decide, none, .inr (.inr ⟨rfl, ((y1.trans y2).trans yp) _ _ upd_same⟩), fun dd z => by cases z⟩
    have A1 : AnyAt K _ a1 24 := ⟨by decide, none, .inr (.inr ⟨rfl, (y2.trans yp) _ _ upd_same⟩), fun dd z => by cases z⟩
    have A2 : AnyAt K _ a2 25 := ⟨by decide, none, .inr (.inr ⟨rfl, yp _ _ upd_same⟩), fun dd z => by cases z⟩
    have E1 := ((y0.trans y1).trans y2).trans yp
    have hp := upd_same (H := upd (upd (upd H a0 (ExO (.ref (Er K "NotReady")) a0)) a1 (ExO (.ref (Er K "NoRoom")) a1)) a2 (ExO (.ref (Er K "NothingToUndo")) a2)) (a := p) (o := .lst [V.ref a0, .ref a1, .ref a2])
    generalize upd (upd (upd (upd H a0 (ExO (.ref (Er K "NotReady")) a0)) a1 (ExO (.ref (Er K "NoRoom")) a1)) a2 (ExO (.ref (Er K "NothingToUndo")) a2)) p (.lst [V.ref a0, .ref a1, .ref a2]) = G at A0 A1 A2 E1 hp ⊢
    have sel : ∀ n : Nat, n < 3 → ∃ b, atI [V.ref a0, .ref a1, .ref a2] (n : Int) = some (.ref b) ∧ AnyAt K G b (23 + n) := by
      intro n hn
      match n, hn with
      | 0, _ => exact ⟨a0, rfl, A0⟩
      | 1, _ => exact ⟨a1, rfl, A1⟩
      | 2, _ => exact ⟨a2, rfl, A2⟩
    have sh0 : SeqAt.shaped (.list []) = true := by decide +kernel
    have ev0 : PyData.eqv (.list []) (.list []) = true := by decide +kernel
    refine ⟨(3 : Int), rfl, by decide, by decide, fun D hD => ?_⟩
    refine lc_range (lo := 0) (n := 3) (fun i H' => Evl.Ex G H' ∧ H' D = some (.lst [])) ⟨Evl.Ex.new hD, upd_same⟩ ?_ ?_
    · rintro i H1 hi ⟨e1, h1⟩
      have ez : (0 : Int) + (i : Int) = (i : Int) := Int.zero_add _
      rw [ez]
      obtain ⟨b, hb, hA⟩ := sel i hi
      refine ⟨rfl, ?_⟩
      refine ⟨_, rfl, _, rfl, .inl ⟨p, _, (i : Int), _, rfl, rfl, SqL.of (e1 _ _ hp), hb, _, rfl, .inl ⟨_, _, rfl, rfl, ?_⟩⟩⟩
      refine ⟨b, 23 + i, 23 + i, (by show [V.ref b, V.int ((23 : Int) + (i : Int))] = _; rw [show (23 : Int) + (i : Int) = ((23 + i : Nat) : Int) by omega]), (hA.ex e1).p, fun H2 e2 => ⟨_, rfl, ?_⟩⟩
      rw [decide_eq_true rfl]
      exact iteF ⟨e1.trans e2, e2 _ _ h1⟩
    · rintro H1 ⟨e1, h1⟩
      refine ⟨by show 0 ≤ sizeLine; decide, fun l nl => ?_⟩
      have y := Evl.Ex.new (o := .lst []) nl
      refine .inr ⟨.list [], .list [], .lst (SqL.of (y _ _ h1)) .nil, .lst (SqL.of upd_same) .nil, sh0, sh0, ?_⟩
      rw [ev0]
      refine ⟨_, rfl, iteF ?_⟩
      have E2 := (E1.trans e1).trans y
      generalize upd H1 l (.lst []) = G2 at E2 ⊢
      have S2 := Evl.ex_l E2 S
      refine ⟨_, rfl, _, _, rfl, .inl ⟨_, S2, rfl⟩, _, _, rfl, _, _, rfl, ?_⟩
      obtain ⟨t, ht, t2⟩ : ∃ t : Nat, (if (2 : Int) < (if ((ns.map V.int).length : Int) < 4 then ((ns.map V.int).length : Int) else 4) then (if ((ns.map V.int).length : Int) < 4 then ((ns.map V.int).length : Int) else 4) else 2) = (t : Int) ∧ t ≤ 4 := by
        refine ⟨(if (2 : Int) < (if ((ns.map V.int).length : Int) < 4 then ((ns.map V.int).length : Int) else 4) then (if ((ns.map V.int).length : Int) < 4 then ((ns.map V.int).length : Int) else 4) else 2).toNat, ?_, ?_⟩
        · split <;> split <;> omega
        · split <;> split <;> omega
      rw [ht]
      refine ⟨(t : Int), rfl, by omega, by omega, ?_⟩
      have tt : ((t : Int)).toNat = t := by omega
      rw [tt]
      refine for_range (lo := 0) (n := t) (fun i σ H' => i ≤ t ∧ Evl.Ex H H' ∧ ∃ v2 v3 : Option V, σ = [some (.ref a), some (.ref p), v2, v3]) ⟨by omega, E2, _, _, rfl⟩ ?_ ?_
      · rintro i σ H3 hi ⟨_, e3, v2, v3, rfl⟩
        have ez : (0 : Int) + (i : Int) = (i : Int) := Int.zero_add _
        rw [ez]
        refine ⟨_, rfl, _, rfl, a, ns, (i : Int), rfl, Evl.ex_l e3 S, by omega, by omega, hl, fun g H4 e4 => ⟨g, rfl, fun bx H5 n5 e5 B => ?_⟩⟩
        have E5 := (e3.trans e4).trans e5
        have nH : H bx = none := Evl.fresh_back (e3.trans e4) n5
        refine ⟨_, rfl, bx, 0, rfl, B, by omega, fun H6 x6 B6 => ⟨true, rfl, iteF ?_⟩⟩
        refine ⟨_, rfl, _, rfl, bx, _, rfl, B6, by omega, fun v tx H7 x7 B7 rp => ⟨bx, _, v, tx, rfl, B7, by omega, rp, fun H8 x8 B8 => ⟨true, rfl, iteF ?_⟩⟩⟩
        exact ⟨by omega, ex_b E5 nH ((x6.trans x7).trans x8), _, _, rfl⟩
      · rintro σ H3 ⟨_, e3, v2, v3, rfl⟩
        refine ⟨rfl, fun H4 => ⟨true, rfl, iteT ?_⟩⟩
        intro a4 n4
        refine ⟨_, rfl, fun a5 d5 n5 m5 ne => ?_⟩
        obtain ⟨e5, ea, ed⟩ := mk_facts (C := Er K "InvalidRecord") (g := "given") (x := V.ref a4) n5 m5 ne
        have A4 : AnyAt K _ a4 24 := ⟨by decide, none, .inr (.inr ⟨rfl, e5 _ _ upd_same⟩), fun dd z => by cases z⟩
        generalize upd (upd (upd (upd H4 a4 (ExO (.ref (Er K "NoRoom")) a4)) a5 (exo a5 (Er K "InvalidRecord") none)) d5 (exd d5 [("given", V.ref a4)])) a5 (exo a5 (Er K "InvalidRecord") (some d5)) = H5 at ea ed A4 ⊢
        refine ⟨a5, _, d5, _, .ref a4, rfl, Fk.xf 10 (by decide), Fk.no 10 (by decide), .inl ea, ed, rfl, ?_⟩
        exact isx Fk A4.p 24 (by decide) (q _)
end
end K0
/-! what is looked at of the error classes -/
namespace K0
open PySem PySem.Spec PyProof.Rows L2 VB BM
theorem all_lt {n : Nat} {f : Nat → Bool} (h : (List.range n).all f = true) {i : Nat} (hi : i < n) : f i = true := List.all_eq_true.mp h i (List.mem_range.mpr hi)
section
variable {K : PySem.W.Frag} {mg : Str → Option Value}
theorem one_of (h : allB K = true) {i : Nat} (hi : i < 26) : XfC K (Er K (nm i)) ∧ IsX K (Er K (nm i)) ∧ (∀ j, j < 26 → PySem.W.kitOne K (.ref (Er K (nm i))) (.ref (Er K (nm j))) = some (decide (i = j))) ∧ PySem.W.kitOne K (.ref (Er K (nm i))) (.ref (Er K "FlashError")) = some true ∧ PySem.W.kitOne K (.ref (Er K (nm i))) (.type "ValueError") = some true := by
  unfold allB at h
  have h := all_lt (Bool.and_eq_true_iff.mp h).1 hi
  unfold oneB at h
  obtain ⟨h1, h⟩ := Bool.and_eq_true_iff.mp h
  obtain ⟨h2, h⟩ := Bool.and_eq_true_iff.mp h
  obtain ⟨h3, h⟩ := Bool.and_eq_true_iff.mp h
  obtain ⟨h4, h5⟩ := Bool.and_eq_true_iff.mp h
  unfold kitB at h3
  exact ⟨xfB_ok h1, isXB_ok h2, fun j hj => of_decide_eq_true (all_lt h3 hj), of_decide_eq_true h4, of_decide_eq_true h5⟩
theorem err_of (h : allB K = true) (i : Nat) (hi : i < 23) (gC : mg (nm i) = some (.ref (Er K (nm i)))) : ErrC K mg (nm i) (fl i) (Er K (nm i)) (He.ma K (Er K (nm i)) "__init__") := by
  unfold allB at h
  exact (errB_ok (all_lt (Bool.and_eq_true_iff.mp (Bool.and_eq_true_iff.mp h).2).1 hi) gC).1
theorem bare_of (h : allB K = true) (i : Nat) (hi : i < 3) (gC : mg (nm (23 + i)) = some (.ref (Er K (nm (23 + i))))) : BareC K mg (nm (23 + i)) (Er K (nm (23 + i))) := by
  unfold allB at h
  have h := all_lt (Bool.and_eq_true_iff.mp (Bool.and_eq_true_iff.mp (Bool.and_eq_true_iff.mp h).2).2).1 hi
  unfold bareB at h
  obtain ⟨h1, h⟩ := Bool.and_eq_true_iff.mp h
  obtain ⟨h2, h⟩ := Bool.and_eq_true_iff.mp h
  obtain ⟨h3, h4⟩ := Bool.and_eq_true_iff.mp h
  exact ⟨h1, gC, h2, of_decide_eq_true h3, of_decide_eq_true h4⟩
theorem fs_of (h : allB K = true) : Fs K where
  xf := fun i hi => (one_of h hi).1
  ix := fun i hi => (one_of h hi).2.1
  kit := fun i j hi hj => (one_of h hi).2.2.1 j hj
  kF := fun i hi => (one_of h hi).2.2.2.1
  kV := fun i hi => (one_of h hi).2.2.2.2
  no := fun i hi => (err_of (mg := fun _ => some (.ref (Er K (nm i)))) h i hi rfl).noG
  oex := fun i hi => (err_of (mg := fun _ => some (.ref (Er K (nm i)))) h i hi rfl).oex
theorem fc_of (h : allB K = true) : Fc K := by
  unfold allB at h
  have h := (Bool.and_eq_true_iff.mp (Bool.and_eq_true_iff.mp (Bool.and_eq_true_iff.mp h).2).2).2
  have hw : ∀ {way}, way < 6 → wayB K way = true := fun hw => all_lt h hw
  unfold wayB at hw
  exact ⟨fun way h => of_decide_eq_true (Bool.and_eq_true_iff.mp (hw h)).1, fun way h => of_decide_eq_true (Bool.and_eq_true_iff.mp (Bool.and_eq_true_iff.mp (hw h)).2).1, fun way h => of_decide_eq_true (Bool.and_eq_true_iff.mp (Bool.and_eq_true_iff.mp (hw h)).2).2⟩
end
end K0
namespace K0
open PySem PySem.Spec PyProof.Rows L2 VB BM
section
variable {P : Program} {w : World} {K : PySem.W.Frag} {mg : Str → Option Value} {base : Heap} {f : Addr} {fd : FuncData}
theorem ini_InvalidOctets (F : FnM K "__init__" "InvalidOctets.__init__" s_InvalidOctets____init__ f fd) : FnOk P w K mg base CX0 1 f fd ["self", "given"] (spInit K "given") := by
  refine F.ok sc_InvalidOctets____init__ (fun vs H Q E h => ?_) (fun cdv A outer s H vs Q E hr h => ⟨_, pss_one (ps_ost (pv 0) (pv 1)), ?_⟩)
  · obtain ⟨a, C, y, rfl, _⟩ := h
    rfl
  · obtain ⟨a, C, y, rfl, T, no, ea, q⟩ := h
    exact ⟨_, rfl, _, rfl, a, C, rfl, T, no, .inl ⟨ea, fun dx n ne => q dx n ne⟩⟩
theorem ini_InvalidCount (F : FnM K "__init__" "InvalidCount.__init__" s_InvalidCount____init__ f fd) : FnOk P w K mg base CX0 1 f fd ["self", "given"] (spInit K "given") := by
  refine F.ok sc_InvalidCount____init__ (fun vs H Q E h => ?_) (fun cdv A outer s H vs Q E hr h => ⟨_, pss_one (ps_ost (pv 0) (pv 1)), ?_⟩)
  · obtain ⟨a, C, y, rfl, _⟩ := h
    rfl
  · obtain ⟨a, C, y, rfl, T, no, ea, q⟩ := h
    exact ⟨_, rfl, _, rfl, a, C, rfl, T, no, .inl ⟨ea, fun dx n ne => q dx n ne⟩⟩
theorem ini_InvalidNumber (F : FnM K "__init__" "InvalidNumber.__init__" s_InvalidNumber____init__ f fd) : FnOk P w K mg base CX0 1 f fd ["self", "given"] (spInit K "given") := by
  refine F.ok sc_InvalidNumber____init__ (fun vs H Q E h => ?_) (fun cdv A outer s H vs Q E hr h => ⟨_, pss_one (ps_ost (pv 0) (pv 1)), ?_⟩)
  · obtain ⟨a, C, y, rfl, _⟩ := h
    rfl
  · obtain ⟨a, C, y, rfl, T, no, ea, q⟩ := h
    exact ⟨_, rfl, _, rfl, a, C, rfl, T, no, .inl ⟨ea, fun dx n ne => q dx n ne⟩⟩
theorem ini_InvalidMask (F : FnM K "__init__" "InvalidMask.__init__" s_InvalidMask____init__ f fd) : FnOk P w K mg base CX0 1 f fd ["self", "given"] (spInit K "given") := by
  refine F.ok sc_InvalidMask____init__ (fun vs H Q E h => ?_) (fun cdv A outer s H vs Q E hr h => ⟨_, pss_one (ps_ost (pv 0) (pv 1)), ?_⟩)
  · obtain ⟨a, C, y, rfl, _⟩ := h
    rfl
  · obtain ⟨a, C, y, rfl, T, no, ea, q⟩ := h
    exact ⟨_, rfl, _, rfl, a, C, rfl, T, no, .inl ⟨ea, fun dx n ne => q dx n ne⟩⟩
theorem ini_InvalidOp (F : FnM K "__init__" "InvalidOp.__init__" s_InvalidOp____init__ f fd) : FnOk P w K mg base CX0 1 f fd ["self", "given"] (spInit K "given") := by
  refine F.ok sc_InvalidOp____init__ (fun vs H Q E h => ?_) (fun cdv A outer s H vs Q E hr h => ⟨_, pss_one (ps_ost (pv 0) (pv 1)), ?_⟩)
  · obtain ⟨a, C, y, rfl, _⟩ := h
    rfl
  · obtain ⟨a, C, y, rfl, T, no, ea, q⟩ := h
    exact ⟨_, rfl, _, rfl, a, C, rfl, T, no, .inl ⟨ea, fun dx n ne => q dx n ne⟩⟩
theorem ini_InvalidBlock (F : FnM K "__init__" "InvalidBlock.__init__" s_InvalidBlock____init__ f fd) : FnOk P w K mg base CX0 1 f fd ["self", "given"] (spInit K "given") := by
  refine F.ok sc_InvalidBlock____init__ (fun vs H Q E h => ?_) (fun cdv A outer s H vs Q E hr h => ⟨_, pss_one (ps_ost (pv 0) (pv 1)), ?_⟩)
  · obtain ⟨a, C, y, rfl, _⟩ := h
    rfl
  · obtain ⟨a, C, y, rfl, T, no, ea, q⟩ := h
    exact ⟨_, rfl, _, rfl, a, C, rfl, T, no, .inl ⟨ea, fun dx n ne => q dx n ne⟩⟩
theorem ini_InvalidPage (F : FnM K "__init__" "InvalidPage.__init__" s_InvalidPage____init__ f fd) : FnOk P w K mg base CX0 1 f fd ["self", "given"] (spInit K "given") := by
  refine F.ok sc_InvalidPage____init__ (fun vs H Q E h => ?_) (fun cdv A outer s H vs Q E hr h => ⟨_, pss_one (ps_ost (pv 0) (pv 1)), ?_⟩)
  · obtain ⟨a, C, y, rfl, _⟩ := h
    rfl
  · obtain ⟨a, C, y, rfl, T, no, ea, q⟩ := h
    exact ⟨_, rfl, _, rfl, a, C, rfl, T, no, .inl ⟨ea, fun dx n ne => q dx n ne⟩⟩
theorem ini_InvalidShape (F : FnM K "__init__" "InvalidShape.__init__" s_InvalidShape____init__ f fd) : FnOk P w K mg base CX0 1 f fd ["self", "given"] (spInit K "given") := by
  refine F.ok sc_InvalidShape____init__ (fun vs H Q E h => ?_) (fun cdv A outer s H vs Q E hr h => ⟨_, pss_one (ps_ost (pv 0) (pv 1)), ?_⟩)
  · obtain ⟨a, C, y, rfl, _⟩ := h
    rfl
  · obtain ⟨a, C, y, rfl, T, no, ea, q⟩ := h
    exact ⟨_, rfl, _, rfl, a, C, rfl, T, no, .inl ⟨ea, fun dx n ne => q dx n ne⟩⟩
theorem ini_InvalidImage (F : FnM K "__init__" "InvalidImage.__init__" s_InvalidImage____init__ f fd) : FnOk P w K mg base CX0 1 f fd ["self", "given"] (spInit K "given") := by
  refine F.ok sc_InvalidImage____init__ (fun vs H Q E h => ?_) (fun cdv A outer s H vs Q E hr h => ⟨_, pss_one (ps_ost (pv 0) (pv 1)), ?_⟩)
  · obtain ⟨a, C, y, rfl, _⟩ := h
    rfl
  · obtain ⟨a, C, y, rfl, T, no, ea, q⟩ := h
    exact ⟨_, rfl, _, rfl, a, C, rfl, T, no, .inl ⟨ea, fun dx n ne => q dx n ne⟩⟩
theorem ini_InvalidData (F : FnM K "__init__" "InvalidData.__init__" s_InvalidData____init__ f fd) : FnOk P w K mg base CX0 1 f fd ["self", "given"] (spInit K "given") := by
  refine F.ok sc_InvalidData____init__ (fun vs H Q E h => ?_) (fun cdv A outer s H vs Q E hr h => ⟨_, pss_one (ps_ost (pv 0) (pv 1)), ?_⟩)
  · obtain ⟨a, C, y, rfl, _⟩ := h
    rfl
  · obtain ⟨a, C, y, rfl, T, no, ea, q⟩ := h
    exact ⟨_, rfl, _, rfl, a, C, rfl, T, no, .inl ⟨ea, fun dx n ne => q dx n ne⟩⟩
theorem ini_InvalidRecord (F : FnM K "__init__" "InvalidRecord.__init__" s_InvalidRecord____init__ f fd) : FnOk P w K mg base CX0 1 f fd ["self", "given"] (spInit K "given") := by
  refine F.ok sc_InvalidRecord____init__ (fun vs H Q E h => ?_) (fun cdv A outer s H vs Q E hr h => ⟨_, pss_one (ps_ost (pv 0) (pv 1)), ?_⟩)
  · obtain ⟨a, C, y, rfl, _⟩ := h
    rfl
  · obtain ⟨a, C, y, rfl, T, no, ea, q⟩ := h
    exact ⟨_, rfl, _, rfl, a, C, rfl, T, no, .inl ⟨ea, fun dx n ne => q dx n ne⟩⟩
theorem ini_InvalidPath (F : FnM K "__init__" "InvalidPath.__init__" s_InvalidPath____init__ f fd) : FnOk P w K mg base CX0 1 f fd ["self", "given"] (spInit K "given") := by
  refine F.ok sc_InvalidPath____init__ (fun vs H Q E h => ?_) (fun cdv A outer s H vs Q E hr h => ⟨_, pss_one (ps_ost (pv 0) (pv 1)), ?_⟩)
  · obtain ⟨a, C, y, rfl, _⟩ := h
    rfl
  · obtain ⟨a, C, y, rfl, T, no, ea, q⟩ := h
    exact ⟨_, rfl, _, rfl, a, C, rfl, T, no, .inl ⟨ea, fun dx n ne => q dx n ne⟩⟩
theorem ini_InvalidDeed (F : FnM K "__init__" "InvalidDeed.__init__" s_InvalidDeed____init__ f fd) : FnOk P w K mg base CX0 1 f fd ["self", "given"] (spInit K "given") := by
  refine F.ok sc_InvalidDeed____init__ (fun vs H Q E h => ?_) (fun cdv A outer s H vs Q E hr h => ⟨_, pss_one (ps_ost (pv 0) (pv 1)), ?_⟩)
  · obtain ⟨a, C, y, rfl, _⟩ := h
    rfl
  · obtain ⟨a, C, y, rfl, T, no, ea, q⟩ := h
    exact ⟨_, rfl, _, rfl, a, C, rfl, T, no, .inl ⟨ea, fun dx n ne => q dx n ne⟩⟩
theorem ini_InvalidLine (F : FnM K "__init__" "InvalidLine.__init__" s_InvalidLine____init__ f fd) : FnOk P w K mg base CX0 1 f fd ["self", "given"] (spInit K "given") := by
  refine F.ok sc_InvalidLine____init__ (fun vs H Q E h => ?_) (fun cdv A outer s H vs Q E hr h => ⟨_, pss_one (ps_ost (pv 0) (pv 1)), ?_⟩)
  · obtain ⟨a, C, y, rfl, _⟩ := h
    rfl
  · obtain ⟨a, C, y, rfl, T, no, ea, q⟩ := h
    exact ⟨_, rfl, _, rfl, a, C, rfl, T, no, .inl ⟨ea, fun dx n ne => q dx n ne⟩⟩
theorem ini_InvalidScript (F : FnM K "__init__" "InvalidScript.__init__" s_InvalidScript____init__ f fd) : FnOk P w K mg base CX0 1 f fd ["self", "given"] (spInit K "given") := by
  refine F.ok sc_InvalidScript____init__ (fun vs H Q E h => ?_) (fun cdv A outer s H vs Q E hr h => ⟨_, pss_one (ps_ost (pv 0) (pv 1)), ?_⟩)
  · obtain ⟨a, C, y, rfl, _⟩ := h
    rfl
  · obtain ⟨a, C, y, rfl, T, no, ea, q⟩ := h
    exact ⟨_, rfl, _, rfl, a, C, rfl, T, no, .inl ⟨ea, fun dx n ne => q dx n ne⟩⟩
theorem ini_InvalidTree (F : FnM K "__init__" "InvalidTree.__init__" s_InvalidTree____init__ f fd) : FnOk P w K mg base CX0 1 f fd ["self", "given"] (spInit K "given") := by
  refine F.ok sc_InvalidTree____init__ (fun vs H Q E h => ?_) (fun cdv A outer s H vs Q E hr h => ⟨_, pss_one (ps_ost (pv 0) (pv 1)), ?_⟩)
  · obtain ⟨a, C, y, rfl, _⟩ := h
    rfl
  · obtain ⟨a, C, y, rfl, T, no, ea, q⟩ := h
    exact ⟨_, rfl, _, rfl, a, C, rfl, T, no, .inl ⟨ea, fun dx n ne => q dx n ne⟩⟩
theorem ini_InvalidChip (F : FnM K "__init__" "InvalidChip.__init__" s_InvalidChip____init__ f fd) : FnOk P w K mg base CX0 1 f fd ["self", "given"] (spInit K "given") := by
  refine F.ok sc_InvalidChip____init__ (fun vs H Q E h => ?_) (fun cdv A outer s H vs Q E hr h => ⟨_, pss_one (ps_ost (pv 0) (pv 1)), ?_⟩)
  · obtain ⟨a, C, y, rfl, _⟩ := h
    rfl
  · obtain ⟨a, C, y, rfl, T, no, ea, q⟩ := h
    exact ⟨_, rfl, _, rfl, a, C, rfl, T, no, .inl ⟨ea, fun dx n ne => q dx n ne⟩⟩
theorem ini_InvalidRecords (F : FnM K "__init__" "InvalidRecords.__init__" s_InvalidRecords____init__ f fd) : FnOk P w K mg base CX0 1 f fd ["self", "given"] (spInit K "given") := by
  refine F.ok sc_InvalidRecords____init__ (fun vs H Q E h => ?_) (fun cdv A outer s H vs Q E hr h => ⟨_, pss_one (ps_ost (pv 0) (pv 1)), ?_⟩)
  · obtain ⟨a, C, y, rfl, _⟩ := h
    rfl
  · obtain ⟨a, C, y, rfl, T, no, ea, q⟩ := h
    exact ⟨_, rfl, _, rfl, a, C, rfl, T, no, .inl ⟨ea, fun dx n ne => q dx n ne⟩⟩
theorem ini_InvalidName (F : FnM K "__init__" "InvalidName.__init__" s_InvalidName____init__ f fd) : FnOk P w K mg base CX0 1 f fd ["self", "given"] (spInit K "given") := by
  refine F.ok sc_InvalidName____init__ (fun vs H Q E h => ?_) (fun cdv A outer s H vs Q E hr h => ⟨_, pss_one (ps_ost (pv 0) (pv 1)), ?_⟩)
  · obtain ⟨a, C, y, rfl, _⟩ := h
    rfl
  · obtain ⟨a, C, y, rfl, T, no, ea, q⟩ := h
    exact ⟨_, rfl, _, rfl, a, C, rfl, T, no, .inl ⟨ea, fun dx n ne => q dx n ne⟩⟩
theorem ini_InvalidPlans (F : FnM K "__init__" "InvalidPlans.__init__" s_InvalidPlans____init__ f fd) : FnOk P w K mg base CX0 1 f fd ["self", "given"] (spInit K "given") := by
  refine F.ok sc_InvalidPlans____init__ (fun vs H Q E h => ?_) (fun cdv A outer s H vs Q E hr h => ⟨_, pss_one (ps_ost (pv 0) (pv 1)), ?_⟩)
  · obtain ⟨a, C, y, rfl, _⟩ := h
    rfl
  · obtain ⟨a, C, y, rfl, T, no, ea, q⟩ := h
    exact ⟨_, rfl, _, rfl, a, C, rfl, T, no, .inl ⟨ea, fun dx n ne => q dx n ne⟩⟩
theorem ini_PowerCut (F : FnM K "__init__" "PowerCut.__init__" s_PowerCut____init__ f fd) : FnOk P w K mg base CX0 1 f fd ["self", "op"] (spInit K "op") := by
  refine F.ok sc_PowerCut____init__ (fun vs H Q E h => ?_) (fun cdv A outer s H vs Q E hr h => ⟨_, pss_one (ps_ost (pv 0) (pv 1)), ?_⟩)
  · obtain ⟨a, C, y, rfl, _⟩ := h
    rfl
  · obtain ⟨a, C, y, rfl, T, no, ea, q⟩ := h
    exact ⟨_, rfl, _, rfl, a, C, rfl, T, no, .inl ⟨ea, fun dx n ne => q dx n ne⟩⟩
theorem ini_TooMany (F : FnM K "__init__" "TooMany.__init__" s_TooMany____init__ f fd) : FnOk P w K mg base CX0 1 f fd ["self", "count"] (spInit K "count") := by
  refine F.ok sc_TooMany____init__ (fun vs H Q E h => ?_) (fun cdv A outer s H vs Q E hr h => ⟨_, pss_one (ps_ost (pv 0) (pv 1)), ?_⟩)
  · obtain ⟨a, C, y, rfl, _⟩ := h
    rfl
  · obtain ⟨a, C, y, rfl, T, no, ea, q⟩ := h
    exact ⟨_, rfl, _, rfl, a, C, rfl, T, no, .inl ⟨ea, fun dx n ne => q dx n ne⟩⟩
theorem ini_NoThing (F : FnM K "__init__" "NoThing.__init__" s_NoThing____init__ f fd) : FnOk P w K mg base CX0 1 f fd ["self", "name"] (spInit K "name") := by
  refine F.ok sc_NoThing____init__ (fun vs H Q E h => ?_) (fun cdv A outer s H vs Q E hr h => ⟨_, pss_one (ps_ost (pv 0) (pv 1)), ?_⟩)
  · obtain ⟨a, C, y, rfl, _⟩ := h
    rfl
  · obtain ⟨a, C, y, rfl, T, no, ea, q⟩ := h
    exact ⟨_, rfl, _, rfl, a, C, rfl, T, no, .inl ⟨ea, fun dx n ne => q dx n ne⟩⟩
end
end K0
set_option maxHeartbeats 0
namespace K0
open PySem PySem.Spec PyProof.Rows L2 VB
theorem facts {P : Program} {w : World} {K : PySem.W.Frag} {h : Heap} {mg : Str → Option Value} {f : Addr} (X : K.In h) (G : h.Ns mainGlobals mg) (hfa : mg ("law" : Str) = some (.ref f)) (cx : He.SaysX fal fnl [] [] exB w h K) :
    ∃ fd : FuncData, (∀ (s : Shared) (v : Value), BindsTo s fd ⟨[v], []⟩ [("_law_script", v)]) ∧ ∀ base : Heap, K.In base → base.Ns mainGlobals mg → base.NoDigits → Fg P w K mg base CX0 5 f fd ["_law_script"] (spLaw K) := by
  have c := cx.t.d
  have cm := cx.more
  obtain ⟨fd__law_box, F__law_box⟩ := c.def_ 0 (d := d__law_box) rfl
  obtain ⟨fd__law_cell, F__law_cell⟩ := c.def_ 1 (d := d__law_cell) rfl
  obtain ⟨fd__law_sorts, F__law_sorts⟩ := c.def_ 2 (d := d__law_sorts) rfl
  obtain ⟨fd__law_is, F__law_is⟩ := c.def_ 3 (d := d__law_is) rfl
  obtain ⟨fd__law_take, F__law_take⟩ := c.def_ 4 (d := d__law_take) rfl
  obtain ⟨fd__law_thing, F__law_thing⟩ := c.def_ 5 (d := d__law_thing) rfl
  obtain ⟨fd__law_by_place, F__law_by_place⟩ := c.def_ 6 (d := d__law_by_place) rfl
  obtain ⟨fd__law_by_name, F__law_by_name⟩ := c.def_ 7 (d := d__law_by_name) rfl
  obtain ⟨fd__law_kept, F__law_kept⟩ := c.def_ 8 (d := d__law_kept) rfl
  obtain ⟨fd__law_all_right, F__law_all_right⟩ := c.def_ 9 (d := d__law_all_right) rfl
  obtain ⟨fd__law_raised, F__law_raised⟩ := c.def_ 10 (d := d__law_raised) rfl
  obtain ⟨fd__law_caught, F__law_caught⟩ := c.def_ 11 (d := d__law_caught) rfl
  obtain ⟨fd__law_very_right, F__law_very_right⟩ := c.def_ 12 (d := d__law_very_right) rfl
  obtain ⟨fd_law, F_law⟩ := c.def_ 13 (d := d_law) rfl
  obtain ⟨fd_InvalidOctets____init__, F_InvalidOctets____init__⟩ := c.def_ 14 (d := d_InvalidOctets____init__) rfl
  obtain ⟨fd_InvalidCount____init__, F_InvalidCount____init__⟩ := c.def_ 15 (d := d_InvalidCount____init__) rfl
  obtain ⟨fd_InvalidNumber____init__, F_InvalidNumber____init__⟩ := c.def_ 16 (d := d_InvalidNumber____init__) rfl
  obtain ⟨fd_InvalidMask____init__, F_InvalidMask____init__⟩ := c.def_ 17 (d := d_InvalidMask____init__) rfl
  obtain ⟨fd_InvalidOp____init__, F_InvalidOp____init__⟩ := c.def_ 18 (d := d_InvalidOp____init__) rfl
  obtain ⟨fd_InvalidBlock____init__, F_InvalidBlock____init__⟩ := c.def_ 19 (d := d_InvalidBlock____init__) rfl
  obtain ⟨fd_InvalidPage____init__, F_InvalidPage____init__⟩ := c.def_ 20 (d := d_InvalidPage____init__) rfl
  obtain ⟨fd_InvalidShape____init__, F_InvalidShape____init__⟩ := c.def_ 21 (d := d_InvalidShape____init__) rfl
  obtain ⟨fd_InvalidImage____init__, F_InvalidImage____init__⟩ := c.def_ 22 (d := d_InvalidImage____init__) rfl
  obtain ⟨fd_InvalidData____init__, F_InvalidData____init__⟩ := c.def_ 23 (d := d_InvalidData____init__) rfl
  obtain ⟨fd_InvalidRecord____init__, F_InvalidRecord____init__⟩ := c.def_ 24 (d := d_InvalidRecord____init__) rfl
  obtain ⟨fd_InvalidPath____init__, F_InvalidPath____init__⟩ := c.def_ 25 (d := d_InvalidPath____init__) rfl
  obtain ⟨fd_InvalidDeed____init__, F_InvalidDeed____init__⟩ := c.def_ 26 (d := d_InvalidDeed____init__) rfl
  obtain ⟨fd_InvalidLine____init__, F_InvalidLine____init__⟩ := c.def_ 27 (d := d_InvalidLine____init__) rfl
  obtain ⟨fd_InvalidScript____init__, F_InvalidScript____init__⟩ := c.def_ 28 (d := d_InvalidScript____init__) rfl
  obtain ⟨fd_InvalidTree____init__, F_InvalidTree____init__⟩ := c.def_ 29 (d := d_InvalidTree____init__) rfl
  obtain ⟨fd_InvalidChip____init__, F_InvalidChip____init__⟩ := c.def_ 30 (d := d_InvalidChip____init__) rfl
  obtain ⟨fd_InvalidRecords____init__, F_InvalidRecords____init__⟩ := c.def_ 31 (d := d_InvalidRecords____init__) rfl
  obtain ⟨fd_InvalidName____init__, F_InvalidName____init__⟩ := c.def_ 32 (d := d_InvalidName____init__) rfl
  obtain ⟨fd_InvalidPlans____init__, F_InvalidPlans____init__⟩ := c.def_ 33 (d := d_InvalidPlans____init__) rfl
  obtain ⟨fd_PowerCut____init__, F_PowerCut____init__⟩ := c.def_ 34 (d := d_PowerCut____init__) rfl
  obtain ⟨fd_TooMany____init__, F_TooMany____init__⟩ := c.def_ 35 (d := d_TooMany____init__) rfl
  obtain ⟨fd_NoThing____init__, F_NoThing____init__⟩ := c.def_ 36 (d := d_NoThing____init__) rfl
  have g__law_box := He.glo_ok X G (c.fact 0 (f := .glo "_law_box") rfl)
  have g__law_cell := He.glo_ok X G (c.fact 1 (f := .glo "_law_cell") rfl)
  have g__law_sorts := He.glo_ok X G (c.fact 2 (f := .glo "_law_sorts") rfl)
  have g__law_is := He.glo_ok X G (c.fact 3 (f := .glo "_law_is") rfl)
  have g__law_take := He.glo_ok X G (c.fact 4 (f := .glo "_law_take") rfl)
  have g__law_thing := He.glo_ok X G (c.fact 5 (f := .glo "_law_thing") rfl)
  have g__law_by_place := He.glo_ok X G (c.fact 6 (f := .glo "_law_by_place") rfl)
  have g__law_by_name := He.glo_ok X G (c.fact 7 (f := .glo "_law_by_name") rfl)
  have g__law_kept := He.glo_ok X G (c.fact 8 (f := .glo "_law_kept") rfl)
  have g__law_all_right := He.glo_ok X G (c.fact 9 (f := .glo "_law_all_right") rfl)
  have g__law_raised := He.glo_ok X G (c.fact 10 (f := .glo "_law_raised") rfl)
  have g__law_caught := He.glo_ok X G (c.fact 11 (f := .glo "_law_caught") rfl)
  have g__law_very_right := He.glo_ok X G (c.fact 12 (f := .glo "_law_very_right") rfl)
  have g_law := He.glo_ok X G (c.fact 13 (f := .glo "law") rfl)
  have T : Txt K mg := ⟨He.free_ok X G (c.fact 14 (f := .free "ValueError") rfl), He.free_ok X G (c.fact 15 (f := .free "abs") rfl), He.free_ok X G (c.fact 16 (f := .free "dict") rfl), He.free_ok X G (c.fact 17 (f := .free "int") rfl), He.free_ok X G (c.fact 18 (f := .free "isinstance") rfl), He.free_ok X G (c.fact 19 (f := .free "len") rfl), He.free_ok X G (c.fact 20 (f := .free "max") rfl), He.free_ok X G (c.fact 21 (f := .free "min") rfl), He.free_ok X G (c.fact 22 (f := .free "range") rfl), He.free_ok X G (c.fact 23 (f := .free "repr") rfl), He.free_ok X G (c.fact 24 (f := .free "sum") rfl), He.glo_ok X G (c.fact 25 (f := .glo "FlashError") rfl), He.glo_ok X G (c.fact 26 (f := .glo "InvalidBlock") rfl), He.glo_ok X G (c.fact 27 (f := .glo "InvalidChip") rfl), He.glo_ok X G (c.fact 28 (f := .glo "InvalidCount") rfl), He.glo_ok X G (c.fact 29 (f := .glo "InvalidData") rfl), He.glo_ok X G (c.fact 30 (f := .glo "InvalidDeed") rfl), He.glo_ok X G (c.fact 31 (f := .glo "InvalidImage") rfl), He.glo_ok X G (c.fact 32 (f := .glo "InvalidLine") rfl), He.glo_ok X G (c.fact 33 (f := .glo "InvalidMask") rfl), He.glo_ok X G (c.fact 34 (f := .glo "InvalidName") rfl), He.glo_ok X G (c.fact 35 (f := .glo "InvalidNumber") rfl), He.glo_ok X G (c.fact 36 (f := .glo "InvalidOctets") rfl), He.glo_ok X G (c.fact 37 (f := .glo "InvalidOp") rfl), He.glo_ok X G (c.fact 38 (f := .glo "InvalidPage") rfl), He.glo_ok X G (c.fact 39 (f := .glo "InvalidPath") rfl), He.glo_ok X G (c.fact 40 (f := .glo "InvalidPlans") rfl), He.glo_ok X G (c.fact 41 (f := .glo "InvalidRecord") rfl), He.glo_ok X G (c.fact 42 (f := .glo "InvalidRecords") rfl), He.glo_ok X G (c.fact 43 (f := .glo "InvalidScript") rfl), He.glo_ok X G (c.fact 44 (f := .glo "InvalidShape") rfl), He.glo_ok X G (c.fact 45 (f := .glo "InvalidTree") rfl), He.glo_ok X G (c.fact 46 (f := .glo "NoRoom") rfl), He.glo_ok X G (c.fact 47 (f := .glo "NoThing") rfl), He.glo_ok X G (c.fact 48 (f := .glo "NotReady") rfl), He.glo_ok X G (c.fact 49 (f := .glo "NothingToUndo") rfl), He.glo_ok X G (c.fact 50 (f := .glo "PowerCut") rfl), He.glo_ok X G (c.fact 51 (f := .glo "TooMany") rfl)⟩
  have Fk := fs_of cm
  have Fc' := fc_of cm
  have errInvalidOctets := err_of cm 0 (by decide) (He.glo_ok X G (c.fact 52 (f := .glo "InvalidOctets") rfl))
  have errInvalidCount := err_of cm 1 (by decide) (He.glo_ok X G (c.fact 53 (f := .glo "InvalidCount") rfl))
  have errInvalidNumber := err_of cm 2 (by decide) (He.glo_ok X G (c.fact 54 (f := .glo "InvalidNumber") rfl))
  have errInvalidMask := err_of cm 3 (by decide) (He.glo_ok X G (c.fact 55 (f := .glo "InvalidMask") rfl))
  have errInvalidOp := err_of cm 4 (by decide) (He.glo_ok X G (c.fact 56 (f := .glo "InvalidOp") rfl))
  have errInvalidBlock := err_of cm 5 (by decide) (He.glo_ok X G (c.fact 57 (f := .glo "InvalidBlock") rfl))
  have errInvalidPage := err_of cm 6 (by decide) (He.glo_ok X G (c.fact 58 (f := .glo "InvalidPage") rfl))
  have errInvalidShape := err_of cm 7 (by decide) (He.glo_ok X G (c.fact 59 (f := .glo "InvalidShape") rfl))
  have errInvalidImage := err_of cm 8 (by decide) (He.glo_ok X G (c.fact 60 (f := .glo "InvalidImage") rfl))
  have errInvalidData := err_of cm 9 (by decide) (He.glo_ok X G (c.fact 61 (f := .glo "InvalidData") rfl))
  have errInvalidRecord := err_of cm 10 (by decide) (He.glo_ok X G (c.fact 62 (f := .glo "InvalidRecord") rfl))
  have errInvalidPath := err_of cm 11 (by decide) (He.glo_ok X G (c.fact 63 (f := .glo "InvalidPath") rfl))
  have errInvalidDeed := err_of cm 12 (by decide) (He.glo_ok X G (c.fact 64 (f := .glo "InvalidDeed") rfl))
  have errInvalidLine := err_of cm 13 (by decide) (He.glo_ok X G (c.fact 65 (f := .glo "InvalidLine") rfl))
  have errInvalidScript := err_of cm 14 (by decide) (He.glo_ok X G (c.fact 66 (f := .glo "InvalidScript") rfl))
  have errInvalidTree := err_of cm 15 (by decide) (He.glo_ok X G (c.fact 67 (f := .glo "InvalidTree") rfl))
  have errInvalidChip := err_of cm 16 (by decide) (He.glo_ok X G (c.fact 68 (f := .glo "InvalidChip") rfl))
  have errInvalidRecords := err_of cm 17 (by decide) (He.glo_ok X G (c.fact 69 (f := .glo "InvalidRecords") rfl))
  have errInvalidName := err_of cm 18 (by decide) (He.glo_ok X G (c.fact 70 (f := .glo "InvalidName") rfl))
  have errInvalidPlans := err_of cm 19 (by decide) (He.glo_ok X G (c.fact 71 (f := .glo "InvalidPlans") rfl))
  have errPowerCut := err_of cm 20 (by decide) (He.glo_ok X G (c.fact 72 (f := .glo "PowerCut") rfl))
  have errTooMany := err_of cm 21 (by decide) (He.glo_ok X G (c.fact 73 (f := .glo "TooMany") rfl))
  have errNoThing := err_of cm 22 (by decide) (He.glo_ok X G (c.fact 74 (f := .glo "NoThing") rfl))
  have B_NotReady : BareC K mg "NotReady" (Er K "NotReady") := bare_of cm 0 (by decide) (He.glo_ok X G (c.fact 75 (f := .glo "NotReady") rfl))
  have B_NoRoom : BareC K mg "NoRoom" (Er K "NoRoom") := bare_of cm 1 (by decide) (He.glo_ok X G (c.fact 76 (f := .glo "NoRoom") rfl))
  have B_NothingToUndo : BareC K mg "NothingToUndo" (Er K "NothingToUndo") := bare_of cm 2 (by decide) (He.glo_ok X G (c.fact 77 (f := .glo "NothingToUndo") rfl))
  cases hfa.symm.trans g_law
  have b := FunD.bindsA (ps := ["_law_script"]) F_law fun _ _ _ _ _ _ us hl => match us, hl with | [_], _ => rfl
  refine ⟨fd_law, fun s v => b s [v] rfl, fun base _ _ hd => ?_⟩
  have E_InvalidOctets : MkE P w K mg base "InvalidOctets" "given" (Er K "InvalidOctets") (He.ma K (Er K "InvalidOctets") "__init__") := ⟨errInvalidOctets, fd_InvalidOctets____init__, ini_InvalidOctets F_InvalidOctets____init__, F_InvalidOctets____init__.bindsN fun _ _ _ _ _ _ us hl => match us, hl with | [_, _], _ => rfl⟩
  have EK_InvalidOctets : MkEK P w K mg base "InvalidOctets" "given" (Er K "InvalidOctets") (He.ma K (Er K "InvalidOctets") "__init__") := ⟨errInvalidOctets, fd_InvalidOctets____init__, ini_InvalidOctets F_InvalidOctets____init__, kb_of F_InvalidOctets____init__ (fun q1 q2 => .cons (vals_getD q1 0) (.cons (vals_getD q2 0) .nil)) fun _ _ _ _ _ _ us ws l1 l2 => match us, ws, l1, l2 with | [_], [_], _, _ => rfl⟩
  have E_InvalidCount : MkE P w K mg base "InvalidCount" "given" (Er K "InvalidCount") (He.ma K (Er K "InvalidCount") "__init__") := ⟨errInvalidCount, fd_InvalidCount____init__, ini_InvalidCount F_InvalidCount____init__, F_InvalidCount____init__.bindsN fun _ _ _ _ _ _ us hl => match us, hl with | [_, _], _ => rfl⟩
  have EK_InvalidCount : MkEK P w K mg base "InvalidCount" "given" (Er K "InvalidCount") (He.ma K (Er K "InvalidCount") "__init__") := ⟨errInvalidCount, fd_InvalidCount____init__, ini_InvalidCount F_InvalidCount____init__, kb_of F_InvalidCount____init__ (fun q1 q2 => .cons (vals_getD q1 0) (.cons (vals_getD q2 0) .nil)) fun _ _ _ _ _ _ us ws l1 l2 => match us, ws, l1, l2 with | [_], [_], _, _ => rfl⟩
  have E_InvalidNumber : MkE P w K mg base "InvalidNumber" "given" (Er K "InvalidNumber") (He.ma K (Er K "InvalidNumber") "__init__") := ⟨errInvalidNumber, fd_InvalidNumber____init__, ini_InvalidNumber F_InvalidNumber____init__, F_InvalidNumber____init__.bindsN fun _ _ _ _ _ _ us hl => match us, hl with | [_, _], _ => rfl⟩
  have EK_InvalidNumber : MkEK P w K mg base "InvalidNumber" "given" (Er K "InvalidNumber") (He.ma K (Er K "InvalidNumber") "__init__") := ⟨errInvalidNumber, fd_InvalidNumber____init__, ini_InvalidNumber F_InvalidNumber____init__, kb_of F_InvalidNumber____init__ (fun q1 q2 => .cons (vals_getD q1 0) (.cons (vals_getD q2 0) .nil)) fun _ _ _ _ _ _ us ws l1 l2 => match us, ws, l1, l2 with | [_], [_], _, _ => rfl⟩
  have E_InvalidMask : MkE P w K mg base "InvalidMask" "given" (Er K "InvalidMask") (He.ma K (Er K "InvalidMask") "__init__") := ⟨errInvalidMask, fd_InvalidMask____init__, ini_InvalidMask F_InvalidMask____init__, F_InvalidMask____init__.bindsN fun _ _ _ _ _ _ us hl => match us, hl with | [_, _], _ => rfl⟩
  have EK_InvalidMask : MkEK P w K mg base "InvalidMask" "given" (Er K "InvalidMask") (He.ma K (Er K "InvalidMask") "__init__") := ⟨errInvalidMask, fd_InvalidMask____init__, ini_InvalidMask F_InvalidMask____init__, kb_of F_InvalidMask____init__ (fun q1 q2 => .cons (vals_getD q1 0) (.cons (vals_getD q2 0) .nil)) fun _ _ _ _ _ _ us ws l1 l2 => match us, ws, l1, l2 with | [_], [_], _, _ => rfl⟩
  have E_InvalidOp : MkE P w K mg base "InvalidOp" "given" (Er K "InvalidOp") (He.ma K (Er K "InvalidOp") "__init__") := ⟨errInvalidOp, fd_InvalidOp____init__, ini_InvalidOp F_InvalidOp____init__, F_InvalidOp____init__.bindsN fun _ _ _ _ _ _ us hl => match us, hl with | [_, _], _ => rfl⟩
  have EK_InvalidOp : MkEK P w K mg base "InvalidOp" "given" (Er K "InvalidOp") (He.ma K (Er K "InvalidOp") "__init__") := ⟨errInvalidOp, fd_InvalidOp____init__, ini_InvalidOp F_InvalidOp____init__, kb_of F_InvalidOp____init__ (fun q1 q2 => .cons (vals_getD q1 0) (.cons (vals_getD q2 0) .nil)) fun _ _ _ _ _ _ us ws l1 l2 => match us, ws, l1, l2 with | [_], [_], _, _ => rfl⟩
  have E_InvalidBlock : MkE P w K mg base "InvalidBlock" "given" (Er K "InvalidBlock") (He.ma K (Er K "InvalidBlock") "__init__") := ⟨errInvalidBlock, fd_InvalidBlock____init__, ini_InvalidBlock F_InvalidBlock____init__, F_InvalidBlock____init__.bindsN fun _ _ _ _ _ _ us hl => match us, hl with | [_, _], _ => rfl⟩
  have EK_InvalidBlock : MkEK P w K mg base "InvalidBlock" "given" (Er K "InvalidBlock") (He.ma K (Er K "InvalidBlock") "__init__") := ⟨errInvalidBlock, fd_InvalidBlock____init__, ini_InvalidBlock F_InvalidBlock____init__, kb_of F_InvalidBlock____init__ (fun q1 q2 => .cons (vals_getD q1 0) (.cons (vals_getD q2 0) .nil)) fun _ _ _ _ _ _ us ws l1 l2 => match us, ws, l1, l2 with | [_], [_], _, _ => rfl⟩
  have E_InvalidPage : MkE P w K mg base "InvalidPage" "given" (Er K "InvalidPage") (He.ma K (Er K "InvalidPage") "__init__") := ⟨errInvalidPage, fd_InvalidPage____init__, ini_InvalidPage F_InvalidPage____init__, F_InvalidPage____init__.bindsN fun _ _ _ _ _ _ us hl => match us, hl with | [_, _], _ => rfl⟩
  have EK_InvalidPage : MkEK P w K mg base "InvalidPage" "given" (Er K "InvalidPage") (He.ma K (Er K "InvalidPage") "__init__") := ⟨errInvalidPage, fd_InvalidPage____init__, ini_InvalidPage F_InvalidPage____init__, kb_of F_InvalidPage____init__ (fun q1 q2 => .cons (vals_getD q1 0) (.cons (vals_getD q2 0) .nil)) fun _ _ _ _ _ _ us ws l1 l2 => match us, ws, l1, l2 with | [_], [_], _, _ => rfl⟩
  have E_InvalidShape : MkE P w K mg base "InvalidShape" "given" (Er K "InvalidShape") (He.ma K (Er K "InvalidShape") "__init__") := ⟨errInvalidShape, fd_InvalidShape____init__, ini_InvalidShape F_InvalidShape____init__, F_InvalidShape____init__.bindsN fun _ _ _ _ _ _ us hl => match us, hl with | [_, _], _ => rfl⟩
  have EK_InvalidShape : MkEK P w K mg base "InvalidShape" "given" (Er K "InvalidShape") (He.ma K (Er K "InvalidShape") "__init__") := ⟨errInvalidShape, fd_InvalidShape____init__, ini_InvalidShape F_InvalidShape____init__, kb_of F_InvalidShape____init__ (fun q1 q2 => .cons (vals_getD q1 0) (.cons (vals_getD q2 0) .nil)) fun _ _ _ _ _ _ us ws l1 l2 => match us, ws, l1, l2 with | [_], [_], _, _ => rfl⟩
  have E_InvalidImage : MkE P w K mg base "InvalidImage" "given" (Er K "InvalidImage") (He.ma K (Er K "InvalidImage") "__init__") := ⟨errInvalidImage, fd_InvalidImage____init__, ini_InvalidImage F_InvalidImage____init__, F_InvalidImage____init__.bindsN fun _ _ _ _ _ _ us hl => match us, hl with | [_, _], _ => rfl⟩
  have EK_InvalidImage : MkEK P w K mg base "InvalidImage" "given" (Er K "InvalidImage") (He.ma K (Er K "InvalidImage") "__init__") := ⟨errInvalidImage, fd_InvalidImage____init__, ini_InvalidImage F_InvalidImage____init__, kb_of F_InvalidImage____init__ (fun q1 q2 => .cons (vals_getD q1 0) (.cons (vals_getD q2 0) .nil)) fun _ _ _ _ _ _ us ws l1 l2 => match us, ws, l1, l2 with | [_], [_], _, _ => rfl⟩
  have E_InvalidData : MkE P w K mg base "InvalidData" "given" (Er K "InvalidData") (He.ma K (Er K "InvalidData") "__init__") := ⟨errInvalidData, fd_InvalidData____init__, ini_InvalidData F_InvalidData____init__, F_InvalidData____init__.bindsN fun _ _ _ _ _ _ us hl => match us, hl with | [_, _], _ => rfl⟩
  have EK_InvalidData : MkEK P w K mg base "InvalidData" "given" (Er K "InvalidData") (He.ma K (Er K "InvalidData") "__init__") := ⟨errInvalidData, fd_InvalidData____init__, ini_InvalidData F_InvalidData____init__, kb_of F_InvalidData____init__ (fun q1 q2 => .cons (vals_getD q1 0) (.cons (vals_getD q2 0) .nil)) fun _ _ _ _ _ _ us ws l1 l2 => match us, ws, l1, l2 with | [_], [_], _, _ => rfl⟩
  have E_InvalidRecord : MkE P w K mg base "InvalidRecord" "given" (Er K "InvalidRecord") (He.ma K (Er K "InvalidRecord") "__init__") := ⟨errInvalidRecord, fd_InvalidRecord____init__, ini_InvalidRecord F_InvalidRecord____init__, F_InvalidRecord____init__.bindsN fun _ _ _ _ _ _ us hl => match us, hl with | [_, _], _ => rfl⟩
  have EK_InvalidRecord : MkEK P w K mg base "InvalidRecord" "given" (Er K "InvalidRecord") (He.ma K (Er K "InvalidRecord") "__init__") := ⟨errInvalidRecord, fd_InvalidRecord____init__, ini_InvalidRecord F_InvalidRecord____init__, kb_of F_InvalidRecord____init__ (fun q1 q2 => .cons (vals_getD q1 0) (.cons (vals_getD q2 0) .nil)) fun _ _ _ _ _ _ us ws l1 l2 => match us, ws, l1, l2 with | [_], [_], _, _ => rfl⟩
  have E_InvalidPath : MkE P w K mg base "InvalidPath" "given" (Er K "InvalidPath") (He.ma K (Er K "InvalidPath") "__init__") := ⟨errInvalidPath, fd_InvalidPath____init__, ini_InvalidPath F_InvalidPath____init__, F_InvalidPath____init__.bindsN fun _ _ _ _ _ _ us hl => match us, hl with | [_, _], _ => rfl⟩
  have EK_InvalidPath : MkEK P w K mg base "InvalidPath" "given" (Er K "InvalidPath") (He.ma K (Er K "InvalidPath") "__init__") := ⟨errInvalidPath, fd_InvalidPath____init__, ini_InvalidPath F_InvalidPath____init__, kb_of F_InvalidPath____init__ (fun q1 q2 => .cons (vals_getD q1 0) (.cons (vals_getD q2 0) .nil)) fun _ _ _ _ _ _ us ws l1 l2 => match us, ws, l1, l2 with | [_], [_], _, _ => rfl⟩
  have E_InvalidDeed : MkE P w K mg base "InvalidDeed" "given" (Er K "InvalidDeed") (He.ma K (Er K "InvalidDeed") "__init__") := ⟨errInvalidDeed, fd_InvalidDeed____init__, ini_InvalidDeed F_InvalidDeed____init__, F_InvalidDeed____init__.bindsN fun _ _ _ _ _ _ us hl => match us, hl with | [_, _], _ => rfl⟩
  have EK_InvalidDeed : MkEK P w K mg base "InvalidDeed" "given" (Er K "InvalidDeed") (He.ma K (Er K "InvalidDeed") "__init__") := ⟨errInvalidDeed, fd_InvalidDeed____init__, ini_InvalidDeed F_InvalidDeed____init__, kb_of F_InvalidDeed____init__ (fun q1 q2 => .cons (vals_getD q1 0) (.cons (vals_getD q2 0) .nil)) fun _ _ _ _ _ _ us ws l1 l2 => match us, ws, l1, l2 with | [_], [_], _, _ => rfl⟩
  have E_InvalidLine : MkE P w K mg base "InvalidLine" "given" (Er K "InvalidLine") (He.ma K (Er K "InvalidLine") "__init__") := ⟨errInvalidLine, fd_InvalidLine____init__, ini_InvalidLine F_InvalidLine____init__, F_InvalidLine____init__.bindsN fun _ _ _ _ _ _ us hl => match us, hl with | [_, _], _ => rfl⟩
  have EK_InvalidLine : MkEK P w K mg base "InvalidLine" "given" (Er K "InvalidLine") (He.ma K (Er K "InvalidLine") "__init__") := ⟨errInvalidLine, fd_InvalidLine____init__, ini_InvalidLine F_InvalidLine____init__, kb_of F_InvalidLine____init__ (fun q1 q2 => .cons (vals_getD q1 0) (.cons (vals_getD q2 0) .nil)) fun _ _ _ _ _ _ us ws l1 l2 => match us, ws, l1, l2 with | [_], [_], _, _ => rfl⟩
  have E_InvalidScript : MkE P w K mg base "InvalidScript" "given" (Er K "InvalidScript") (He.ma K (Er K "InvalidScript") "__init__") := ⟨errInvalidScript, fd_InvalidScript____init__, ini_InvalidScript F_InvalidScript____init__, F_InvalidScript____init__.bindsN fun _ _ _ _ _ _ us hl => match us, hl with | [_, _], _ => rfl⟩
  have EK_InvalidScript : MkEK P w K mg base "InvalidScript" "given" (Er K "InvalidScript") (He.ma K (Er K "InvalidScript") "__init__") := ⟨errInvalidScript, fd_InvalidScript____init__, ini_InvalidScript F_InvalidScript____init__, kb_of F_InvalidScript____init__ (fun q1 q2 => .cons (vals_getD q1 0) (.cons (vals_getD q2 0) .nil)) fun _ _ _ _ _ _ us ws l1 l2 => match us, ws, l1, l2 with | [_], [_], _, _ => rfl⟩
  have E_InvalidTree : MkE P w K mg base "InvalidTree" "given" (Er K "InvalidTree") (He.ma K (Er K "InvalidTree") "__init__") := ⟨errInvalidTree, fd_InvalidTree____init__, ini_InvalidTree F_InvalidTree____init__, F_InvalidTree____init__.bindsN fun _ _ _ _ _ _ us hl => match us, hl with | [_, _], _ => rfl⟩
  have EK_InvalidTree : MkEK P w K mg base "InvalidTree" "given" (Er K "InvalidTree") (He.ma K (Er K "InvalidTree") "__init__") := ⟨errInvalidTree, fd_InvalidTree____init__, ini_InvalidTree F_InvalidTree____init__, kb_of F_InvalidTree____init__ (fun q1 q2 => .cons (vals_getD q1 0) (.cons (vals_getD q2 0) .nil)) fun _ _ _ _ _ _ us ws l1 l2 => match us, ws, l1, l2 with | [_], [_], _, _ => rfl⟩
  have E_InvalidChip : MkE P w K mg base "InvalidChip" "given" (Er K "InvalidChip") (He.ma K (Er K "InvalidChip") "__init__") := ⟨errInvalidChip, fd_InvalidChip____init__, ini_InvalidChip F_InvalidChip____init__, F_InvalidChip____init__.bindsN fun _ _ _ _ _ _ us hl => match us, hl with | [_, _], _ => rfl⟩
  have EK_InvalidChip : MkEK P w K mg base "InvalidChip" "given" (Er K "InvalidChip") (He.ma K (Er K "InvalidChip") "__init__") := ⟨errInvalidChip, fd_InvalidChip____init__, ini_InvalidChip F_InvalidChip____init__, kb_of F_InvalidChip____init__ (fun q1 q2 => .cons (vals_getD q1 0) (.cons (vals_getD q2 0) .nil)) fun _ _ _ _ _ _ us ws l1 l2 => match us, ws, l1, l2 with | [_], [_], _, _ => rfl⟩
  have E_InvalidRecords : MkE P w K mg base "InvalidRecords" "given" (Er K "InvalidRecords") (He.ma K (Er K "InvalidRecords") "__init__") := ⟨errInvalidRecords, fd_InvalidRecords____init__, ini_InvalidRecords F_InvalidRecords____init__, F_InvalidRecords____init__.bindsN fun _ _ _ _ _ _ us hl => match us, hl with | [_, _], _ => rfl⟩
  have EK_InvalidRecords : MkEK P w K mg base "InvalidRecords" "given" (Er K "InvalidRecords") (He.ma K (Er K "InvalidRecords") "__init__") := ⟨errInvalidRecords, fd_InvalidRecords____init__, ini_InvalidRecords F_InvalidRecords____init__, kb_of F_InvalidRecords____init__ (fun q1 q2 => .cons (vals_getD q1 0) (.cons (vals_getD q2 0) .nil)) fun _ _ _ _ _ _ us ws l1 l2 => match us, ws, l1, l2 with | [_], [_], _, _ => rfl⟩
  have E_InvalidName : MkE P w K mg base "InvalidName" "given" (Er K "InvalidName") (He.ma K (Er K "InvalidName") "__init__") := ⟨errInvalidName, fd_InvalidName____init__, ini_InvalidName F_InvalidName____init__, F_InvalidName____init__.bindsN fun _ _ _ _ _ _ us hl => match us, hl with | [_, _], _ => rfl⟩
  have EK_InvalidName : MkEK P w K mg base "InvalidName" "given" (Er K "InvalidName") (He.ma K (Er K "InvalidName") "__init__") := ⟨errInvalidName, fd_InvalidName____init__, ini_InvalidName F_InvalidName____init__, kb_of F_InvalidName____init__ (fun q1 q2 => .cons (vals_getD q1 0) (.cons (vals_getD q2 0) .nil)) fun _ _ _ _ _ _ us ws l1 l2 => match us, ws, l1, l2 with | [_], [_], _, _ => rfl⟩
  have E_InvalidPlans : MkE P w K mg base "InvalidPlans" "given" (Er K "InvalidPlans") (He.ma K (Er K "InvalidPlans") "__init__") := ⟨errInvalidPlans, fd_InvalidPlans____init__, ini_InvalidPlans F_InvalidPlans____init__, F_InvalidPlans____init__.bindsN fun _ _ _ _ _ _ us hl => match us, hl with | [_, _], _ => rfl⟩
  have EK_InvalidPlans : MkEK P w K mg base "InvalidPlans" "given" (Er K "InvalidPlans") (He.ma K (Er K "InvalidPlans") "__init__") := ⟨errInvalidPlans, fd_InvalidPlans____init__, ini_InvalidPlans F_InvalidPlans____init__, kb_of F_InvalidPlans____init__ (fun q1 q2 => .cons (vals_getD q1 0) (.cons (vals_getD q2 0) .nil)) fun _ _ _ _ _ _ us ws l1 l2 => match us, ws, l1, l2 with | [_], [_], _, _ => rfl⟩
  have E_PowerCut : MkE P w K mg base "PowerCut" "op" (Er K "PowerCut") (He.ma K (Er K "PowerCut") "__init__") := ⟨errPowerCut, fd_PowerCut____init__, ini_PowerCut F_PowerCut____init__, F_PowerCut____init__.bindsN fun _ _ _ _ _ _ us hl => match us, hl with | [_, _], _ => rfl⟩
  have EK_PowerCut : MkEK P w K mg base "PowerCut" "op" (Er K "PowerCut") (He.ma K (Er K "PowerCut") "__init__") := ⟨errPowerCut, fd_PowerCut____init__, ini_PowerCut F_PowerCut____init__, kb_of F_PowerCut____init__ (fun q1 q2 => .cons (vals_getD q1 0) (.cons (vals_getD q2 0) .nil)) fun _ _ _ _ _ _ us ws l1 l2 => match us, ws, l1, l2 with | [_], [_], _, _ => rfl⟩
  have E_TooMany : MkE P w K mg base "TooMany" "count" (Er K "TooMany") (He.ma K (Er K "TooMany") "__init__") := ⟨errTooMany, fd_TooMany____init__, ini_TooMany F_TooMany____init__, F_TooMany____init__.bindsN fun _ _ _ _ _ _ us hl => match us, hl with | [_, _], _ => rfl⟩
  have EK_TooMany : MkEK P w K mg base "TooMany" "count" (Er K "TooMany") (He.ma K (Er K "TooMany") "__init__") := ⟨errTooMany, fd_TooMany____init__, ini_TooMany F_TooMany____init__, kb_of F_TooMany____init__ (fun q1 q2 => .cons (vals_getD q1 0) (.cons (vals_getD q2 0) .nil)) fun _ _ _ _ _ _ us ws l1 l2 => match us, ws, l1, l2 with | [_], [_], _, _ => rfl⟩
  have E_NoThing : MkE P w K mg base "NoThing" "name" (Er K "NoThing") (He.ma K (Er K "NoThing") "__init__") := ⟨errNoThing, fd_NoThing____init__, ini_NoThing F_NoThing____init__, F_NoThing____init__.bindsN fun _ _ _ _ _ _ us hl => match us, hl with | [_, _], _ => rfl⟩
  have EK_NoThing : MkEK P w K mg base "NoThing" "name" (Er K "NoThing") (He.ma K (Er K "NoThing") "__init__") := ⟨errNoThing, fd_NoThing____init__, ini_NoThing F_NoThing____init__, kb_of F_NoThing____init__ (fun q1 q2 => .cons (vals_getD q1 0) (.cons (vals_getD q2 0) .nil)) fun _ _ _ _ _ _ us ws l1 l2 => match us, ws, l1, l2 with | [_], [_], _, _ => rfl⟩
  have G__law_box : Fg P w K mg base CX0 1 _ fd__law_box ["_law_great"] spBox := ok_box (F := F__law_box) (T := T)
  have G__law_cell : Fg P w K mg base CX0 1 _ fd__law_cell ["_law_script", "_law_k"] (spCell K) := ok_cell (F := F__law_cell) (T := T)
  have G__law_sorts : Fg P w K mg base CX0 1 _ fd__law_sorts ["_law_e"] (spSorts K []) := ok_sorts (F := F__law_sorts) (T := T) (Fk := Fk)
  have C__law_sorts_1 : Cal P w K mg base CX0 1 "_law_sorts" ["_law_e"] (spSorts K []) := ⟨_, fd__law_sorts, G__law_sorts.le (by omega), g__law_sorts, F__law_sorts.kp, F__law_sorts.bindsN fun _ _ _ _ _ _ us hl => match us, hl with | [_], _ => rfl⟩
  have G__law_is : Fg P w K mg base CX0 2 _ fd__law_is ["_law_e", "_law_spot"] (spIsE K []) := ok_is (F := F__law_is) (T := T) (Fk := Fk) (C__law_sorts := C__law_sorts_1)
  have G__law_take : Fg P w K mg base CX0 1 _ fd__law_take ["_law_box_here", "_law_many"] spTake := ok_take (F := F__law_take) (T := T)
  have C__law_take_1 : Cal P w K mg base CX0 1 "_law_take" ["_law_box_here", "_law_many"] spTake := ⟨_, fd__law_take, G__law_take.le (by omega), g__law_take, F__law_take.kp, F__law_take.bindsN fun _ _ _ _ _ _ us hl => match us, hl with | [_, _], _ => rfl⟩
  have G__law_thing : Fg P w K mg base CX0 2 _ fd__law_thing ["_law_box_here"] spThing := ok_thing (F := F__law_thing) (T := T) (C__law_take := C__law_take_1)
  have G__law_by_place : Fg P w K mg base CX0 3 _ fd__law_by_place ["_law_thing_here"] (spMk K) := ok_by_place (F := F__law_by_place) (T := T) (Fk := Fk) (E_InvalidOctets := E_InvalidOctets) (E_InvalidCount := E_InvalidCount) (E_InvalidNumber := E_InvalidNumber) (E_InvalidMask := E_InvalidMask) (E_InvalidOp := E_InvalidOp) (E_InvalidBlock := E_InvalidBlock) (E_InvalidPage := E_InvalidPage) (E_InvalidShape := E_InvalidShape) (E_InvalidImage := E_InvalidImage) (E_InvalidData := E_InvalidData) (E_InvalidRecord := E_InvalidRecord) (E_InvalidPath := E_InvalidPath) (E_InvalidDeed := E_InvalidDeed) (E_InvalidLine := E_InvalidLine) (E_InvalidScript := E_InvalidScript) (E_InvalidTree := E_InvalidTree) (E_InvalidChip := E_InvalidChip) (E_InvalidRecords := E_InvalidRecords) (E_InvalidName := E_InvalidName) (E_InvalidPlans := E_InvalidPlans) (E_PowerCut := E_PowerCut) (E_TooMany := E_TooMany) (E_NoThing := E_NoThing)
  have G__law_by_name : Fg P w K mg base CX0 3 _ fd__law_by_name ["_law_thing_here"] (spMk K) := ok_by_name (F := F__law_by_name) (T := T) (Fk := Fk) (EK_InvalidOctets := EK_InvalidOctets) (EK_InvalidCount := EK_InvalidCount) (EK_InvalidNumber := EK_InvalidNumber) (EK_InvalidMask := EK_InvalidMask) (EK_InvalidOp := EK_InvalidOp) (EK_InvalidBlock := EK_InvalidBlock) (EK_InvalidPage := EK_InvalidPage) (EK_InvalidShape := EK_InvalidShape) (EK_InvalidImage := EK_InvalidImage) (EK_InvalidData := EK_InvalidData) (EK_InvalidRecord := EK_InvalidRecord) (EK_InvalidPath := EK_InvalidPath) (EK_InvalidDeed := EK_InvalidDeed) (EK_InvalidLine := EK_InvalidLine) (EK_InvalidScript := EK_InvalidScript) (EK_InvalidTree := EK_InvalidTree) (EK_InvalidChip := EK_InvalidChip) (EK_InvalidRecords := EK_InvalidRecords) (EK_InvalidName := EK_InvalidName) (EK_InvalidPlans := EK_InvalidPlans) (EK_PowerCut := EK_PowerCut) (EK_TooMany := EK_TooMany) (EK_NoThing := EK_NoThing)
  have G__law_kept : Fg P w K mg base CX0 1 _ fd__law_kept ["_law_e"] (spKept K []) := ok_kept (F := F__law_kept) (T := T) (Fk := Fk)
  have C__law_thing_2 : Cal P w K mg base CX0 2 "_law_thing" ["_law_box_here"] spThing := ⟨_, fd__law_thing, G__law_thing.le (by omega), g__law_thing, F__law_thing.kp, F__law_thing.bindsN fun _ _ _ _ _ _ us hl => match us, hl with | [_], _ => rfl⟩
  have C__law_by_place_3 : Cal P w K mg base CX0 3 "_law_by_place" ["_law_thing_here"] (spMk K) := ⟨_, fd__law_by_place, G__law_by_place.le (by omega), g__law_by_place, F__law_by_place.kp, F__law_by_place.bindsN fun _ _ _ _ _ _ us hl => match us, hl with | [_], _ => rfl⟩
  have C__law_by_name_3 : Cal P w K mg base CX0 3 "_law_by_name" ["_law_thing_here"] (spMk K) := ⟨_, fd__law_by_name, G__law_by_name.le (by omega), g__law_by_name, F__law_by_name.kp, F__law_by_name.bindsN fun _ _ _ _ _ _ us hl => match us, hl with | [_], _ => rfl⟩
  have C__law_is_2 : Cal P w K mg base CX0 2 "_law_is" ["_law_e", "_law_spot"] (spIsE K []) := ⟨_, fd__law_is, G__law_is.le (by omega), g__law_is, F__law_is.kp, F__law_is.bindsN fun _ _ _ _ _ _ us hl => match us, hl with | [_, _], _ => rfl⟩
  have C__law_kept_1 : Cal P w K mg base CX0 1 "_law_kept" ["_law_e"] (spKept K []) := ⟨_, fd__law_kept, G__law_kept.le (by omega), g__law_kept, F__law_kept.kp, F__law_kept.bindsN fun _ _ _ _ _ _ us hl => match us, hl with | [_], _ => rfl⟩
  have G__law_all_right : Fg P w K mg base CX0 4 _ fd__law_all_right ["_law_box_here"] spAR := ok_all_right (F := F__law_all_right) (hd := hd) (T := T) (C__law_thing := C__law_thing_2) (C__law_by_place := C__law_by_place_3) (C__law_by_name := C__law_by_name_3) (C__law_is := C__law_is_2) (C__law_kept := C__law_kept_1)
  have G__law_raised : Fg P w K mg base (L2N.CX P w) 3 _ fd__law_raised ["_law_way", "_law_thing_here"] (spRaised K) := ok_raised (F := F__law_raised) (T := T) (E_InvalidMask := E_InvalidMask) (EK_PowerCut := EK_PowerCut) (EK_InvalidTree := EK_InvalidTree) (B_NoRoom := B_NoRoom) (E_InvalidRecords := E_InvalidRecords) (E_NoThing := E_NoThing)
  have H__law_sorts : ∀ p, Fh P w K mg base CX0 p 1 _ fd__law_sorts ["_law_e"] (spSorts K [p]) := fun p => okh_sorts (F := F__law_sorts) (T := T) (Fk := Fk)
  have HC__law_sorts_1 : CalH P w K mg base CX0 1 "_law_sorts" ["_law_e"] (spSorts K) := ⟨_, fd__law_sorts, fun p => H__law_sorts p, g__law_sorts, F__law_sorts.kp, F__law_sorts.bindsN fun _ _ _ _ _ _ us hl => match us, hl with | [_], _ => rfl⟩
  have H__law_is : ∀ p, Fh P w K mg base CX0 p 2 _ fd__law_is ["_law_e", "_law_spot"] (spIsE K [p]) := fun p => okh_is (F := F__law_is) (T := T) (Fk := Fk) (C__law_sorts := HC__law_sorts_1)
  have H__law_kept : ∀ p, Fh P w K mg base CX0 p 1 _ fd__law_kept ["_law_e"] (spKept K [p]) := fun p => okh_kept (F := F__law_kept) (T := T) (Fk := Fk)
  have C__law_raised_3 : Cal P w K mg base (L2N.CX P w) 3 "_law_raised" ["_law_way", "_law_thing_here"] (spRaised K) := ⟨_, fd__law_raised, G__law_raised.le (by omega), g__law_raised, F__law_raised.kp, F__law_raised.bindsN fun _ _ _ _ _ _ us hl => match us, hl with | [_, _], _ => rfl⟩
  have HC__law_is_2 : CalH P w K mg base CX0 2 "_law_is" ["_law_e", "_law_spot"] (spIsE K) := ⟨_, fd__law_is, fun p => H__law_is p, g__law_is, F__law_is.kp, F__law_is.bindsN fun _ _ _ _ _ _ us hl => match us, hl with | [_, _], _ => rfl⟩
  have HC__law_kept_1 : CalH P w K mg base CX0 1 "_law_kept" ["_law_e"] (spKept K) := ⟨_, fd__law_kept, fun p => H__law_kept p, g__law_kept, F__law_kept.kp, F__law_kept.bindsN fun _ _ _ _ _ _ us hl => match us, hl with | [_], _ => rfl⟩
  have G__law_caught : Fg P w K mg base CX0 4 _ fd__law_caught ["_law_box_here", "_law_thing_here"] spCaught := ok_caught (F := F__law_caught) (hd := hd) (T := T) (Fk := Fk) (Fc := Fc') (C__law_take := C__law_take_1) (C__law_raised := C__law_raised_3) (C__law_is := HC__law_is_2) (C__law_kept := HC__law_kept_1)
  have G__law_very_right : Fg P w K mg base CX0 4 _ fd__law_very_right [] spVR := ok_very_right (F := F__law_very_right) (T := T) (Fk := Fk) (E_NoThing := E_NoThing) (E_InvalidChip := E_InvalidChip) (EK_TooMany := EK_TooMany) (C__law_by_place := C__law_by_place_3) (C__law_by_name := C__law_by_name_3) (C__law_kept := C__law_kept_1)
  have C__law_box_1 : Cal P w K mg base CX0 1 "_law_box" ["_law_great"] spBox := ⟨_, fd__law_box, G__law_box.le (by omega), g__law_box, F__law_box.kp, F__law_box.bindsN fun _ _ _ _ _ _ us hl => match us, hl with | [_], _ => rfl⟩
  have C__law_cell_1 : Cal P w K mg base CX0 1 "_law_cell" ["_law_script", "_law_k"] (spCell K) := ⟨_, fd__law_cell, G__law_cell.le (by omega), g__law_cell, F__law_cell.kp, F__law_cell.bindsN fun _ _ _ _ _ _ us hl => match us, hl with | [_, _], _ => rfl⟩
  have C__law_all_right_4 : Cal P w K mg base CX0 4 "_law_all_right" ["_law_box_here"] spAR := ⟨_, fd__law_all_right, G__law_all_right.le (by omega), g__law_all_right, F__law_all_right.kp, F__law_all_right.bindsN fun _ _ _ _ _ _ us hl => match us, hl with | [_], _ => rfl⟩
  have C__law_caught_4 : Cal P w K mg base CX0 4 "_law_caught" ["_law_box_here", "_law_thing_here"] spCaught := ⟨_, fd__law_caught, G__law_caught.le (by omega), g__law_caught, F__law_caught.kp, F__law_caught.bindsN fun _ _ _ _ _ _ us hl => match us, hl with | [_, _], _ => rfl⟩
  have C__law_very_right_4 : Cal P w K mg base CX0 4 "_law_very_right" [] spVR := ⟨_, fd__law_very_right, G__law_very_right.le (by omega), g__law_very_right, F__law_very_right.kp, F__law_very_right.bindsN fun _ _ _ _ _ _ us hl => match us, hl with | [], _ => rfl⟩
  exact ok_law (F := F_law) (T := T) (Fk := Fk) (B_NotReady := B_NotReady) (B_NoRoom := B_NoRoom) (B_NothingToUndo := B_NothingToUndo) (EK_InvalidRecord := EK_InvalidRecord) (C__law_box := C__law_box_1) (C__law_cell := C__law_cell_1) (C__law_is := C__law_is_2) (C__law_all_right := C__law_all_right_4) (C__law_thing := C__law_thing_2) (C__law_caught := C__law_caught_4) (C__law_very_right := C__law_very_right_4)
end K0
open PySem PySem.W PySem.Calls PyProof.Rows
theorem PySem.Challenge.cw_onewaybits_k00_errors_holds : PySem.Challenge.rw_onewaybits_k00_errors.Holds := by
  w_on; o_law
  refine HandSHeadRun.head_any (r := OpenLaw.row PySem.Challenge.rw_onewaybits_k00_errors) (q := view (OpenLaw.row PySem.Challenge.rw_onewaybits_k00_errors).prog [42]) (H := K0.hk) (ob := K0.ob) (M := 30000) (loose := K0.lns) (d := HandSHeadRun.topDef (OpenLaw.row PySem.Challenge.rw_onewaybits_k00_errors).prog 42) (kwd := []) K0.ob_eq
    (by kernel_rfl) (fun s => by kernel_rfl) K0.run (by kernel_rfl) (by kernel_rfl) (by kernel_rfl) (by rfl) (by first | assumption | decide +kernel) (by decide +kernel) ⟨rfl, rfl, rfl, rfl, rfl, by decide +kernel⟩ ?hw ?hc
  case hw => w_witness2
  case hc =>
    refine VB.law_walkD (l := PySem.Challenge.rw_onewaybits_k00_errors) (n := 63) (k := 5) (x := "_law_script") (CX := L2.CX0) rfl (by decide) (by kernel_rfl) ⟨⟨rfl, by decide, by decide⟩, rfl⟩ ?F (fun _ _ _ _ z => z)
    intro w mg fa h Y G hmg0 _hd
    obtain ⟨K, KX, c⟩ := Y
    have hmg : mg ("law" : PySem.Str) = some (.ref fa) := by
      have e : (HandSHeadRun.topDef (OpenLaw.row PySem.Challenge.rw_onewaybits_k00_errors).prog 42).name = ("law" : PySem.Str) := by kernel_rfl
      rw [← e]
      exact hmg0
    obtain ⟨fd, hb, hF⟩ := K0.facts (P := (PySem.Challenge.rw_onewaybits_k00_errors).prog) (w := w) KX G hmg c
    exact ⟨K, fd, (K0.spLaw K), KX, hb, fun H a ns hl _ hS => ⟨a, ns, rfl, hS, by omega, fun _ => rfl⟩, hF⟩
