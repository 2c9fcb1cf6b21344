import PyProof.Rows.All
import Wide.All
import OpenK.AllK
import Wide.FinOn
import HandS.ForMost
import HandS.Evl
import HandS.IsInst
import HandS.Walk
import HandS.Conv
import HandS.TupMul
import HandS.WideBits
import HandS.Wide
import HandS.Defaults
import HandS.HeadHook2
import HandS.RaiseMore
import HandS.Zip
import HandS.Style
import HandS.SetFor
import HandS.Text
import PyProof.ReprText
import PyProof.Rows.StrJoinMade
import KE.KxField
import HandS.FStr
import HandS.Zip0
import KE.BitLaws
import HandS.Exc
import HandS.ExcOwn
import HandS.ExcInit
import HandS.ExcField
import HandS.TryMany
import HandS.Small
import HandS.TupAny
import HandS.RevRange
import PyProof.CallFns
import HandS.TryOnly
import HandS.MakeKwOnly
import PyProof.AutoSeq1
import PyProof.InstEq
import HandS.ExcIs
import KE.KExcIs
import HandS.Deep
import HandS.Head0
import HandS.Head1
import HandS.Head2
import HandS.HeadEnd
import HandS.HeadHook1
import HandS.HeadHook3
import HandS.HeadHook4
import PyProof.Rows.StrOr
import PyProof.ReprNest
import PyProof.ReprRoads
import PyProof.ReprDict
import PySem.Challenge.RW_onewaybits_k02_numbers_and_refused_octet
set_option Elab.async false
set_option linter.all false
set_option maxRecDepth 100000
set_option maxHeartbeats 4000000
namespace VB
open PySem PySem.Spec PyProof.Rows L2

/-! ## 1. Room, and no display under way -/
structure Rm (k : Nat) (A : Around) : Prop where
  rm : Room k A
  gd : A.guards = some []
theorem Rm.le {j k : Nat} {A : Around} (r : Rm k A) (h : j ≤ k := by omega) : Rm j A := ⟨r.rm.mono h, r.gd⟩
theorem Rm.down {k : Nat} {A : Around} (r : Rm (k + 1) A) (e : Env) : Rm k (A.deeper e) := ⟨r.rm.deeper e, r.gd⟩

section
variable {P : Program} {w : World} {K : PySem.W.Frag} {mg : Str → Option Value} {base : Heap} {CX : CXT} {k : Nat}

/-- a def's promise, kept wherever there is room and no display is under way -/
structure Fg (P : Program) (w : World) (K : PySem.W.Frag) (mg : Str → Option Value) (base : Heap)
    (CX : CXT) (k : Nat) (f : Addr) (fd : FuncData) (ps : List Str) (sp : Sp) : Prop where
  cnt : ∀ vs H Q E, sp vs H Q E → vs.length = ps.length
  go : ∀ (A : Around) (outer : List Env) (s : Shared) (H : Hp) (args : Args) (us : List Value) (vs : List V)
    (Q : VK) (E : XK), Rm k A → Env0 P w K mg base A outer s H → BindsTo s fd args (ps.zip us) →
    Vals vs us → sp vs H Q E → codeAny (model P w) A (.call (.ref f) args) (CR CX outer P w H s Q E) s

theorem Fg.le {j : Nat} {f : Addr} {fd : FuncData} {ps : List Str} {sp : Sp}
    (F : Fg P w K mg base CX j f fd ps sp) (h : j ≤ k) : Fg P w K mg base CX k f fd ps sp :=
  ⟨F.cnt, fun A o s H a us vs Q E r => F.go A o s H a us vs Q E (r.le h)⟩

/-- a def by its body -/
theorem fg_of {x qual : Str} {params : Arguments} {body : List Stmt} {scope : Scope} {dvs : List V}
    {kws : List (Str × V)} {f : Addr} {fd : FuncData} {N ps : List Str} {sp : Sp}
    (F : FunD K x qual params body scope dvs kws f fd) (S : FnScope N ps scope)
    (cnt : ∀ vs H Q E, sp vs H Q E → vs.length = ps.length)
    (hb : ∀ (cdv : Value) (A : Around) (outer : List Env) (s : Shared) (H : Hp) (vs : List V) (Q : VK) (E : XK),
      Rm k (A.deeper (envOfC qual scope s.heap.objs.size f cdv)) → sp vs H Q E →
      ∃ t, PSs (cxOf CX P w K mg base N qual scope f cdv A outer s H E) body t ∧
        t { nx := fun _ H' => Q .non H', rt := Q } (start N vs) H) :
    Fg P w K mg base CX (k + 1) f fd ps sp := by
  obtain ⟨oc, od, dV, kV, doc, pm, an, cdv, ct, osl, rfl, lk, hcd, _, _⟩ := F.ex
  refine ⟨cnt, ?_⟩
  intro A outer s H args us vs Q E hr e0 hbind hv hsp
  have kin : K.In s.heap := e0.mod.kin.keeps (fun b o e => (e0.bs b o e).1)
  have nol : s.heap.NoLimit := e0.mod.nolimit.keeps (fun b o e => (e0.bs b o e).1)
  have hk : ∀ y ∈ ps.zip us, scope.names.lookup y.1 = some .local ∨
      (scope.names.lookup y.1 = some .cell ∧
        ((cellsFrom (s.heap.objs.size + 1) scope.names []).lookup y.1).isSome = true) := by
    rintro ⟨n, v⟩ hy
    cases S.par n (List.of_mem_zip hy).1 with
    | inl q => exact .inl q
    | inr q => exact .inr ⟨q, PySem.W.cellsFrom_some _ _ _ (.inl q)⟩
  refine codeAny_call_function hr.rm.depth (kin _ _ lk) rfl S.co S.gen rfl
    (PySem.W.codeRec_of kin hcd) (hbind _ _ _ _ (wpAny_newFunctionEnv_cells S.kind hk ?_))
  intro env he s1 x
  subst he
  refine ⟨nol.keeps x.toInCall.keep, codeAny_func ?_⟩
  obtain ⟨t, ht, hq⟩ := hb cdv A outer s H vs Q E (hr.down _) hsp
  have I := inv_start (CX := CX) (E := E) S hr.rm.hd e0 (cnt _ _ _ _ hsp) hv x
  refine wpAny_mono (ht.run [] s1 (start N vs) H _ I hq) ?_ (fun e s' hs => hs)
  intro fl s' hs
  cases fl with
  | ret u =>
    obtain ⟨v, σ', H', J, rv, q⟩ := hs
    exact ⟨v, H', J.os, J.bare, J.base, J.hok, rv, q⟩
  | next =>
    obtain ⟨σ', H', J, q⟩ := hs
    exact ⟨.non, H', J.os, J.bare, J.base, J.hok, rfl, q⟩
  | brk => exact (hs.choose_spec.choose_spec.2 : False).elim
  | cont => exact (hs.choose_spec.choose_spec.2 : False).elim

/-! ## 2. Calls by name -/
/-- a def of the module, told by its name -/
structure Cal (P : Program) (w : World) (K : PySem.W.Frag) (mg : Str → Option Value) (base : Heap)
    (CX : CXT) (k : Nat) (x : Str) (ps : List Str) (sp : Sp) : Prop where
  ex : ∃ (f : Addr) (fd : FuncData), Fg P w K mg base CX k f fd ps sp ∧ mg x = some (.ref f) ∧
    PySem.W.keepIn K (.ref f) = true ∧ Binds K fd ps []
/-- .. called with keywords -/
structure CalK (P : Program) (w : World) (K : PySem.W.Frag) (mg : Str → Option Value) (base : Heap)
    (CX : CXT) (k : Nat) (x : Str) (ps : List Str) (n : Nat) (ks : List Str)
    (g : List Value → List Value → List Value) (gV : List V → List V → List V) (sp : Sp) : Prop where
  ex : ∃ (f : Addr) (fd : FuncData), Fg P w K mg base CX k f fd ps sp ∧ mg x = some (.ref f) ∧
    PySem.W.keepIn K (.ref f) = true ∧ KBn K fd ps n ks g gV
end

section
variable {X : Cx} {CX : CXT} {k n : Nat} {ps ks : List Str} {sp : Sp} {E : XK} {x : Str} {p pos : Pos}
  {e : Expr} {es : List Expr} {kws : List Keyword} {t tk : TA}
  {g : List Value → List Value → List Value} {gV : List V → List V → List V}

/-- the end of a call, where the caller stands -/
theorem back {pins : List (Addr × Obj)} {σ : L2.St} {H : Hp} {s s' : Shared} {Q : VK} {E : XK} {r : Result}
    (hx : Passes CX X E) (I : Inv X pins σ H s) (hq : CR CX X.stack X.prog X.w H s Q E r s') :
    match r with
    | .ok (.ret u) => EP X pins σ Q u s'
    | .ok _ => False
    | .error e => X.xe e s' := by
  cases r with
  | error e => exact hx pins σ H s e s' I hq
  | ok fl =>
    cases fl with
    | ret u => exact I.after hq
    | next => exact hq
    | brk => exact hq
    | cont => exact hq

theorem enter {f : Addr} {fd : FuncData} {pins : List (Addr × Obj)} {σ : L2.St} {H : Hp} {s : Shared} {Q : VK}
    {args : Args} {us : List Value} {vs : List V} (F : Fg X.prog X.w X.K X.mg X.base CX k f fd ps sp)
    (hr : Rm k X.A) (hx : Passes CX X E) (I : Inv X pins σ H s) (hb : BindsTo s fd args (ps.zip us))
    (r : Vals vs us) (h : sp vs H Q E) :
    wpAny (model X.prog X.w) X.A (call (.ref f) args.pos args.kw) (EP X pins σ Q) X.xe s := by
  refine wpAny_call (codeAny_mono (F.go X.A X.stack s H args us vs Q E hr I.env0 hb r h) ?_)
  intro r s' hq
  have z := back hx I hq
  cases r with
  | error e => exact z
  | ok fl =>
    cases fl with
    | ret u => exact z
    | next => exact z.elim
    | brk => exact z.elim
    | cont => exact z.elim

theorem pe_cal (C : Cal X.prog X.w X.K X.mg X.base CX k x ps sp) (hr : Rm k X.A) (hx : Passes CX X E)
    (ha : PA X (e :: es) t) (hg : Gl X x := by rfl) (hdb : (x == ("__debug__" : Str)) = false := by decide)
    (he : starEach (e :: es) X.env = (false, eval e X.env) :: starEach es X.env := by rfl)
    (hpl : (backTo pos (starEach es X.env)).any (·.1) = false := by rfl) :
    PE X (.Call (.Name x p) (e :: es) [] pos) (tCall sp [] E t) := by
  obtain ⟨f, fd, F, hm, hk, hb⟩ := C.ex
  constructor
  intro pins s σ H Q I h
  refine wpAny_Call_Name_kw (ld_glob I hg hm ?_ hdb)
  refine PySem.W.callWith_K (h₀ := X.base) I.ok.mod.kin hk (thn (ha.run pos pins s σ H _ I h) ?_) he hpl
  rintro us s1 ⟨vs, H1, I1, r, q⟩
  have q : sp (vs ++ []) H1 Q E := q
  rw [List.append_nil] at q
  have l : (us ++ []).length = ps.length := by
    rw [List.append_nil, ← r.length]
    exact F.cnt _ _ _ _ q
  have b := hb s1 us I1.kIn l
  rw [List.append_nil] at b
  exact ⟨I1.kIn, enter (args := ⟨us, []⟩) F hr hx I1 b r q⟩

theorem pe_cal0 (C : Cal X.prog X.w X.K X.mg X.base CX k x ps sp) (hr : Rm k X.A) (hx : Passes CX X E)
    (hg : Gl X x := by rfl) (hdb : (x == ("__debug__" : Str)) = false := by decide) :
    PE X (.Call (.Name x p) [] [] pos) (tCall sp [] E tNil) := by
  obtain ⟨f, fd, F, hm, hk, hb⟩ := C.ex
  constructor
  intro pins s σ H Q I h
  have q : sp [] H Q E := h
  refine wpAny_Call_Name_kw (ld_glob I hg hm ?_ hdb)
  refine PySem.W.callWith_K0 I.kIn hk ?_
  have b := hb s [] I.kIn (F.cnt _ _ _ _ q)
  exact enter (args := ⟨[], []⟩) F hr hx I b .nil q

/-- f(k = v, ..): no value by position -/
theorem pe_calk (C : CalK X.prog X.w X.K X.mg X.base CX k x ps 0 ks g gV sp) (hr : Rm k X.A) (hx : Passes CX X E)
    (hkw : PK X kws tk) (hg : Gl X x := by rfl)
    (hall : (backToKw pos (keywordEach kws X.env)).all (·.1.isSome) = true := by rfl)
    (hks : (backToKw pos (keywordEach kws X.env)).filterMap (·.1) = ks := by rfl)
    (hdb : (x == ("__debug__" : Str)) = false := by decide)
    (hpl : ((backTo pos (starEach [] X.env)).any (·.1) || (backToKw pos (keywordEach kws X.env)).any (·.1.isNone)) = false := by rfl) :
    PE X (.Call (.Name x p) [] kws pos) (tCallN 0 ks.length sp gV E tNil tk) := by
  obtain ⟨f, fd, F, hm, hk, hb⟩ := C.ex
  constructor
  intro pins s σ H Q I h
  refine wpAny_Call_Name_kw (ld_glob I hg hm ?_ hdb)
  have h : tk σ H fun zs H2 => ([] : List V).length = 0 ∧ zs.length = ks.length ∧ sp (gV [] zs) H2 Q E := h
  refine PySem.W.callWith_KW0 (h₀ := X.base) I.ok.mod.kin hk hall (thn (hkw.run pos pins s σ H _ I h) ?_) hpl
  rintro ws s2 ⟨zs, H2, I2, rz, _, l2, q2⟩
  refine ⟨I2.kIn, ?_⟩
  rw [hks]
  exact enter (args := ⟨[], ks.zip ws⟩) F hr hx I2
    (hb.to s2 [] ws I2.kIn rfl (rz.length.symm.trans l2)) (hb.rel .nil rz) q2
/-- f(e, .., k = v, ..) -/
theorem pe_calpk (C : CalK X.prog X.w X.K X.mg X.base CX k x ps n ks g gV sp) (hr : Rm k X.A) (hx : Passes CX X E)
    (ha : PA X (e :: es) t) (hkw : PK X kws tk) (hg : Gl X x := by rfl)
    (hall : (backToKw pos (keywordEach kws X.env)).all (·.1.isSome) = true := by rfl)
    (hks : (backToKw pos (keywordEach kws X.env)).filterMap (·.1) = ks := by rfl)
    (hdb : (x == ("__debug__" : Str)) = false := by decide)
    (he : starEach (e :: es) X.env = (false, eval e X.env) :: starEach es X.env := by rfl)
    (hpl : ((backTo pos (starEach (e :: es) X.env)).any (·.1) || (backToKw pos (keywordEach kws X.env)).any (·.1.isNone)) = false := by rfl) :
    PE X (.Call (.Name x p) (e :: es) kws pos) (tCallN n ks.length sp gV E t tk) := by
  obtain ⟨f, fd, F, hm, hk, hb⟩ := C.ex
  constructor
  intro pins s σ H Q I h
  refine wpAny_Call_Name_kw (ld_glob I hg hm ?_ hdb)
  refine PySem.W.callWith_KW (h₀ := X.base) I.ok.mod.kin hk hall (thn (ha.run pos pins s σ H _ I h) ?_) hpl he
  rintro us s1 ⟨vs, H1, I1, r, q⟩
  refine thn (hkw.run pos pins s1 σ H1 _ I1 q) ?_
  rintro ws s2 ⟨zs, H2, I2, rz, l1, l2, q2⟩
  refine ⟨I2.kIn, ?_⟩
  rw [hks]
  exact enter (args := ⟨us, ks.zip ws⟩) F hr hx I2
    (hb.to s2 us ws I2.kIn (r.length.symm.trans l1) (rz.length.symm.trans l2)) (hb.rel r rz) q2
end

/-! ## 3. The law's own call -/
theorem first_call {P : Program} {w : World} {K : PySem.W.Frag} {mg mb : Str → Option Value} {CX : CXT} {k : Nat}
    {fa a : Addr} {fd : FuncData} {x : Str} {sp : Sp} {s : Shared} {vs : List Value} {ns : List Int}
    (KX : K.In s.heap) (hns : s.heap.Ns mainGlobals mg) (hb : s.heap.Ns builtinsNs mb)
    (hbb : ∀ x : Str, x ≠ "__name__" → mb x = bootBuiltins x) (hlim : s.heap.NoLimit) (hg : s.gens = #[])
    (ha : s.heap.get? a = some { cls := .type "list", data := .seq vs.toArray }) (hi : IntsAre vs ns)
    (hl : ns.length ≤ sizeLine) (hr : Rm k callerA)
    (F : ∀ base : Heap, K.In base → base.Ns mainGlobals mg → Fg P w K mg base CX k fa fd [x] sp)
    (hbind : ∀ (s : Shared) (u : Value), BindsTo s fd ⟨[u], []⟩ [(x, u)])
    (hsp : ∀ H : Hp, Only H → SqL K H a (ns.map V.int) → sp [.ref a] H (fun v _ => v = .bl true) fun _ _ _ => False)
    (hCX : ∀ H e s', CX [] H s (fun _ _ _ => False) e s' → False) :
    codeAny (model P w) callerA (.call (.ref fa) ⟨[.ref a], []⟩)
      (fun r s' => r = .ok (.ret (.bool true)) ∧ OldK s.heap s'.heap ∧ s'.os = s.os ∧ AllBare s'.gens) s := by
  -- what is tracked at first: the script at most
  let o : Obj := { cls := .type "list", data := .seq vs.toArray }
  have main : ∀ H : Hp, (∀ b, H b = none ∨ (b = a ∧ H b = some (.frz o (.lst (ns.map V.int))) ∧ K.lookup a = none)) →
      SqL K H a (ns.map V.int) → HOk P w H s.heap → codeAny (model P w) callerA (.call (.ref fa) ⟨[.ref a], []⟩)
      (fun r s' => r = .ok (.ret (.bool true)) ∧ OldK s.heap s'.heap ∧ s'.os = s.os ∧ AllBare s'.gens) s := by
    intro H hH hS hok
    have dictFree : ∀ {b : Addr} {ob : Obj} {es : Array DictEntry} {ep : Nat}, s.heap.get? b = some ob →
        ob.data = .dict es ep → H b = none := by
      intro b ob es ep e d
      rcases hH b with q | ⟨rfl, q, _⟩
      · exact q
      · rw [ha] at e
        cases e
        exact nomatch d
    have nsB : ∀ {b : Addr} {m : Str → Option Value}, s.heap.Ns b m → (hidT s.heap H).Ns b m := by
      rintro b m ⟨ob, es, ep, e, d, r⟩
      exact ⟨ob, es, ep, hidT_get e (dictFree e d), d, r⟩
    have kB : K.In (hidT s.heap H) := by
      intro b ob e
      refine hidT_get (KX b ob e) ?_
      rcases hH b with q | ⟨rfl, _, q⟩
      · exact q
      · rw [e] at q
        cases q
    have lim' : (hidT s.heap H).NoLimit := by
      obtain ⟨mc, h1, h2⟩ := hlim
      exact ⟨mc, nsB h1, h2⟩
    have md : Mod K mg (hidT s.heap H) := ⟨kB, nsB hns, ⟨mb, nsB hb, hbb⟩, lim'⟩
    have nob : ∀ b ∈ frs ([] : List Env), H b = none := fun b hb => by cases hb
    have e0 : Env0 P w K mg (hidT s.heap H) callerA [] s H :=
      ⟨rfl, md, fun b ob e => of_hidT e, Nat.le_of_eq (hidT_size _ _), trivial, nob, hok, .of_eq hg⟩
    have oH : Only H := by
      intro b
      rcases hH b with q | ⟨_, q, _⟩
      · exact .inl q
      · exact .inr ⟨_, _, q⟩
    have run := (F _ kB (nsB hns)).go callerA [] s H ⟨[.ref a], []⟩ [.ref a] [.ref a] _ _ hr e0
      (hbind s (.ref a)) (.cons rfl .nil) (hsp H oH hS)
    refine codeAny_mono run ?_
    intro r s' h
    match r, h with
    | .error e, h => exact (hCX H e s' h).elim
    | .ok .next, h => exact False.elim h
    | .ok .brk, h => exact False.elim h
    | .ok .cont, h => exact False.elim h
    | .ok (.ret u), h =>
      obtain ⟨v, H', os, bare, un, hok', rv, q⟩ := h
      have q : v = .bl true := q
      subst q
      have ru : u = Value.bool true := rv
      subst ru
      refine ⟨rfl, OldK.of_keep ?_, os, bare⟩
      intro b ob e
      rcases hH b with q | ⟨_, q, _⟩
      · exact un.keep b ob e q (fun z => by cases z) (fun z => by cases z)
      · obtain ⟨e1, _⟩ := hok b _ q
        obtain ⟨e2, _⟩ := hok' b _ (un.frzs b o _ q)
        rw [e] at e1
        cases e1
        exact e2
  have rv := vals_ints hi
  cases hk : K.lookup a with
  | some ob =>
    have e := KX a ob hk
    rw [ha] at e
    cases e
    refine main (fun _ => none) (fun b => .inl rfl) (.inr ⟨_, vs.toArray, _, hk, rfl, rfl, rfl, ?_, by simpa using rv⟩) (fun b u z => by cases z)
    rw [List.size_toArray, hi.length]
    exact hl
  | none =>
    let H1 : Hp := fun b => if b = a then some (.frz o (.lst (ns.map V.int))) else none
    have at1 : H1 a = some (.frz o (.lst (ns.map V.int))) := if_pos rfl
    refine main H1 ?_ (.inl (.inr ⟨o, at1⟩)) ?_
    · intro b
      by_cases hb : b = a
      · subst hb
        exact .inr ⟨rfl, at1, hk⟩
      · exact .inl (if_neg hb)
    · intro b u z
      by_cases hb : b = a
      · subst hb
        rw [at1] at z
        cases z
        exact ⟨ha, by rw [List.length_map]; exact hl, vs, _, rv, ha⟩
      · have z' : H1 b = none := if_neg hb
        rw [z'] at z
        cases z

/-- the goal behind the head -/
theorem law_walk {l : PySem.W.OpenLaw} {n k : Nat} {q : Program} {loose : List Str} {XP : (Str → Option Value) → Heap → Prop}
    {YP : World → Heap → Prop} {d : DefRec} {CX : CXT} {x : Str}
    (hn : l.most = some n) (hn2 : n ≤ sizeLine) (hdf : d.params.defaults = []) (hr : Rm k callerA)
    (F : ∀ (w : World) (mg : Str → Option Value) (fa : Addr) (h : Heap), YP w h → h.Ns mainGlobals mg → mg d.name = some (.ref fa) →
      ∃ (K : PySem.W.Frag) (fd : FuncData) (sp : Sp), K.In h ∧ (∀ (s : Shared) (u : Value), BindsTo s fd ⟨[u], []⟩ [(x, u)]) ∧
        (∀ (H : Hp) (a : Addr) (ns : List Int), ns.length ≤ n → Only H → SqL K H a (ns.map V.int) →
          sp [.ref a] H (fun v _ => v = .bl true) fun _ _ _ => False) ∧
        ∀ base : Heap, K.In base → base.Ns mainGlobals mg → Fg l.prog w K mg base CX k fa fd [x] sp)
    (hCX : ∀ (H : Hp) (s : Shared) (e : Value) (s' : Shared), CX [] H s (fun _ _ _ => False) e s' → False) :
    PySem.W.WalkO q loose XP YP l.row.toRowW d [] (fun f vs => PySem.call f vs) := by
  refine Att.attach_call hn hdf ?_
  intro w s₀ s₁ mg mb fa o pm cd doc a vs ns G Y ho hd hcd hmg hobj hints hlen hg
  obtain ⟨K, fd, sp, KX, hb, hsp, hF⟩ := F w mg fa _ Y G.T.g hmg
  exact first_call KX G.T.g G.T.b G.T.builtins G.T.nolimit hg hobj hints (Nat.le_trans hlen hn2) hr hF hb
    (fun H hO hS => hsp H a ns hlen hO hS) (fun H e s' => hCX H s₁ e s')
end VB
namespace VB
open PySem PySem.Spec PyProof.Rows L2
mutual
theorem dp_noDict {K : PySem.W.Frag} {H : Hp} : ∀ {d : PyData} {v : V}, Dp K H v d → d.hasDict = false
  | .none, _, _ => by simp only [PyData.hasDict]
  | .bool _, _, _ => by simp only [PyData.hasDict]
  | .int _, _, _ => by simp only [PyData.hasDict]
  | .str _, _, _ => by simp only [PyData.hasDict]
  | .list ds, _, .lst _ h => by
    simp only [PyData.hasDict]
    exact dpAll_noDict h
  | .tuple ds, _, .tup _ h => by
    simp only [PyData.hasDict]
    exact dpAll_noDict h
  | .dict _, _, h => nomatch h
theorem dpAll_noDict {K : PySem.W.Frag} {H : Hp} : ∀ {ds : List PyData} {vs : List V}, DpAll K H vs ds → PyData.hasDictAll ds = false
  | [], _, _ => by simp only [PyData.hasDictAll]
  | d :: ds, _, .cons h t => by simp only [PyData.hasDictAll, dp_noDict h, dpAll_noDict t, Bool.or_self]
end
section
variable {X : Cx} {k : Nat}
/-- repr(x), x data of any depth without dicts -/
@[irreducible] def rRepr (K : PySem.W.Frag) : List V → Hp → VK → Prop := fun xs H Q => ∃ (a : Addr) (d : PyData), xs = [.ref a] ∧
  Dp K H (.ref a) d ∧ d.showable = true ∧ d.depth ≤ 60 ∧ d.shown.length ≤ sizeLine ∧ Q (.str d.shown) H
theorem call_repr (hr : Rm k X.A) : CallR X (.builtin "repr") (rRepr X.K) := by
  intro pins s σ H xs us Q I r h
  unfold rRepr at h
  obtain ⟨a, d, rfl, hd, hs, hdep, hl, q⟩ := h
  obtain ⟨u, rfl, ru⟩ := vals1 r
  obtain ⟨as, rd⟩ := Dp.reads I d _ u hd ru
  cases (show u = Value.ref a from ru)
  have hu := hr.rm.un
  refine repr_of_reads' rd hs (PyData.noDict_hsm (dp_noDict hd)) hr.gd (by omega) (fun _ _ e => e) ?_ hl
  intro h' u tk kp
  refine ⟨.str d.shown, H, ?_, ⟨u, rfl⟩, q⟩
  exact I.un (Un.kept kp) (I.hok.kept kp)
end
end VB
namespace VB
open PySem PySem.Spec PyProof.Rows L2
section
variable {X : Cx} {K : PySem.W.Frag}
def rAddU (K : PySem.W.Frag) : R2 := fun x y H Q => rI0 (fun i j => .int (i + j)) x y H Q ∨ (rCat x y H Q ∨ rCatT K x y H Q)
theorem u_add (hK : X.K = K := by rfl) : OpR X (binaryOp .Add) (rAddU K) := by
  subst hK
  exact op_add.or (op_cat.or op_catT)
def rMulU (K : PySem.W.Frag) : R2 := fun x y H Q => rI CMulX (fun i j => .int (i * j)) x y H Q ∨ (rRep x y H Q ∨ rRepT K x y H Q)
theorem u_mul (hK : X.K = K := by rfl) : OpR X (binaryOp .Mult) (rMulU K) := by
  subst hK
  exact op_mulX.or (op_rep.or op_repT)
def rEqU (K : PySem.W.Frag) : R2 := fun x y H Q => rEq x y H Q ∨ rEqD K x y H Q
theorem u_eq {k : Nat} (hr : Rm k X.A) (hK : X.K = K := by rfl) : OpR X (compareOp .Eq) (rEqU K) := by
  subst hK
  exact op_eq.or (op_eqD hr.rm.units)
def rNeU (K : PySem.W.Frag) : R2 := fun x y H Q => rNe x y H Q ∨ rNeD K x y H Q
theorem u_ne {k : Nat} (hr : Rm k X.A) (hK : X.K = K := by rfl) : OpR X (compareOp .NotEq) (rNeU K) := by
  subst hK
  exact op_ne.or (op_neD hr.rm.units)
def rSlU (K : PySem.W.Frag) : V → Option Int → Option Int → Hp → VK → Prop := fun x lo hi H Q => rSlL K x lo hi H Q ∨ (rSlT K x lo hi H Q ∨ rSlS x lo hi H Q)
theorem u_sl (hK : X.K = K := by rfl) : SlR X (rSlU K) := by
  subst hK
  exact sl_list.or (sl_tup.or sl_str)
theorem u_ix (hK : X.K = K := by rfl) : IxR X (rIx K) := by
  subst hK
  exact ix_seq
theorem u_in (hK : X.K = K := by rfl) : OpR X (compareOp .In) (rIn K false) := by
  subst hK
  exact op_in_seq
theorem u_notin (hK : X.K = K := by rfl) : OpR X (compareOp .NotIn) (rIn K true) := by
  subst hK
  exact op_notIn_seq
def rLenU (K : PySem.W.Frag) : List V → Hp → VK → Prop := fun xs H Q => ∃ x n, xs = [x] ∧ LenV K x H n ∧ Q (.int n) H
theorem u_len (hK : X.K = K := by rfl) : CallR X (.builtin "len") (rLenU K) := by
  subst hK
  exact call_len
theorem u_isi (hK : X.K = K := by rfl) : CallR X (.builtin "isinstance") (rIsi K) := by
  subst hK
  exact call_isi
theorem u_isiT (hK : X.K = K := by rfl) : CallR X (.builtin "isinstance") (rIsiT K) := by
  subst hK
  exact call_isiT
theorem u_sum (hc : X.calm = true) (hK : X.K = K := by rfl) : CallR X (.builtin "sum") (rSum K) := by
  subst hK
  exact cr_sum hc
theorem u_all (hc : X.calm = true) (hK : X.K = K := by rfl) : CallR X (.builtin "all") (rAll K) := by
  subst hK
  exact cr_all hc
theorem u_any (hc : X.calm = true) (hK : X.K = K := by rfl) : CallR X (.builtin "any") (rAny K) := by
  subst hK
  exact cr_any hc
theorem u_repr {k : Nat} (hr : Rm k X.A) (hK : X.K = K := by rfl) : CallR X (.builtin "repr") (rRepr K) := by
  subst hK
  exact call_repr hr
def rListU (K : PySem.W.Frag) : List V → Hp → VK → Prop := fun xs H Q => ∃ p ys, xs = [.ref p] ∧ (SqL K H p ys ∨ SqT K H p ys) ∧ ∀ l, H l = none → Q (.ref l) (upd H l (.lst ys))
theorem u_list (hK : X.K = K := by rfl) : CallR X (.type "list") (rListU K) := by
  subst hK
  exact call_list_of
def rTupU (K : PySem.W.Frag) : List V → Hp → VK → Prop := fun xs H Q => ∃ p ys, xs = [.ref p] ∧ ((SqL K H p ys ∧ ∀ l, H l = none → Q (.ref l) (upd H l (.tup ys))) ∨ (SqT K H p ys ∧ Q (.ref p) H))
theorem u_tup (hK : X.K = K := by rfl) : CallR X (.type "tuple") (rTupU K) := by
  subst hK
  exact call_tuple_of
theorem u_count (hK : X.K = K := by rfl) : MtR X "list.count" (rCntI K) := by
  subst hK
  exact mt_lcount
def tTru (K : PySem.W.Frag) (ta : TE) : TT := fun σ H Q => ta σ H fun x H' => ∃ k, TruV K x H' k ∧ Q k H'
theorem pt_tru {a : Expr} {ta : TE} (ha : PE X a ta) (he : ∀ whole, isTrue a X.env whole = (do let v ← whole; standAt a.pos; holding [v] (truthy v))) (hK : X.K = K := by rfl) : PT X a (tTru K ta) := by
  subst hK
  exact pt_truth ha he
theorem pi_either {tg iter : Expr} {a b : TI} (h : PI X tg iter a) (h' : PI X tg iter b) : PI X tg iter (fun σ H R => a σ H R ∨ b σ H R) := by
  constructor
  intro pins s σ H R I q
  rcases q with q | q
  · exact h.run pins s σ H R I q
  · exact h'.run pins s σ H R I q
def iSeq (K : PySem.W.Frag) (t : TE) : TI := fun σ H R => iList K t σ H R ∨ iTup K t σ H R
theorem pi_seq {tg e : Expr} {t : TE} (h : PE X e t) (hK : X.K = K := by rfl) : PI X tg e (iSeq K t) := by
  subst hK
  exact pi_either (pi_list h) (pi_tup h)
theorem pi_enu {e : Expr} {ta : TA} {p pos tpos : Pos} {elts : List Expr} {kk : Nat} (hg : Gl X "enumerate") (hm : X.mg "enumerate" = none) (ha : PA X [e] ta) (hK : X.K = K := by rfl)
    (hs : starEach [e] X.env = (false, eval e X.env) :: starEach [] X.env := by rfl) : PI X (.Tuple elts kk tpos) (.Call (.Name "enumerate" p) [e] [] pos) (iEnum K ta) := by
  subst hK
  exact pi_enum hg hm ha hs
theorem pg_tupU {es : List Expr} {k : Nat} {t : TGs} {n : Nat} {pos : Pos} (hc : X.calm = true) (h : PGs X es t) (hK : X.K = K := by rfl)
    (hn : (assignEach es X.env).length = n := by rfl) (hst : (assignEach es X.env).findIdx? (·.1) = none := by rfl) : PG X (.Tuple es k pos) (gTup K n t) := by
  subst hK
  exact pg_tup hc h hn hst
/-- an int's remainder and quotient by a positive one, as they are -/
theorem fmodE {a b : Int} (h : 0 ≤ b := by decide) : a.fmod b = a % b := Int.fmod_eq_emod_of_nonneg a h
theorem fdivE {a b : Int} (h : 0 ≤ b := by decide) : a.fdiv b = a / b := Int.fdiv_eq_ediv_of_nonneg a h
/-- by a positive divisor -/
theorem u_mod : OpR X (binaryOp .Mod) (rI (fun _ j => 0 < j) fun i j => .int (i % j)) := by
  intro pins s σ H x y v u Q I rx ry h
  obtain ⟨i, j, rfl, rfl, hj, q⟩ := h
  refine op_modN pins s σ H _ _ v u Q I rx ry ⟨i, j, rfl, rfl, by omega, ?_⟩
  show Q (.int (i.fmod j)) H
  rw [fmodE (by omega)]
  exact q
theorem u_fdiv : OpR X (binaryOp .FloorDiv) (rI (fun _ j => 0 < j ∧ j < 1073741824) fun i j => .int (i / j)) := by
  intro pins s σ H x y v u Q I rx ry h
  obtain ⟨i, j, rfl, rfl, hj, q⟩ := h
  refine op_fdivN pins s σ H _ _ v u Q I rx ry ⟨i, j, rfl, rfl, ⟨by omega, by omega⟩, ?_⟩
  show Q (.int (i.fdiv j)) H
  rw [fdivE (by omega)]
  exact q
end
end VB
namespace VB
/-- what follows, shown once for several ways -/
theorem once {R G : Prop} (main : R → G) (rest : R) : G := main rest
end VB
/-! sequences: lists and tuples alike -/
namespace VB
open PySem PySem.Spec PyProof.Rows L2
/-- a list (false) or a tuple (true) of the values xs -/
def Sv (t : Bool) (K : PySem.W.Frag) (H : Hp) (a : Addr) (xs : List V) : Prop := match t with
  | false => SqL K H a xs
  | true => SqT K H a xs
section
variable {K : PySem.W.Frag} {H H' : Hp} {a : Addr} {xs : List V} {t : Bool}
theorem Sv.ex (h : Sv t K H a xs) (e : Evl.Ex H H') : Sv t K H' a xs := by
  cases t with
  | false => exact Evl.ex_l e (show SqL K H a xs from h)
  | true => exact Evl.ex_t e (show SqT K H a xs from h)
theorem Sv.lst (h : H a = some (.lst xs)) : Sv false K H a xs := SqL.of h
theorem Sv.tup (h : H a = some (.tup xs)) : Sv true K H a xs := SqT.of h
/-- a walk over what stands in a slot -/
theorem seq_var {i : Nat} {σ : L2.St} {R : It → Hp → Prop} (e : σ[i]? = some (some (.ref a))) (S : Sv t K H a xs)
    (h : ∀ J, Walk J xs.length (fun H => Sv t K H a xs) (YAt xs) → R J H) : iSeq K (tVar i) σ H R := by
  cases t with
  | false => exact .inl ⟨_, e, a, rfl, ⟨xs, S⟩, h _ walk_list⟩
  | true => exact .inr ⟨_, e, a, rfl, ⟨xs, S⟩, h _ walk_tup⟩
theorem Sv.len (S : Sv t K H a xs) : LenV K (.ref a) H xs.length := by
  cases t with
  | false => exact .inl ⟨xs, S, rfl⟩
  | true => exact .inr ⟨xs, S, rfl⟩
theorem Sv.ix {x v : V} {i : Int} {Q : VK} (S : Sv t K H a xs) (h : atI xs i = some v) (q : Q v H) : rIx K (.ref a) (.int i) H Q := by
  cases t with
  | false => exact .inl ⟨a, xs, i, v, rfl, rfl, S, h, q⟩
  | true => exact .inr (.inl ⟨a, xs, i, v, rfl, rfl, S, h, q⟩)
theorem Sv.either (S : Sv t K H a xs) : SqL K H a xs ∨ SqT K H a xs := by
  cases t with
  | false => exact .inl S
  | true => exact .inr S
end
/-- a range by a step upward -/
theorem rg_up {n c : Int} (hn : 0 ≤ n) (hn2 : n < 1000000) (hc : 0 < c) (hc2 : c < 1000000) : RgC 0 n c ((n + c - 1) / c).toNat := by
  refine ⟨by omega, by omega, ?_, ?_⟩
  · have z := PyProof.Rows.rangeSize_pos (len := n) (c := c) (by omega) hn
    have d : 0 ≤ (n + c - 1) / c := Int.ediv_nonneg (by omega) (by omega)
    have d2 : (n + c - 1) / c ≤ n + c - 1 := Int.ediv_le_self _ (by omega)
    have d3 : (n + c - 1) / c * c ≤ n + c - 1 := Int.ediv_mul_le _ (by omega)
    unfold Builtin.Range.small
    rw [z]
    simp only [Builtin.Range.rangeFitsLong, Bool.and_eq_true, Bool.or_eq_true, decide_eq_true_eq, beq_iff_eq, hc, gt_iff_lt, if_true]
    omega
  · have d : 0 ≤ (n + c - 1) / c := Int.ediv_nonneg (by omega) (by omega)
    rw [PyProof.Rows.rangeSize_pos (by omega) hn]
    omega
/-- the promises' shapes: a new list, a new tuple, a value; what stood stands -/
abbrev RL (xs : List V) (H : Hp) (Q : VK) : Prop := ∀ (p : Addr) (H' : Hp), H p = none → Evl.Ex H H' → H' p = some (.lst xs) → Q (.ref p) H'
abbrev RT (xs : List V) (H : Hp) (Q : VK) : Prop := ∀ (p : Addr) (H' : Hp), H p = none → Evl.Ex H H' → H' p = some (.tup xs) → Q (.ref p) H'
abbrev RV (v : V) (H : Hp) (Q : VK) : Prop := ∀ H' : Hp, Evl.Ex H H' → Q v H'
/-- ints as values -/
abbrev IV (ns : List Int) : List V := ns.map V.int
theorem iv_get {ns : List Int} {i : Nat} {x : V} (h : (IV ns)[i]? = some x) : ∃ n, ns[i]? = some n ∧ x = .int n := by
  rw [List.getElem?_map] at h
  cases e : ns[i]? with
  | none => rw [e] at h; cases h
  | some n =>
    rw [e] at h
    exact ⟨n, rfl, (Option.some.inj h).symm⟩
theorem iv_at {ns : List Int} {i : Nat} {n : Int} (h : ns[i]? = some n) : atI (IV ns) (i : Int) = some (.int n) := by
  apply atI_nat
  rw [List.getElem?_map, h]
  rfl
theorem iv_len (ns : List Int) : (IV ns).length = ns.length := List.length_map ..
theorem iv_snoc (ns : List Int) (n : Int) : IV ns ++ [V.int n] = IV (ns ++ [n]) := by simp
theorem take_snoc {α : Type} {l : List α} {i : Nat} {x : α} (h : l[i]? = some x) : l.take (i + 1) = l.take i ++ [x] := by
  rw [List.take_add_one, h]
  rfl
/-- a comprehension over a range that changes nothing: us its items -/
theorem lc_pureR {n j : Nat} {us : List Int} {te : TE} {vs : List Nat} {σ : L2.St} {H1 : Hp} {D : Addr} {Qd : Hp → Prop} (hl : us.length = n) (hz : n ≤ 60000) (hD : H1 D = none)
    (hw : ∀ x, wipe ((wipe σ vs).set j x) vs = wipe σ vs)
    (hs : ∀ (i : Nat) (u : Int) (H : Hp) (Q : VK), us[i]? = some u → Evl.Ex H1 H → (∀ H' : Hp, Evl.Ex H H' → Q (.int u) H') → te ((wipe σ vs).set j (some (.int (i : Int)))) H Q)
    (hd : ∀ H, Evl.Ex H1 H → H D = some (.lst (IV us)) → Qd H) :
    ∃ W : Nat → Nat → Hp → Prop, (∃ m, W 0 m (upd H1 D (.lst []))) ∧ ∀ i m H, W i m H →
      ((Itr 0 n).stop i H ∧ Qd H) ∨ ((Itr 0 n).go i H ∧ ∃ Nx : Hp → Prop, (∀ H', Nx H' → ∃ m', m' < m ∧ W (i + 1) m' H') ∧ ∀ x H', (Itr 0 n).yld i H x H' →
        gName j x (wipe σ vs) H' fun σ2 H2 => wipe σ2 vs = wipe σ vs ∧ tYes σ2 H2 fun b H3 =>
        if b = true then te σ2 H3 fun y H4 => ∃ acc, H4 D = some (.lst acc) ∧ acc.length < sizeLine ∧ Nx (upd H4 D (.lst (acc ++ [y]))) else Nx H3) := by
  refine lc_range (lo := 0) (n := n) (fun i H' => Evl.Ex H1 H' ∧ i ≤ n ∧ H' D = some (.lst (IV (us.take i)))) ⟨Evl.Ex.new hD, Nat.zero_le _, upd_same⟩ ?_ ?_
  · rintro i H hi ⟨e1, hi2, h1⟩
    have e0 : (0 : Int) + (i : Int) = (i : Int) := Int.zero_add _
    rw [e0]
    refine ⟨hw _, ?_⟩
    obtain ⟨u, hu⟩ : ∃ u, us[i]? = some u := ⟨us[i]'(by omega), by simp [show i < us.length by omega]⟩
    show te _ H _
    refine hs i u H _ hu e1 fun H' e2 => ⟨_, e2 D _ h1, ?_, Evl.Ex.mut (e1.trans e2) hD, by omega, ?_⟩
    · rw [iv_len, List.length_take]
      exact Evl.sz_lt (by omega)
    · rw [upd_same, iv_snoc, take_snoc hu]
  · rintro H ⟨e1, _, h1⟩
    refine hd H e1 ?_
    rw [h1, ← hl, List.take_length]
/-- .. over a sequence -/
theorem lc_pureS {J : It} {G : Hp → Prop} {n j : Nat} {us : List Int} {xs : List V} {te : TE} {vs : List Nat} {σ : L2.St} {H1 : Hp} {D : Addr} {Qd : Hp → Prop} (wk : Walk J n G (YAt xs)) (hG : ∀ H, Evl.Ex H1 H → G H)
    (hl : us.length = n) (hz : n ≤ 60000) (hD : H1 D = none) (hw : ∀ x, wipe ((wipe σ vs).set j x) vs = wipe σ vs)
    (hs : ∀ (i : Nat) (x : V) (u : Int) (H : Hp) (Q : VK), xs[i]? = some x → us[i]? = some u → Evl.Ex H1 H → (∀ H' : Hp, Evl.Ex H H' → Q (.int u) H') → te ((wipe σ vs).set j (some x)) H Q)
    (hd : ∀ H, Evl.Ex H1 H → H D = some (.lst (IV us)) → Qd H) :
    ∃ W : Nat → Nat → Hp → Prop, (∃ m, W 0 m (upd H1 D (.lst []))) ∧ ∀ i m H, W i m H →
      (J.stop i H ∧ Qd H) ∨ (J.go i H ∧ ∃ Nx : Hp → Prop, (∀ H', Nx H' → ∃ m', m' < m ∧ W (i + 1) m' H') ∧ ∀ x H', J.yld i H x H' →
        gName j x (wipe σ vs) H' fun σ2 H2 => wipe σ2 vs = wipe σ vs ∧ tYes σ2 H2 fun b H3 =>
        if b = true then te σ2 H3 fun y H4 => ∃ acc, H4 D = some (.lst acc) ∧ acc.length < sizeLine ∧ Nx (upd H4 D (.lst (acc ++ [y]))) else Nx H3) := by
  refine lc_it wk (fun i H' => Evl.Ex H1 H' ∧ i ≤ n ∧ H' D = some (.lst (IV (us.take i)))) ⟨Evl.Ex.new hD, Nat.zero_le _, upd_same⟩ (fun i H _ h => hG H h.1) ?_ ?_
  · rintro i x H H' hi ⟨e1, hi2, h1⟩ ⟨rfl, hx⟩
    refine ⟨hw _, ?_⟩
    obtain ⟨u, hu⟩ : ∃ u, us[i]? = some u := ⟨us[i]'(by omega), by simp [show i < us.length by omega]⟩
    show te _ H' _
    refine hs i x u H' _ hx hu e1 fun H'' e2 => ⟨_, e2 D _ h1, ?_, Evl.Ex.mut (e1.trans e2) hD, by omega, ?_⟩
    · rw [iv_len, List.length_take]
      exact Evl.sz_lt (by omega)
    · rw [upd_same, iv_snoc, take_snoc hu]
  · rintro H ⟨e1, _, h1⟩
    refine hd H e1 ?_
    rw [h1, ← hl, List.take_length]
end VB
/-! data of ints: what stands, what repr shows, what == says -/
namespace VB
open PySem PySem.Spec PyProof.Rows L2
abbrev DL (ns : List Int) : PyData := .list (ns.map .int)
abbrev DT (ns : List Int) : PyData := .tuple (ns.map .int)
section
variable {K : PySem.W.Frag} {H H' : Hp} {a : Addr} {ns : List Int} {t : Bool}
theorem dpAll_ints : ∀ ns : List Int, DpAll K H (IV ns) (ns.map .int)
  | [] => .nil
  | n :: ns => .cons (.int n) (dpAll_ints ns)
theorem dp_l (h : SqL K H a (IV ns)) : Dp K H (.ref a) (DL ns) := .lst h (dpAll_ints ns)
theorem dp_t (h : SqT K H a (IV ns)) : Dp K H (.ref a) (DT ns) := .tup h (dpAll_ints ns)
end
/-- what can be shown, its depth and its text's length bounded -/
structure Sh (d : PyData) (h b : Nat) : Prop where
  ok : d.showable = true
  dep : d.depth ≤ h
  len : d.shown.length ≤ b
theorem Sh.le {d : PyData} {h b h' b' : Nat} (s : Sh d h b) (h1 : h ≤ h' := by omega) (h2 : b ≤ b' := by omega) : Sh d h' b' :=
  ⟨s.ok, Nat.le_trans s.dep h1, Nat.le_trans s.len h2⟩
theorem pow2_lt : ∀ n : Nat, n < 2 ^ n
  | 0 => by decide
  | n + 1 => by
    have := pow2_lt n
    rw [Nat.pow_succ]
    omega
theorem log2_le_self (n : Nat) : n.log2 ≤ n := by
  by_cases h : n = 0
  · subst h
    decide
  · have q := Nat.log2_self_le h
    have p := pow2_lt n.log2
    omega
theorem sh_int {n : Int} (h : 0 ≤ n ∧ n < 10000 ∧ n.natAbs.log2 < 1920) : Sh (.int n) 0 4 := by
  refine ⟨by simp only [PyData.showable, decide_eq_true_eq]; exact h.2.2, by simp only [PyData.depth]; exact Nat.le_refl _, ?_⟩
  rw [PyData.shown_int]
  exact toString_length_le h.1 (by decide) (by omega)
theorem log_small {n : Int} (h : 0 ≤ n) (h2 : n < 10000) : n.natAbs.log2 < 1920 := by
  by_cases z : n.natAbs = 0
  · rw [z]
    decide
  · have q := Nat.log2_lt z (k := 1920)
    refine q.mpr (Nat.lt_of_lt_of_le (m := 2 ^ 14) (by omega) (Nat.pow_le_pow_right (by decide) (by decide)))
theorem piled_le {b : Nat} : ∀ ts : List Str, (∀ t ∈ ts, t.length ≤ b) → piled ts ≤ (b + 2) * ts.length
  | [], _ => Nat.zero_le _
  | t :: ts, h => by
    have a := h t (List.mem_cons_self ..)
    have c := piled_le ts fun u hu => h u (List.mem_cons_of_mem _ hu)
    rw [piled_cons, List.length_cons, Nat.mul_succ]
    omega
theorem join_le {b : Nat} (ts : List Str) (h : ∀ t ∈ ts, t.length ≤ b) : (Str.join ", " ts).length ≤ (b + 2) * ts.length := by
  by_cases z : ts = []
  · subst z
    exact Nat.zero_le _
  · have j := join_length_add ts z
    have p := piled_le ts h
    omega
theorem mem_shown {x : Str} : ∀ {ds : List PyData}, x ∈ PyData.shownAll ds → ∃ d ∈ ds, x = d.shown
  | [], h => by
    rw [PyData.shownAll_nil] at h
    cases h
  | d :: ds, h => by
    rw [PyData.shownAll_cons] at h
    cases h with
    | head => exact ⟨d, List.mem_cons_self .., rfl⟩
    | tail _ h =>
      obtain ⟨e, he, q⟩ := mem_shown h
      exact ⟨e, List.mem_cons_of_mem _ he, q⟩
theorem depAll {h : Nat} : ∀ {ds : List PyData}, (∀ d ∈ ds, d.depth ≤ h) → PyData.depthAll ds ≤ h
  | [], _ => by simp only [PyData.depthAll]; exact Nat.zero_le _
  | d :: ds, q => by
    simp only [PyData.depthAll]
    exact Nat.max_le.mpr ⟨q d (List.mem_cons_self ..), depAll fun e he => q e (List.mem_cons_of_mem _ he)⟩
theorem str_app (a b : Str) : (a ++ b).length = a.length + b.length := by
  exact strLen_append a b
theorem sh_list {ds : List PyData} {h b n : Nat} (q : ∀ d ∈ ds, Sh d h b) (hn : ds.length ≤ n) : Sh (.list ds) (h + 1) ((b + 2) * n + 4) := by
  refine ⟨?_, ?_, ?_⟩
  · simp only [PyData.showable]
    exact PySem.Spec.showableAll_of fun d hd => (q d hd).ok
  · simp only [PyData.depth]
    exact Nat.succ_le_succ (depAll fun d hd => (q d hd).dep)
  · rw [PyData.shown_list, str_app, str_app]
    have j := join_le (b := b) (PyData.shownAll ds) (by
      intro t ht
      obtain ⟨d, hd, rfl⟩ := mem_shown ht
      exact (q d hd).len)
    rw [PyData.shownAll_length] at j
    have l1 : ("[" : Str).length = 1 := by decide
    have l2 : ("]" : Str).length = 1 := by decide
    have m : (b + 2) * ds.length ≤ (b + 2) * n := Nat.mul_le_mul_left _ hn
    omega
theorem sh_tup {ds : List PyData} {h b n : Nat} (q : ∀ d ∈ ds, Sh d h b) (hn : ds.length ≤ n) : Sh (.tuple ds) (h + 1) ((b + 2) * n + 4) := by
  refine ⟨?_, ?_, ?_⟩
  · simp only [PyData.showable]
    exact PySem.Spec.showableAll_of fun d hd => (q d hd).ok
  · simp only [PyData.depth]
    exact Nat.succ_le_succ (depAll fun d hd => (q d hd).dep)
  · rw [PyData.shown_tuple, str_app, str_app]
    have j := join_le (b := b) (PyData.shownAll ds) (by
      intro t ht
      obtain ⟨d, hd, rfl⟩ := mem_shown ht
      exact (q d hd).len)
    rw [PyData.shownAll_length] at j
    have l1 : ("(" : Str).length = 1 := by decide
    have l2 : (if ds.length == 1 then ",)" else ")" : Str).length ≤ 2 := by
      split <;> decide
    have m : (b + 2) * ds.length ≤ (b + 2) * n := Nat.mul_le_mul_left _ hn
    have l3 : (Str.ofString (if ds.length == 1 then ",)" else ")" : String)).length ≤ 2 := by
      split <;> decide
    omega
/-- ints below 10000 -/
def Sm (ns : List Int) : Prop := ∀ n ∈ ns, 0 ≤ n ∧ n < 10000
theorem sm_ds {ns : List Int} (h : Sm ns) : ∀ d ∈ ns.map PyData.int, Sh d 0 4 := by
  intro d hd
  obtain ⟨n, hn, rfl⟩ := List.mem_map.mp hd
  have := h n hn
  exact sh_int ⟨this.1, this.2, log_small this.1 this.2⟩
theorem sh_l {ns : List Int} (h : Sm ns) (hl : ns.length ≤ 6000) : Sh (DL ns) 1 40000 := (sh_list (sm_ds h) (n := 6000) (by simpa using hl)).le
theorem sh_t {ns : List Int} (h : Sm ns) (hl : ns.length ≤ 6000) : Sh (DT ns) 1 40000 := (sh_tup (sm_ds h) (n := 6000) (by simpa using hl)).le
section
variable {K : PySem.W.Frag} {H : Hp} {a b : Addr} {ns ms : List Int} {Q : VK}
theorem rp {d : PyData} {h n : Nat} (e : Dp K H (.ref a) d) (s : Sh d h n) (q : Q (.str d.shown) H) (hh : h ≤ 60 := by decide) (hn : n ≤ 1000000 := by omega) : rRepr K [.ref a] H Q := by
  unfold rRepr
  exact ⟨a, d, rfl, e, s.ok, Nat.le_trans s.dep hh, Nat.le_trans (Nat.le_trans s.len hn) (by decide), q⟩
theorem rp_l (e : SqL K H a (IV ns)) (h : Sm ns) (hl : ns.length ≤ 6000) (q : Q (.str (DL ns).shown) H) : rRepr K [.ref a] H Q := rp (dp_l e) (sh_l h hl) q
theorem rp_t (e : SqT K H a (IV ns)) (h : Sm ns) (hl : ns.length ≤ 6000) (q : Q (.str (DT ns).shown) H) : rRepr K [.ref a] H Q := rp (dp_t e) (sh_t h hl) q
theorem eqvAll_ints : ∀ xs ys : List Int, PyData.eqvAll (xs.map .int) (ys.map .int) = decide (xs = ys)
  | [], [] => by simp [PyData.eqvAll]
  | [], _ :: _ => by simp [PyData.eqvAll]
  | _ :: _, [] => by simp [PyData.eqvAll]
  | x :: xs, y :: ys => by
    simp only [List.map_cons, PyData.eqvAll, PyData.eqv, eqvAll_ints xs ys]
    by_cases h : x = y <;> by_cases h2 : xs = ys <;> simp [h, h2]
theorem canAll : ∀ ns : List Int, PyData.canLayAll0 (ns.map .int) = true
  | [] => by simp [PyData.canLayAll0]
  | n :: ns => by simp [PyData.canLayAll0, PyData.canLay0, canAll ns]
theorem depInts : ∀ ns : List Int, PyData.depthAll (ns.map .int) = 0
  | [] => by simp [PyData.depthAll]
  | n :: ns => by simp [PyData.depthAll, PyData.depth, depInts ns]
theorem shp_l (ns : List Int) : SeqAt.shaped (DL ns) = true := by simp [SeqAt.shaped, PyData.canLay0, PyData.depth, canAll, depInts]
theorem shp_t (ns : List Int) : SeqAt.shaped (DT ns) = true := by simp [SeqAt.shaped, PyData.canLay0, PyData.depth, canAll, depInts]
theorem req_l (e : SqL K H a (IV ns)) (e' : SqL K H b (IV ms)) (q : Q (.bl (decide (ns = ms))) H) : rEqD K (.ref a) (.ref b) H Q := by
  refine ⟨DL ns, DL ms, dp_l e, dp_l e', shp_l _, shp_l _, ?_⟩
  rw [show PyData.eqv (DL ns) (DL ms) = decide (ns = ms) by simp only [DL, PyData.eqv]; exact eqvAll_ints ns ms]
  exact q
theorem req_t (e : SqT K H a (IV ns)) (e' : SqT K H b (IV ms)) (q : Q (.bl (decide (ns = ms))) H) : rEqD K (.ref a) (.ref b) H Q := by
  refine ⟨DT ns, DT ms, dp_t e, dp_t e', shp_t _, shp_t _, ?_⟩
  rw [show PyData.eqv (DT ns) (DT ms) = decide (ns = ms) by simp only [DT, PyData.eqv]; exact eqvAll_ints ns ms]
  exact q
theorem rne_l (e : SqL K H a (IV ns)) (e' : SqL K H b (IV ms)) (q : Q (.bl (!decide (ns = ms))) H) : rNeD K (.ref a) (.ref b) H Q := by
  refine ⟨DL ns, DL ms, dp_l e, dp_l e', shp_l _, shp_l _, ?_⟩
  rw [show PyData.eqv (DL ns) (DL ms) = decide (ns = ms) by simp only [DL, PyData.eqv]; exact eqvAll_ints ns ms]
  exact q
end
end VB
/-! a tuple once is the tuple -/
namespace VB
open PySem PySem.Spec PyProof.Rows L2
theorem tuple_mul1 (l : Addr) (items : Array Value) (n : Nat) (dd : Option Addr) (sl : Array (Option Value)) (x : Int) (u : Tok) (c0 : (decide (x < -(2 ^ 63)) || decide (x ≥ 2 ^ 63)) = false) (c1 : (items.isEmpty || x == 1) = true) :
    Meets (Builtin.«tuple.__mul__» ⟨[.ref l, .int x u], []⟩) (fun _ R s => s.heap.get? l = some { cls := .type "tuple", dict := dd, data := .seq items n, slots := sl } ∧
      R (.ok (.ret (.ref l))) s) :=
  .of_wp fun prog w A R s h => by
    obtain ⟨hp, g, d, tk, os⟩ := s
    obtain ⟨hl, h⟩ := h
    have f1 := AutoSeq1.idx_int
    wp_walk using wpAny_loadPart' hl
    repeat (first
      | (refine wpAny_ite_false (decide_eq_false (by rw [c0]; exact Bool.false_ne_true)) ?_; wp_walk using wpAny_loadPart' hl)
      | (refine wpAny_ite_true (decide_eq_true c1) ?_; wp_walk using wpAny_loadPart' hl))
    exact ⟨_, rfl, h⟩
def rRepT1 (K : PySem.W.Frag) : R2 := fun x y H Q => ∃ l xs, x = .ref l ∧ y = .int 1 ∧ SqT K H l xs ∧ Q (.ref l) H
section
variable {X : Cx} {K : PySem.W.Frag}
theorem op_repT1 : OpR X (binaryOp .Mult) (rRepT1 X.K) := by
  intro pins s σ H x y v u Q I rx ry h
  obtain ⟨l, xs, rfl, rfl, hT, q⟩ := h
  cases rx
  obtain ⟨t, rfl⟩ := ry
  obtain ⟨its, r, ⟨⟨cls, dd, data, sl⟩, ho, hc, n, hd⟩, hs⟩ := I.tuple hT
  simp only at hc hd
  subst hc hd
  have c0 : (decide ((1 : Int) < -(2 ^ 63)) || decide ((1 : Int) ≥ 2 ^ 63)) = false := by decide
  have c1 : (its.toArray.isEmpty || (1 : Int) == 1) = true := by simp
  refine wpAny_binaryOp_repeat_ref (T := "tuple") (U := "int") (by decide) ⟨_, ho, rfl⟩ (fun s' => typeIs_int s' 1 t) noFill_tuple_mul F.fills_int_mul F.slot_int_rmul repeat_tuple F.slot_int_index.lookup
    (call_meets F.slot_int_rmul (typeIs_int s 1 t) F.entry_int_rmul (F.args_int_rmul_2 _ _) (int_rmul_tuple 1 t l its.toArray n dd sl)
      ⟨ho, rfl, ⟨_, ho, rfl⟩, call_meets F.slot_tuple_mul ⟨_, ho, rfl⟩ F.entry_tuple_mul (F.args_tuple_mul_2 _ _) (tuple_mul1 l its.toArray n dd sl 1 t c0 c1) ⟨ho, ?_⟩⟩)
  exact ⟨.ref l, H, I, rfl, q⟩
/-- +, * of this law: tuples once, too -/
@[irreducible] def rMulU1 (K : PySem.W.Frag) : R2 := fun x y H Q => rMulU K x y H Q ∨ rRepT1 K x y H Q
theorem u_mul1 (hK : X.K = K := by rfl) : OpR X (binaryOp .Mult) (rMulU1 K) := by
  subst hK
  unfold rMulU1
  exact (u_mul rfl).or op_repT1
end
end VB
/-! readings that are never unfolded -/
namespace VB
open PySem PySem.Spec PyProof.Rows L2
section
variable {X : Cx} {K : PySem.W.Frag}
@[irreducible] def rTupI (K : PySem.W.Frag) : List V → Hp → VK → Prop := rTupU K
@[irreducible] def rListI (K : PySem.W.Frag) : List V → Hp → VK → Prop := rListU K
theorem u_tupI (hK : X.K = K := by rfl) : CallR X (.type "tuple") (rTupI K) := by
  unfold rTupI
  exact u_tup hK
theorem u_listI (hK : X.K = K := by rfl) : CallR X (.type "list") (rListI K) := by
  unfold rListI
  exact u_list hK
@[irreducible] def tIfI (c : TT) (t u : TS) : TS := tIfS c t u
theorem ps_ifI {test : Expr} {body orelse : List Stmt} {pos : Pos} {c : TT} {t u : TS} (hc : PT X test c) (ht : PSs X body t) (hu : PSs X orelse u) : PS X (.If test body orelse pos) (tIfI c t u) := by
  unfold tIfI
  exact ps_if hc ht hu
end
end VB
/-! bits of octets: plain mathematics -/
namespace BM
def bitsOf (o : Int) : List Int := [o / 128 % 2, o / 64 % 2, o / 32 % 2, o / 16 % 2, o / 8 % 2, o / 4 % 2, o / 2 % 2, o / 1 % 2]
def bitsL (os : List Int) : List Int := os.flatMap bitsOf
def octOf (bs : List Int) : Int := bs.foldl (fun n b => 2 * n + b) 0
def octetsN : Nat → List Int → List Int
  | 0, _ => []
  | n + 1, bs => octOf (bs.take 8) :: octetsN n (bs.drop 8)
def octetsL (bs : List Int) : List Int := octetsN ((bs.length + 7) / 8) bs
def Oct (os : List Int) : Prop := ∀ o ∈ os, 0 ≤ o ∧ o ≤ 255
def Bit (bs : List Int) : Prop := ∀ b ∈ bs, b = 0 ∨ b = 1
/-- the indices at which the first is 1 and the second 0 -/
def fallenL : Int → List Int → List Int → List Int
  | k, a :: as, b :: bs => if a = 1 ∧ b = 0 then k :: fallenL (k + 1) as bs else fallenL (k + 1) as bs
  | _, _, _ => []
/-- what a mask leaves on the way -/
def turned : List Int → List Int → Int → List Int
  | a :: as, b :: bs, m => if a = b then a :: turned as bs m else (if m % 2 = 1 then b else a) :: turned as bs (m / 2)
  | _, _, _ => []
def unlike : List Int → List Int → Nat
  | a :: as, b :: bs => (if a = b then 0 else 1) + unlike as bs
  | _, _ => 0

theorem bitsOf_bit {o b : Int} (h : b ∈ bitsOf o) : b = 0 ∨ b = 1 := by
  simp only [bitsOf, List.mem_cons, List.not_mem_nil, or_false] at h
  omega
theorem bitsL_bit (os : List Int) : Bit (bitsL os) := by
  intro b h
  obtain ⟨o, _, ho⟩ := List.mem_flatMap.mp h
  exact bitsOf_bit ho
theorem bitsL_nil : bitsL [] = [] := rfl
theorem bitsL_cons (o : Int) (os : List Int) : bitsL (o :: os) = bitsOf o ++ bitsL os := by simp [bitsL]
theorem bitsOf_len (o : Int) : (bitsOf o).length = 8 := rfl
theorem bitsL_len : ∀ os : List Int, (bitsL os).length = 8 * os.length
  | [] => rfl
  | o :: os => by
    rw [bitsL_cons, List.length_append, bitsL_len os, bitsOf_len, List.length_cons]
    omega
theorem bitsL_append (a b : List Int) : bitsL (a ++ b) = bitsL a ++ bitsL b := by simp [bitsL]
theorem octOf_bitsOf {o : Int} (h : 0 ≤ o ∧ o ≤ 255) : octOf (bitsOf o) = o := by
  have key : ∀ n : Fin 256, octOf (bitsOf ((n : Nat) : Int)) = ((n : Nat) : Int) := by decide +kernel
  have e := key ⟨o.toNat, by omega⟩
  have e2 : ((o.toNat : Nat) : Int) = o := Int.toNat_of_nonneg h.1
  simp only [e2] at e
  exact e
theorem eight {bs : List Int} (h : 8 ≤ bs.length) : ∃ a b c d e f g i r, bs = a :: b :: c :: d :: e :: f :: g :: i :: r := by
  match bs, h with
  | a :: b :: c :: d :: e :: f :: g :: i :: r, _ => exact ⟨a, b, c, d, e, f, g, i, r, rfl⟩
theorem octOf8 (a b c d e f g i : Int) : octOf [a, b, c, d, e, f, g, i] = 128 * a + 64 * b + 32 * c + 16 * d + 8 * e + 4 * f + 2 * g + i := by
  simp only [octOf, List.foldl_cons, List.foldl_nil]
  omega
theorem bit_le {x : Int} (h : x = 0 ∨ x = 1) : 0 ≤ x ∧ x ≤ 1 := by omega
theorem bitsOf_octOf {a b c d e f g i : Int} (h : Bit [a, b, c, d, e, f, g, i]) : bitsOf (octOf [a, b, c, d, e, f, g, i]) = [a, b, c, d, e, f, g, i] := by
  obtain ⟨a0, a1⟩ := bit_le (h a (by simp))
  obtain ⟨b0, b1⟩ := bit_le (h b (by simp))
  obtain ⟨c0, c1⟩ := bit_le (h c (by simp))
  obtain ⟨d0, d1⟩ := bit_le (h d (by simp))
  obtain ⟨e0, e1⟩ := bit_le (h e (by simp))
  obtain ⟨f0, f1⟩ := bit_le (h f (by simp))
  obtain ⟨g0, g1⟩ := bit_le (h g (by simp))
  obtain ⟨i0, i1⟩ := bit_le (h i (by simp))
  clear h
  rw [octOf8]
  simp only [bitsOf, List.cons.injEq, and_true]
  refine ⟨?_, ?_, ?_, ?_, ?_, ?_, ?_, ?_⟩ <;> omega
theorem octOf_range {a b c d e f g i : Int} (h : Bit [a, b, c, d, e, f, g, i]) : 0 ≤ octOf [a, b, c, d, e, f, g, i] ∧ octOf [a, b, c, d, e, f, g, i] ≤ 255 := by
  have ha := h a (by simp)
  have hb := h b (by simp)
  have hc := h c (by simp)
  have hd := h d (by simp)
  have he := h e (by simp)
  have hf := h f (by simp)
  have hg := h g (by simp)
  have hi := h i (by simp)
  rw [octOf8]
  omega
theorem Bit.split8 {a b c d e f g i : Int} {r : List Int} (h : Bit (a :: b :: c :: d :: e :: f :: g :: i :: r)) : Bit [a, b, c, d, e, f, g, i] ∧ Bit r := by
  constructor
  · intro x hx
    refine h x ?_
    simp only [List.mem_cons, List.not_mem_nil, or_false] at hx
    simp only [List.mem_cons]
    rcases hx with q | q | q | q | q | q | q | q <;> simp [q]
  · intro x hx
    exact h x (by simp [hx])
/-- bits of octets of bits -/
theorem octetsN_spec : ∀ (n : Nat) (bs : List Int), bs.length = 8 * n → Bit bs → bitsL (octetsN n bs) = bs ∧ Oct (octetsN n bs) ∧ (octetsN n bs).length = n
  | 0, bs, hl, _ => by
    have e : bs = [] := List.eq_nil_of_length_eq_zero (by omega)
    subst e
    exact ⟨rfl, fun _ h => (by cases h), rfl⟩
  | n + 1, bs, hl, hb => by
    obtain ⟨a, b, c, d, e, f, g, i, r, rfl⟩ := eight (bs := bs) (by omega)
    obtain ⟨h1, h2⟩ := hb.split8
    have hr : r.length = 8 * n := by
      simp only [List.length_cons] at hl
      omega
    obtain ⟨i1, i2, i3⟩ := octetsN_spec n r hr h2
    refine ⟨?_, ?_, ?_⟩
    · show bitsL (octOf [a, b, c, d, e, f, g, i] :: octetsN n r) = _
      rw [bitsL_cons, bitsOf_octOf h1, i1]
      rfl
    · intro o ho
      rcases List.mem_cons.mp ho with q | q
      · rw [q]
        exact octOf_range h1
      · exact i2 o q
    · show (octetsN n r).length + 1 = n + 1
      rw [i3]
theorem octetsL_spec {bs : List Int} {n : Nat} (hl : bs.length = 8 * n) (hb : Bit bs) : bitsL (octetsL bs) = bs ∧ Oct (octetsL bs) ∧ (octetsL bs).length = n := by
  have e : (bs.length + 7) / 8 = n := by omega
  unfold octetsL
  rw [e]
  exact octetsN_spec n bs hl hb
theorem octetsL_bitsL : ∀ {os : List Int}, Oct os → octetsL (bitsL os) = os := by
  intro os
  induction os with
  | nil => intro _; rfl
  | cons o os ih =>
    intro h
    have h1 := h o List.mem_cons_self
    have h2 : Oct os := fun x hx => h x (List.mem_cons_of_mem _ hx)
    have i := ih h2
    have l := bitsL_len os
    have l2 := bitsL_len (o :: os)
    unfold octetsL at i ⊢
    have e1 : ((bitsL os).length + 7) / 8 = os.length := by omega
    have e2 : ((bitsL (o :: os)).length + 7) / 8 = os.length + 1 := by
      rw [l2, List.length_cons]
      omega
    rw [e1] at i
    rw [e2, bitsL_cons]
    show octOf ((bitsOf o ++ bitsL os).take 8) :: octetsN os.length ((bitsOf o ++ bitsL os).drop 8) = _
    have t : (bitsOf o ++ bitsL os).take 8 = bitsOf o := by rw [List.take_append_of_le_length (by rw [bitsOf_len]; omega)]; rfl
    have d : (bitsOf o ++ bitsL os).drop 8 = bitsL os := rfl
    rw [t, d, octOf_bitsOf h1, i]
theorem turned_len : ∀ (as bs : List Int) (m : Int), as.length = bs.length → (turned as bs m).length = as.length
  | [], [], _, _ => rfl
  | a :: as, b :: bs, m, h => by
    unfold turned
    have h' : as.length = bs.length := by simpa using h
    split
    · rw [List.length_cons, turned_len as bs m h', List.length_cons]
    · rw [List.length_cons, turned_len as bs _ h', List.length_cons]
  | [], _ :: _, _, h => by simp at h
  | _ :: _, [], _, h => by simp at h
theorem turned_bit : ∀ (as bs : List Int) (m : Int), Bit as → Bit bs → Bit (turned as bs m)
  | [], _, _, _, _ => by
    unfold turned
    intro x h
    cases h
  | _ :: _, [], _, _, _ => by
    unfold turned
    intro x h
    cases h
  | a :: as, b :: bs, m, ha, hb => by
    have h1 := ha a List.mem_cons_self
    have h2 := hb b List.mem_cons_self
    have h3 : Bit as := fun x hx => ha x (List.mem_cons_of_mem _ hx)
    have h4 : Bit bs := fun x hx => hb x (List.mem_cons_of_mem _ hx)
    unfold turned
    split
    · intro x hx
      rcases List.mem_cons.mp hx with q | q
      · rw [q]; exact h1
      · exact turned_bit as bs m h3 h4 x q
    · intro x hx
      rcases List.mem_cons.mp hx with q | q
      · rw [q]
        split
        · exact h2
        · exact h1
      · exact turned_bit as bs _ h3 h4 x q
/-- below at each place -/
def Le : List Int → List Int → Prop
  | a :: as, b :: bs => a ≤ b ∧ Le as bs
  | [], [] => True
  | _, _ => False
theorem Le.refl : ∀ as : List Int, Le as as
  | [] => True.intro
  | a :: as => ⟨Int.le_refl a, Le.refl as⟩
theorem Le.len : ∀ {as bs : List Int}, Le as bs → as.length = bs.length
  | [], [], _ => rfl
  | _ :: as, _ :: bs, h => by rw [List.length_cons, List.length_cons, Le.len h.2]
  | [], _ :: _, h => h.elim
  | _ :: _, [], h => h.elim
/-- where nothing rises from as to bs, what is left lies between -/
theorem turned_down : ∀ {as bs : List Int} (m : Int), Le bs as → Le bs (turned as bs m) ∧ Le (turned as bs m) as
  | [], [], _, _ => ⟨True.intro, True.intro⟩
  | a :: as, b :: bs, m, h => by
    have i1 := turned_down (as := as) (bs := bs) m h.2
    have i2 := turned_down (as := as) (bs := bs) (m / 2) h.2
    have h1 := h.1
    unfold turned
    split
    · rename_i e
      exact ⟨⟨by omega, i1.1⟩, ⟨Int.le_refl a, i1.2⟩⟩
    · refine ⟨⟨?_, i2.1⟩, ⟨?_, i2.2⟩⟩ <;> split <;> omega
  | [], _ :: _, _, h => h.elim
  | _ :: _, [], _, h => h.elim
theorem turned_up : ∀ {as bs : List Int} (m : Int), Le as bs → Le as (turned as bs m) ∧ Le (turned as bs m) bs
  | [], [], _, _ => ⟨True.intro, True.intro⟩
  | a :: as, b :: bs, m, h => by
    have i1 := turned_up (as := as) (bs := bs) m h.2
    have i2 := turned_up (as := as) (bs := bs) (m / 2) h.2
    have h1 := h.1
    unfold turned
    split
    · rename_i e
      exact ⟨⟨Int.le_refl a, i1.1⟩, ⟨by omega, i1.2⟩⟩
    · refine ⟨⟨?_, i2.1⟩, ⟨?_, i2.2⟩⟩ <;> split <;> omega
  | [], _ :: _, _, h => h.elim
  | _ :: _, [], _, h => h.elim
theorem Le.trans : ∀ {as bs cs : List Int}, Le as bs → Le bs cs → Le as cs
  | [], [], [], _, _ => True.intro
  | _ :: _, _ :: _, _ :: _, h, h' => ⟨Int.le_trans h.1 h'.1, h.2.trans h'.2⟩
  | [], _ :: _, _, h, _ => h.elim
  | _ :: _, [], _, h, _ => h.elim
  | [], [], _ :: _, _, h => h.elim
  | _ :: _, _ :: _, [], _, h => h.elim
/-- nothing falls upward -/
theorem fallen_none : ∀ {as bs : List Int} (k : Int), Le as bs → fallenL k as bs = []
  | [], [], _, _ => rfl
  | a :: as, b :: bs, k, h => by
    have h1 := h.1
    unfold fallenL
    rw [if_neg (by omega)]
    exact fallen_none _ h.2
  | [], _ :: _, _, h => h.elim
  | _ :: _, [], _, h => h.elim
def zc (bs : List Int) : Int := ((bs.count 0 : Nat) : Int)
theorem zc_nil : zc [] = 0 := rfl
theorem zc_cons (b : Int) (bs : List Int) : zc (b :: bs) = (if b = 0 then 1 else 0) + zc bs := by
  unfold zc
  rw [List.count_cons]
  by_cases h : b = 0
  · simp [h]
    omega
  · simp [h]
/-- more zeros below, as many only if equal -/
theorem zc_le : ∀ {as bs : List Int}, Bit as → Bit bs → Le as bs → zc bs ≤ zc as ∧ (zc bs = zc as → as = bs)
  | [], [], _, _, _ => ⟨Int.le_refl _, fun _ => rfl⟩
  | a :: as, b :: bs, ha, hb, h => by
    have h1 := ha a List.mem_cons_self
    have h2 := hb b List.mem_cons_self
    have h3 : Bit as := fun x hx => ha x (List.mem_cons_of_mem _ hx)
    have h4 : Bit bs := fun x hx => hb x (List.mem_cons_of_mem _ hx)
    have h5 := h.1
    obtain ⟨i1, i2⟩ := zc_le h3 h4 h.2
    rw [zc_cons, zc_cons]
    rcases h1 with rfl | rfl <;> rcases h2 with rfl | rfl
    · refine ⟨by simp; omega, fun e => ?_⟩
      rw [i2 (by simp at e; omega)]
    · refine ⟨by simp; omega, fun e => ?_⟩
      simp at e
      omega
    · omega
    · refine ⟨by simp; omega, fun e => ?_⟩
      rw [i2 (by simp at e; omega)]
  | [], _ :: _, _, _, h => h.elim
  | _ :: _, [], _, _, h => h.elim
/-- zeros: what falls more, what rises less -/
theorem zc_diff : ∀ (as bs : List Int) (k l : Int), Bit as → Bit bs → as.length = bs.length → zc bs = zc as + ((fallenL k as bs).length : Int) - ((fallenL l bs as).length : Int)
  | [], [], _, _, _, _, _ => rfl
  | a :: as, b :: bs, k, l, ha, hb, hl => by
    have h1 := ha a List.mem_cons_self
    have h2 := hb b List.mem_cons_self
    have h3 : Bit as := fun x hx => ha x (List.mem_cons_of_mem _ hx)
    have h4 : Bit bs := fun x hx => hb x (List.mem_cons_of_mem _ hx)
    have i := zc_diff as bs (k + 1) (l + 1) h3 h4 (by simpa using hl)
    unfold fallenL
    rw [zc_cons, zc_cons]
    rcases h1 with rfl | rfl <;> rcases h2 with rfl | rfl <;> simp <;> omega
  | [], _ :: _, _, _, _, _, hl => by simp at hl
  | _ :: _, [], _, _, _, _, hl => by simp at hl
/-- both sets empty: equal -/
theorem fallen_both : ∀ (as bs : List Int) (k l : Int), Bit as → Bit bs → as.length = bs.length → fallenL k as bs = [] → fallenL l bs as = [] → as = bs
  | [], [], _, _, _, _, _, _, _ => rfl
  | a :: as, b :: bs, k, l, ha, hb, hl, e1, e2 => by
    have h1 := ha a List.mem_cons_self
    have h2 := hb b List.mem_cons_self
    have h3 : Bit as := fun x hx => ha x (List.mem_cons_of_mem _ hx)
    have h4 : Bit bs := fun x hx => hb x (List.mem_cons_of_mem _ hx)
    unfold fallenL at e1 e2
    rcases h1 with rfl | rfl <;> rcases h2 with rfl | rfl
    · simp at e1 e2
      rw [fallen_both as bs _ _ h3 h4 (by simpa using hl) e1 e2]
    · simp at e2
    · simp at e1
    · simp at e1 e2
      rw [fallen_both as bs _ _ h3 h4 (by simpa using hl) e1 e2]
  | [], _ :: _, _, _, _, _, hl, _, _ => by simp at hl
  | _ :: _, [], _, _, _, _, hl, _, _ => by simp at hl
theorem fallen_self : ∀ (as : List Int) (k : Int), fallenL k as as = []
  | [], _ => rfl
  | a :: as, k => by
    unfold fallenL
    rw [if_neg (by omega)]
    exact fallen_self as _
theorem fallen_len : ∀ (as bs : List Int) (k : Int), (fallenL k as bs).length ≤ as.length
  | [], _, _ => by simp [fallenL]
  | _ :: _, [], _ => by simp [fallenL]
  | a :: as, b :: bs, k => by
    unfold fallenL
    have i := fallen_len as bs (k + 1)
    split <;> simp only [List.length_cons] <;> omega
/-- the mask of no bit, and one that reaches beyond all -/
theorem turned_zero : ∀ (as bs : List Int), as.length = bs.length → turned as bs 0 = as
  | [], [], _ => rfl
  | a :: as, b :: bs, h => by
    have h' : as.length = bs.length := by simpa using h
    unfold turned
    split
    · rw [turned_zero as bs h']
    · have e : (0 : Int) / 2 = 0 := rfl
      rw [if_neg (by decide), e, turned_zero as bs h']
  | [], _ :: _, h => by simp at h
  | _ :: _, [], h => by simp at h
theorem unlike_eq : ∀ (as bs : List Int) (k l : Int), Bit as → Bit bs → as.length = bs.length → unlike as bs = (fallenL k as bs).length + (fallenL l bs as).length
  | [], [], _, _, _, _, _ => rfl
  | a :: as, b :: bs, k, l, ha, hb, hl => by
    have h1 := ha a List.mem_cons_self
    have h2 := hb b List.mem_cons_self
    have h3 : Bit as := fun x hx => ha x (List.mem_cons_of_mem _ hx)
    have h4 : Bit bs := fun x hx => hb x (List.mem_cons_of_mem _ hx)
    have i := unlike_eq as bs (k + 1) (l + 1) h3 h4 (by simpa using hl)
    unfold fallenL unlike
    rcases h1 with rfl | rfl <;> rcases h2 with rfl | rfl <;> simp <;> omega
  | [], _ :: _, _, _, _, _, hl => by simp at hl
  | _ :: _, [], _, _, _, _, hl => by simp at hl
theorem pow2_odd (n : Nat) : ((2 : Int) ^ (n + 1) - 1) % 2 = 1 ∧ ((2 : Int) ^ (n + 1) - 1) / 2 = 2 ^ n - 1 := by
  have e : (2 : Int) ^ (n + 1) = 2 * 2 ^ n := by rw [Int.pow_succ]; omega
  omega
/-- all ones up to the last unlike bit: the new ones -/
theorem turned_ones : ∀ (as bs : List Int) (n : Nat), as.length = bs.length → unlike as bs ≤ n → turned as bs (2 ^ n - 1) = bs
  | [], [], _, _, _ => rfl
  | a :: as, b :: bs, n, h, hu => by
    have h' : as.length = bs.length := by simpa using h
    unfold unlike at hu
    unfold turned
    split
    · rename_i e
      rw [if_pos e] at hu
      rw [turned_ones as bs n h' (by omega), e]
    · rename_i e
      rw [if_neg e] at hu
      obtain ⟨k, rfl⟩ : ∃ k, n = k + 1 := ⟨n - 1, by omega⟩
      obtain ⟨o1, o2⟩ := pow2_odd k
      rw [if_pos o1, o2, turned_ones as bs k h' (by omega)]
  | [], _ :: _, _, h, _ => by simp at h
  | _ :: _, [], _, h, _ => by simp at h
/-- a mask whose first n bits are 0, where at most n bits are unlike: nothing turns -/
theorem turned_beyond : ∀ (as bs : List Int) (n : Nat), as.length = bs.length → unlike as bs ≤ n → turned as bs (2 ^ n) = as
  | [], [], _, _, _ => rfl
  | a :: as, b :: bs, n, h, hu => by
    have h' : as.length = bs.length := by simpa using h
    unfold unlike at hu
    unfold turned
    split
    · rename_i e
      rw [if_pos e] at hu
      rw [turned_beyond as bs n h' (by omega)]
    · rename_i e
      rw [if_neg e] at hu
      obtain ⟨k, rfl⟩ : ∃ k, n = k + 1 := ⟨n - 1, by omega⟩
      have e1 : (2 : Int) ^ (k + 1) = 2 * 2 ^ k := by rw [Int.pow_succ]; omega
      have e2 : ((2 : Int) ^ (k + 1)) % 2 = 0 := by omega
      have e3 : ((2 : Int) ^ (k + 1)) / 2 = 2 ^ k := by omega
      rw [if_neg (by omega), e3, turned_beyond as bs k h' (by omega)]
  | [], _ :: _, _, h, _ => by simp at h
  | _ :: _, [], _, h, _ => by simp at h
/-- 4096 ones: the first 4096 unlike bits turn, the others stay -/
theorem turned_first : ∀ (n m : Nat), turned (List.replicate (n + m) 1) (List.replicate (n + m) 0) (2 ^ n - 1) = List.replicate n 0 ++ List.replicate m 1
  | 0, m => by
    have e : ((2 : Int) ^ 0 - 1) = 0 := rfl
    rw [e, Nat.zero_add, turned_zero _ _ (by simp)]
    simp
  | n + 1, m => by
    have e : n + 1 + m = (n + m) + 1 := by omega
    rw [e, List.replicate_succ, List.replicate_succ, List.replicate_succ]
    unfold turned
    obtain ⟨o1, o2⟩ := pow2_odd n
    rw [if_neg (by decide), if_pos o1, o2, turned_first n m]
    rfl
theorem fold_bound : ∀ (l : List Int) (n : Int), Bit l → 0 ≤ n → 0 ≤ l.foldl (fun n b => 2 * n + b) n ∧ l.foldl (fun n b => 2 * n + b) n + 1 ≤ (n + 1) * 2 ^ l.length
  | [], n, _, h => by simp [h]
  | b :: l, n, hb, h => by
    have h1 := hb b List.mem_cons_self
    have h2 : Bit l := fun x hx => hb x (List.mem_cons_of_mem _ hx)
    obtain ⟨i1, i2⟩ := fold_bound l (2 * n + b) h2 (by omega)
    refine ⟨i1, ?_⟩
    rw [List.foldl_cons, List.length_cons, Int.pow_succ]
    have p : (0 : Int) ≤ 2 ^ l.length := Int.pow_nonneg (by decide)
    have m : (2 * n + b + 1) * 2 ^ l.length ≤ (2 * (n + 1)) * 2 ^ l.length := Int.mul_le_mul_of_nonneg_right (by omega) p
    have e : (2 * (n + 1)) * 2 ^ l.length = (n + 1) * (2 ^ l.length * 2) := by
      rw [Int.mul_comm 2 (n + 1), Int.mul_assoc, Int.mul_comm 2]
    omega
theorem octOf_bound {l : List Int} (h : Bit l) (hl : l.length ≤ 8) : 0 ≤ octOf l ∧ octOf l < 256 := by
  obtain ⟨h1, h2⟩ := fold_bound l 0 h (Int.le_refl 0)
  have p : (2 : Int) ^ l.length ≤ 2 ^ 8 := by
    have q : (2 : Nat) ^ l.length ≤ 2 ^ 8 := Nat.pow_le_pow_right (by decide) hl
    exact_mod_cast q
  have e : (2 : Int) ^ 8 = 256 := rfl
  unfold octOf
  omega
theorem Bit.take {l : List Int} (h : Bit l) (n : Nat) : Bit (l.take n) := fun x hx => h x (List.mem_of_mem_take hx)
theorem Bit.drop {l : List Int} (h : Bit l) (n : Nat) : Bit (l.drop n) := fun x hx => h x (List.mem_of_mem_drop hx)
end BM
/-! bits of octets and the operators on bits -/
namespace BM
/-- bit k of a number, as an int -/
def tb (n k : Nat) : Int := if n.testBit k then 1 else 0
theorem tb_div (n k : Nat) : ((n : Int) / ((2 ^ k : Nat) : Int)) % 2 = tb n k := by
  unfold tb
  rw [Nat.testBit_eq_decide_div_mod_eq]
  have e : ((n : Int) / ((2 ^ k : Nat) : Int)) % 2 = ((n / 2 ^ k % 2 : Nat) : Int) := by simp
  rw [e]
  by_cases h : n / 2 ^ k % 2 = 1
  · rw [h]
    simp
  · have h0 : n / 2 ^ k % 2 = 0 := by omega
    rw [h0]
    simp
theorem bitsOf_tb (n : Nat) : bitsOf (n : Int) = [tb n 7, tb n 6, tb n 5, tb n 4, tb n 3, tb n 2, tb n 1, tb n 0] := by
  have h7 := tb_div n 7
  have h6 := tb_div n 6
  have h5 := tb_div n 5
  have h4 := tb_div n 4
  have h3 := tb_div n 3
  have h2 := tb_div n 2
  have h1 := tb_div n 1
  have h0 := tb_div n 0
  unfold bitsOf
  rw [← h7, ← h6, ← h5, ← h4, ← h3, ← h2, ← h1, ← h0]
  rfl
theorem tb_bit (n k : Nat) : tb n k = 0 ∨ tb n k = 1 := by
  unfold tb
  split
  · exact .inr rfl
  · exact .inl rfl
theorem tb_and (a b k : Nat) : tb (a &&& b) k = if tb a k = 1 ∧ tb b k = 1 then 1 else 0 := by
  unfold tb
  rw [Nat.testBit_and]
  cases a.testBit k <;> cases b.testBit k <;> simp
theorem tb_or (a b k : Nat) : tb (a ||| b) k = if tb a k = 1 ∨ tb b k = 1 then 1 else 0 := by
  unfold tb
  rw [Nat.testBit_or]
  cases a.testBit k <;> cases b.testBit k <;> simp
theorem tb_xor (a b k : Nat) : tb (a ^^^ b) k = if tb a k = tb b k then 0 else 1 := by
  unfold tb
  rw [Nat.testBit_xor]
  cases a.testBit k <;> cases b.testBit k <;> simp
theorem le_app : ∀ {a b c d : List Int}, Le a b → Le c d → Le (a ++ c) (b ++ d)
  | [], [], _, _, _, h => h
  | _ :: _, _ :: _, _, _, h, h' => ⟨h.1, le_app h.2 h'⟩
  | [], _ :: _, _, _, h, _ => h.elim
  | _ :: _, [], _, _, h, _ => h.elim
theorem and_le (a b : Nat) : Le (bitsOf ((a &&& b : Nat) : Int)) (bitsOf (a : Int)) := by
  have key : ∀ k, tb (a &&& b) k ≤ tb a k := by
    intro k
    rw [tb_and]
    have := tb_bit a k
    split <;> omega
  rw [bitsOf_tb, bitsOf_tb]
  exact ⟨key 7, key 6, key 5, key 4, key 3, key 2, key 1, key 0, True.intro⟩
theorem le_or (a b : Nat) : Le (bitsOf (a : Int)) (bitsOf ((a ||| b : Nat) : Int)) := by
  have key : ∀ k, tb a k ≤ tb (a ||| b) k := by
    intro k
    rw [tb_or]
    have := tb_bit a k
    split <;> omega
  rw [bitsOf_tb, bitsOf_tb]
  exact ⟨key 7, key 6, key 5, key 4, key 3, key 2, key 1, key 0, True.intro⟩
theorem bits255 : bitsOf 255 = [1, 1, 1, 1, 1, 1, 1, 1] := by decide
theorem le_255 (o : Int) : Le (bitsOf o) (bitsOf 255) := by
  have key : ∀ b ∈ bitsOf o, b ≤ 1 := fun b hb => by
    have := bitsOf_bit hb
    omega
  rw [bits255]
  unfold bitsOf at key ⊢
  exact ⟨key _ (by simp), key _ (by simp), key _ (by simp), key _ (by simp), key _ (by simp), key _ (by simp), key _ (by simp), key _ (by simp), True.intro⟩
/-- lists of octets, pair by pair -/
theorem bitsL_le : ∀ {xs ys : List Int}, xs.length = ys.length → (∀ p ∈ xs.zip ys, Le (bitsOf p.1) (bitsOf p.2)) → Le (bitsL xs) (bitsL ys)
  | [], [], _, _ => True.intro
  | x :: xs, y :: ys, hl, h => by
    rw [bitsL_cons, bitsL_cons]
    exact le_app (h (x, y) (by simp)) (bitsL_le (by simpa using hl) fun p hp => h p (by simp [hp]))
  | [], _ :: _, hl, _ => by simp at hl
  | _ :: _, [], hl, _ => by simp at hl
theorem nat_of {o : Int} (h : 0 ≤ o) : ∃ n : Nat, o = n := ⟨o.toNat, by omega⟩
theorem and_oct {a b : Nat} (ha : a ≤ 255) : (a &&& b) ≤ 255 := Nat.le_trans Nat.and_le_left ha
theorem or_oct {a b : Nat} (ha : a ≤ 255) (hb : b ≤ 255) : (a ||| b) ≤ 255 := by
  have h : (a ||| b) < 2 ^ 8 := Nat.or_lt_two_pow (by omega) (by omega)
  omega
theorem xor_oct {a b : Nat} (ha : a ≤ 255) (hb : b ≤ 255) : (a ^^^ b) ≤ 255 := by
  have h : (a ^^^ b) < 2 ^ 8 := Nat.xor_lt_two_pow (by omega) (by omega)
  omega
/-- one more bit -/
theorem fallen_snoc : ∀ (as bs : List Int) (k x y : Int), as.length = bs.length → fallenL k (as ++ [x]) (bs ++ [y]) = fallenL k as bs ++ (if x = 1 ∧ y = 0 then [k + (as.length : Int)] else [])
  | [], [], k, x, y, _ => by
    simp [fallenL]
  | a :: as, b :: bs, k, x, y, h => by
    have i := fallen_snoc as bs (k + 1) x y (by simpa using h)
    rw [List.cons_append, List.cons_append]
    unfold fallenL
    have e : k + 1 + (as.length : Int) = k + ((a :: as).length : Int) := by
      rw [List.length_cons]
      omega
    rw [e] at i
    split <;> simp [i]
  | [], _ :: _, _, _, _, h => by simp at h
  | _ :: _, [], _, _, _, h => by simp at h
end BM
/-! bits that are 1, bits that are unlike, one bit turned -/
namespace BM
/-- the indices of the ones, from k on -/
def onesL : Int → List Int → List Int
  | _, [] => []
  | k, b :: r => if b = 1 then k :: onesL (k + 1) r else onesL (k + 1) r
/-- the indices of the unlike ones -/
def diffL : Int → List Int → List Int → List Int
  | k, a :: as, b :: bs => if a = b then diffL (k + 1) as bs else k :: diffL (k + 1) as bs
  | _, _, _ => []
theorem onesL_app : ∀ (a b : List Int) (k : Int), onesL k (a ++ b) = onesL k a ++ onesL (k + (a.length : Int)) b
  | [], b, k => by simp [onesL]
  | x :: a, b, k => by
    have e : k + ((x :: a).length : Int) = k + 1 + (a.length : Int) := by simp; omega
    rw [List.cons_append, onesL, onesL, onesL_app a b (k + 1), e]
    split <;> simp
theorem onesL_snoc (a : List Int) (x : Int) : onesL 0 (a ++ [x]) = onesL 0 a ++ (if x = 1 then [(a.length : Int)] else []) := by
  rw [onesL_app]
  simp [onesL]
theorem onesL_len : ∀ (a : List Int) (k : Int), (onesL k a).length ≤ a.length
  | [], k => by simp [onesL]
  | x :: a, k => by
    have := onesL_len a (k + 1)
    rw [onesL]
    split <;> simp <;> omega
/-- of two bits -/
theorem ones_of {f : Int → Int → Int} (P : List Int → List Int → Int → List Int) (c : Int → Int → Prop) [∀ a b, Decidable (c a b)] (h0 : ∀ k, P [] [] k = []) (h1 : ∀ a as b bs k, P (a :: as) (b :: bs) k = if c a b then k :: P as bs (k + 1) else P as bs (k + 1))
    (h : ∀ a b, (a = 0 ∨ a = 1) → (b = 0 ∨ b = 1) → (f a b = 1 ↔ c a b)) : ∀ (as bs : List Int) (k : Int), as.length = bs.length → Bit as → Bit bs → onesL k (List.zipWith f as bs) = P as bs k
  | [], [], k, _, _, _ => by simp [onesL, h0]
  | [], _ :: _, k, e, _, _ => by simp at e
  | _ :: _, [], k, e, _, _ => by simp at e
  | a :: as, b :: bs, k, e, ha, hb => by
    have r := ones_of P c h0 h1 h as bs (k + 1) (by simpa using e) (fun x hx => ha x (List.mem_cons_of_mem _ hx)) (fun x hx => hb x (List.mem_cons_of_mem _ hx))
    have q := h a b (ha a (List.mem_cons_self ..)) (hb b (List.mem_cons_self ..))
    rw [List.zipWith_cons_cons, onesL, h1, r]
    by_cases z : c a b
    · rw [if_pos z, if_pos (q.mpr z)]
    · rw [if_neg z, if_neg (fun y => z (q.mp y))]
/-- the bits of two lists of octets, put together -/
theorem bitsL_both {g : Int → Int → Int} {f : Int → Int → Int} (h : ∀ x y, 0 ≤ x ∧ x ≤ 255 → 0 ≤ y ∧ y ≤ 255 → bitsOf (g x y) = List.zipWith f (bitsOf x) (bitsOf y)) :
    ∀ xs ys : List Int, Oct xs → Oct ys → bitsL ((xs.zip ys).map fun p => g p.1 p.2) = List.zipWith f (bitsL xs) (bitsL ys)
  | [], ys, _, _ => by simp [bitsL]
  | x :: xs, [], _, _ => by simp [bitsL]
  | x :: xs, y :: ys, hx, hy => by
    have r := bitsL_both h xs ys (fun o ho => hx o (List.mem_cons_of_mem _ ho)) (fun o ho => hy o (List.mem_cons_of_mem _ ho))
    have q := h x y (hx x (List.mem_cons_self ..)) (hy y (List.mem_cons_self ..))
    rw [List.zip_cons_cons, List.map_cons, bitsL_cons, bitsL_cons, bitsL_cons, r, q, List.zipWith_append (by rw [bitsOf_len, bitsOf_len])]
/-- where lists part -/
theorem diff_at : ∀ (as bs : List Int) (k p : Int) (rest : List Int), as.length = bs.length → diffL k as bs = p :: rest →
    ∃ (pre : List Int) (x y : Int) (as' bs' : List Int), as = pre ++ x :: as' ∧ bs = pre ++ y :: bs' ∧ x ≠ y ∧ p = k + (pre.length : Int) ∧ rest = diffL (p + 1) as' bs' ∧ as'.length = bs'.length ∧
      ∀ m, turned as bs m = pre ++ (if m % 2 = 1 then y else x) :: turned as' bs' (m / 2)
  | [], _, k, p, rest, _, h => by simp [diffL] at h
  | _ :: _, [], k, p, rest, e, h => by simp at e
  | a :: as, b :: bs, k, p, rest, e, h => by
    rw [diffL] at h
    by_cases z : a = b
    · rw [if_pos z] at h
      obtain ⟨pre, x, y, as', bs', h1, h2, h3, h4, h5, h6, h7⟩ := diff_at as bs (k + 1) p rest (by simpa using e) h
      refine ⟨a :: pre, x, y, as', bs', by rw [h1]; rfl, by rw [h2, z]; rfl, h3, by simp; omega, h5, h6, fun m => ?_⟩
      rw [turned, if_pos z, h7 m]
      rfl
    · rw [if_neg z] at h
      obtain ⟨rfl, rfl⟩ := List.cons.inj h
      refine ⟨[], a, b, as, bs, rfl, rfl, z, by simp, rfl, by simpa using e, fun m => ?_⟩
      rw [turned, if_neg z]
      rfl
theorem diff_nil : ∀ (as bs : List Int) (k : Int), as.length = bs.length → diffL k as bs = [] → as = bs
  | [], [], k, _, _ => rfl
  | [], _ :: _, k, e, h => by simp at e
  | _ :: _, [], k, e, h => by simp at e
  | a :: as, b :: bs, k, e, h => by
    rw [diffL] at h
    by_cases z : a = b
    · rw [if_pos z] at h
      rw [z, diff_nil as bs (k + 1) (by simpa using e) h]
    · rw [if_neg z] at h
      cases h
theorem turned_same : ∀ (as : List Int) (m : Int), turned as as m = as
  | [], m => by simp [turned]
  | a :: as, m => by rw [turned, if_pos rfl, turned_same as m]
/-- the j-th bit of an octet -/
theorem bit_at : ∀ o : Nat, o < 256 → ∀ j : Nat, j < 8 → (bitsOf (o : Int))[j]? = some (((o &&& (128 / 2 ^ j)) / (128 / 2 ^ j) : Nat) : Int) := by decide +kernel
theorem bit_on : ∀ o : Nat, o < 256 → ∀ j : Nat, j < 8 → (o &&& (128 / 2 ^ j) ≠ 0 ↔ (bitsOf (o : Int))[j]? = some 1) := by decide +kernel
theorem bit_turn : ∀ o : Nat, o < 256 → ∀ j : Nat, j < 8 → o ^^^ (128 / 2 ^ j) < 256 ∧ bitsOf ((o ^^^ (128 / 2 ^ j) : Nat) : Int) = (bitsOf (o : Int)).set j (1 - (bitsOf (o : Int)).getD j 0) := by decide +kernel
theorem bitsL_get : ∀ (os : List Int) (i j : Nat), j < 8 → (bitsL os)[8 * i + j]? = (os[i]?).bind fun o => (bitsOf o)[j]?
  | [], i, j, _ => by simp [bitsL]
  | o :: os, 0, j, h => by
    rw [bitsL_cons, Nat.mul_zero, Nat.zero_add, List.getElem?_append_left (by rw [bitsOf_len]; exact h)]
    simp
  | o :: os, i + 1, j, h => by
    have e : 8 * (i + 1) + j = 8 + (8 * i + j) := by omega
    rw [bitsL_cons, e, List.getElem?_append_right (by rw [bitsOf_len]; omega), bitsOf_len, Nat.add_sub_cancel_left, bitsL_get os i j h]
    simp
theorem bitsL_set : ∀ (os : List Int) (i j : Nat) (o o' : Int) (b : Int), j < 8 → os[i]? = some o → bitsOf o' = (bitsOf o).set j b → bitsL (os.set i o') = (bitsL os).set (8 * i + j) b
  | [], i, j, o, o', b, _, h, _ => by simp at h
  | x :: os, 0, j, o, o', b, hj, h, q => by
    have e : x = o := by simpa using h
    subst e
    rw [List.set_cons_zero, bitsL_cons, bitsL_cons, q, Nat.mul_zero, Nat.zero_add, List.set_append_left _ _ (by rw [bitsOf_len]; exact hj)]
  | x :: os, i + 1, j, o, o', b, hj, h, q => by
    have e : 8 * (i + 1) + j = 8 + (8 * i + j) := by omega
    have h' : os[i]? = some o := by simpa using h
    rw [List.set_cons_succ, bitsL_cons, bitsL_cons, bitsL_set os i j o o' b hj h' q, e, List.set_append_right _ _ (by rw [bitsOf_len]; omega), bitsOf_len, Nat.add_sub_cancel_left]
end BM
/-! f'{n:b}', n an octet -/
namespace PySem.W
open PySem PySem.Calls PyProof.Rows
open Builtin Builtin.Str Builtin.Int Builtin.Float
/-- the binary text of n -/
def binT (n : Nat) : PySem.Str := ⟨((Nat.toDigits 2 n).map Char.toNat).toArray⟩
theorem binT_len : ∀ n : Nat, n < 256 → (binT n).length ≤ 8 := by decide +kernel
theorem meets_bin' {spec : PySem.Str} {f : FormatSpec} (n : Nat) (hn : n < 256) (t u : Tok) (hne : (spec.length == 0) = false)
    (hasc : ((spec.cps.toList.drop 1).any (· ≥ 128) || (spec.cps.getD 0 0 ≥ 128 && !([60, 62, 61, 94] : List Nat).contains (spec.cps.getD 1 0))) = false)
    (hp : parseFormatSpec spec.cps.toList "int" 62 = .ok f) (hf : f = { align := 62, type := some 98 }) :
    Meets (Builtin.«int.__format__» ⟨[.int (n : Int) t, .str spec u], []⟩) (fun _ R s => ∀ t' k, R (.ok (.ret (.str (binT n) t'))) { s with toks := k }) := by
  apply KPc.meets_of
  intro prog w A s Q E h
  unfold Builtin.«int.__format__»
  simp only [selfAndOne, noKeywords, Int.intOfSelf, asInt?, asStr?, List.isEmpty_nil, if_true, pure_bind, bind_pure, bind_assoc, hne, hasc, Bool.false_eq_true, if_false,
    show (Value.str spec u == Value.none) = false from rfl]
  refine wpAny_bind (wpAny_typeNameOf (T := "str") (typeIs_str _ _ _) (by decide) fun _ => ?_)
  refine wpAny_bind (wpAny_typeNameOfCut_int ?_)
  simp only [hp]
  have hty : f.type = some 98 := by rw [hf]
  simp only [hty, Option.getD_some]
  rw [if_pos (by decide)]
  have hpr : f.precision = none := by rw [hf]
  have hz : f.noNeg0 = false := by rw [hf]
  have hal : f.alt = false := by rw [hf]
  have hw : f.width.getD 0 = 0 := by rw [hf]; rfl
  clear hp hasc hne
  show wpAny _ _ (if _ then _ else _) _ _ _
  rw [if_neg (by simp [hpr])]
  show wpAny _ _ (if _ then _ else _) _ _ _
  rw [if_neg (by simp [hz])]
  show wpAny _ _ (if _ then _ else _) _ _ _
  rw [if_neg (by decide)]
  show wpAny _ _ (if _ then _ else _) _ _ _
  rw [if_neg (by decide)]
  show wpAny _ _ (if _ then _ else _) _ _ _
  rw [if_neg (by omega)]
  refine KXf.ret_text (T := binT n) ?_ ?_ h
  · clear h
    subst hf
    clear hty hpr hz hal hw
    revert n
    decide +kernel
  · clear h
    subst hf
    clear hty hpr hz hal hw
    revert n
    decide +kernel
/-- {e:b}, a field of an octet -/
theorem bin_field {prog : Program} {w : World} {A : Around} {E : Value → Shared → Prop} {s : Shared} {n : Nat} {t : Tok} {Q : Value → Shared → Prop} (hn : n < 256) (h : ∀ t' k, Q (.str (binT n) t') { s with toks := k }) :
    wpAny (model prog w) A (formatField (.int (n : Int) t) "b") Q E s :=
  KXf.field_meets (by decide) (fun s' => typeIs_int s' n t) F.slot_int_format F.entry_int_format F.args_int_format_2 (by decide) (fun u => meets_bin' n hn t u (by decide) (by decide) (by rfl) rfl) h
theorem bin_count : ∀ n : Nat, n < 256 → PySem.Txt.count (binT n) "1" = (([n / 128 % 2, n / 64 % 2, n / 32 % 2, n / 16 % 2, n / 8 % 2, n / 4 % 2, n / 2 % 2, n / 1 % 2].count 1 : Nat) : Int) := by decide +kernel
end PySem.W
namespace VB
open PySem PySem.Spec PyProof.Rows L2
section
variable {X : Cx} {e : Expr} {te : TE} {p1 p2 p3 p4 : Pos} {j : Nat}
/-- f'{e:b}', e an octet -/
def tBin (te : TE) : TE := fun σ H Q => te σ H fun x H1 => ∃ n : Nat, x = .int (n : Int) ∧ n < 256 ∧ Q (.str (PySem.W.binT n)) H1
theorem pe_bin (he : PE X e te) : PE X (.JoinedStr [.FormattedValue e (-1) (some (.JoinedStr [.Constant (.str "b") j p1] p2)) p3] p4) (tBin te) := by
  refine pe_joined1 ⟨fun pins s σ H Q I h => wpAny_FormattedValue_spec (thn (he.run pins s σ H _ I h) fun v s1 hv => ?_)⟩
  obtain ⟨x, H1, I1, r1, n, rfl, hn, q⟩ := hv
  obtain ⟨t, rfl⟩ := r1
  refine thn ((pe_joined1 (pos := p2) (pe_str (x := "b") (j := j) (pos := p1))).run pins s1 σ H1 (fun y H2 => y = .str "b" ∧ H2 = H1) I1 ⟨rfl, rfl⟩) fun w s2 hw => ?_
  obtain ⟨y, H2, I2, r2, rfl, rfl⟩ := hw
  obtain ⟨t2, rfl⟩ := r2
  exact ⟨_, _, rfl, PySem.W.bin_field hn fun t' k => ⟨.str (PySem.W.binT n), H2, I2.tok _, ⟨_, rfl⟩, q⟩⟩
end
end VB
/-! zip of two sequences, each a list or a tuple -/
namespace VB
open PySem PySem.Spec PyProof.Rows L2
/-- a list (false) or a tuple (true) at l -/
def Sq (t : Bool) (h : Heap) (l : Addr) (xs : Array Value) : Prop := match t with
  | false => h.IsList l xs
  | true => h.IsTuple l xs
/-- its iterator at i, at the k-th place -/
def Si (t : Bool) (h : Heap) (i l : Addr) (k : Nat) : Prop := match t with
  | false => h.IsListIter i l k
  | true => h.IsTupleIter i l k
section
variable {t u : Bool} {h h' : Heap} {i l b : Addr} {k : Nat} {xs ys : Array Value}
theorem Sq.ext (x : Sq t h l xs) (e : Heap.ExtBut b h h') (n : l ≠ b) : Sq t h' l xs := by
  cases t with
  | false => exact Heap.IsList.extBut (show h.IsList l xs from x) e n
  | true => exact Heap.IsTuple.extBut (show h.IsTuple l xs from x) e n
theorem Si.ext (x : Si t h i l k) (e : Heap.ExtBut b h h') (n : i ≠ b) : Si t h' i l k := by
  cases t with
  | false => exact Heap.IsListIter.extBut (show h.IsListIter i l k from x) e n
  | true => exact Heap.IsTupleIter.extBut (show h.IsTupleIter i l k from x) e n
theorem Sq.psh (x : Sq t h l xs) (o : Obj) : Sq t (h.push o) l xs := by
  cases t with
  | false => exact Heap.IsList.push (show h.IsList l xs from x) o
  | true => exact Heap.IsTuple.push (show h.IsTuple l xs from x) o
theorem Si.stay (x : Si t h i l k) (e : ∀ o, h.get? i = some o → h'.get? i = some o) : Si t h' i l k := by
  cases t with
  | false => exact Heap.IsListIter.at (show h.IsListIter i l k from x) e
  | true => exact Heap.IsTupleIter.at (show h.IsTupleIter i l k from x) e
theorem Si.obj (x : Si t h i l k) : ∃ o, h.get? i = some o ∧ ∀ v, o.data ≠ .cell v := by
  cases t with
  | false =>
    obtain ⟨o, e, _, d⟩ := (show h.IsListIter i l k from x)
    exact ⟨o, e, fun v q => by rw [d] at q; cases q⟩
  | true =>
    obtain ⟨o, e, _, d⟩ := (show h.IsTupleIter i l k from x)
    exact ⟨o, e, fun v q => by rw [d] at q; cases q⟩
end
section
variable {prog : Program} {w : World} {A : Around} {E : Value → Shared → Prop} {s : Shared} {t u : Bool}
  {z T1 T2 i1 i2 l1 l2 : Addr} {k1 k2 : Nat} {xs ys : Array Value} {x y c d : Value}
theorem draw_item {it l : Addr} {k : Nat} {Q : Value → Shared → Prop} (hi : Si t s.heap it l k) (hl : Sq t s.heap l xs)
    (hx : xs[k]? = some x) (hq : ∀ h', Si t h' it l (k + 1) → Heap.SameBut it s.heap h' → Q x { s with heap := h' }) :
    wpAny (model prog w) A (Builtin.SmallTypes.nextOf (.ref it)) Q E s := by
  cases t with
  | false => exact wpAny_nextOf_list_item (show s.heap.IsListIter it l k from hi) (show s.heap.IsList l xs from hl) hx hq
  | true => exact RZ.nextOf_tuple_item (show s.heap.IsTupleIter it l k from hi) (show s.heap.IsTuple l xs from hl) hx hq
theorem draw_end {it l : Addr} {k : Nat} {Q : Value → Shared → Prop} (hh : A.handled = none) (hi : Si t s.heap it l k)
    (hl : Sq t s.heap l xs) (hx : xs[k]? = none)
    (he : ∀ h' e, Heap.ExtBut it s.heap h' → (∃ o, h'.get? e = some o ∧ o.cls = .type "StopIteration") → E (.ref e) { s with heap := h' }) :
    wpAny (model prog w) A (Builtin.SmallTypes.nextOf (.ref it)) Q E s := by
  cases t with
  | false => exact wpAny_nextOf_list_end hh (show s.heap.IsListIter it l k from hi) (show s.heap.IsList l xs from hl) hx he
  | true => exact RZ.nextOf_tuple_end hh (show s.heap.IsTupleIter it l k from hi) (show s.heap.IsTuple l xs from hl) hx he

/-- what a turn of the zip object leaves -/
structure ZTurn (t u : Bool) (h h' : Heap) (z T1 T2 i1 i2 l1 l2 : Addr) (k1 k2 : Nat) (x y : Value) : Prop where
  zip : IsZip h' z T1 T2 (rawInt h.objs.size)
  out : IsPair h' T2 x y
  it1 : Si t h' i1 l1 (k1 + 1)
  it2 : Si u h' i2 l2 (k2 + 1)
  new : IsPair h' h.objs.size x y
  size : h'.objs.size = h.objs.size + 1
  keep : ∀ b o, b ≠ z → b ≠ T2 → b ≠ i1 → b ≠ i2 → h.get? b = some o → h'.get? b = some o

theorem zmix_item {Q : Value → Shared → Prop} (D : ZipApart z T1 T2 i1 i2 l1 l2) (hz : IsZip s.heap z T1 T2 .none)
    (h1 : IsPair s.heap T1 (.ref i1) (.ref i2)) (h2 : IsPair s.heap T2 c d) (a1 : Si t s.heap i1 l1 k1) (a2 : Si u s.heap i2 l2 k2)
    (b1 : Sq t s.heap l1 xs) (b2 : Sq u s.heap l2 ys) (hx : xs[k1]? = some x) (hy : ys[k2]? = some y)
    (hq : ∀ h', ZTurn t u s.heap h' z T1 T2 i1 i2 l1 l2 k1 k2 x y → Q (.ref s.heap.objs.size) { s with heap := h' }) :
    wpAny (model prog w) A (Builtin.«zip.__next__» ⟨[.ref z], []⟩) (fun fin s' => ∃ v, fin = .done (.ret v) ∧ Q v s') E s := by
  show wpAny _ _ (field (.ref z) 2 >>= _) _ _ _
  refine wpAny_bind (wpAny_field hz rfl (x := .bool false) rfl ?_)
  show wpAny _ _ (field (.ref z) 3 >>= _) _ _ _
  refine wpAny_bind (wpAny_field hz rfl (x := .ref T1) rfl ?_)
  refine wpAny_bind (wpAny_seqItems h1 rfl ?_)
  show wpAny _ _ (Builtin.SmallTypes.ownedTupleIsFree (.ref z) >>= _) _ _ _
  refine wpAny_bind ?_
  unfold Builtin.SmallTypes.ownedTupleIsFree
  refine wpAny_bind (wpAny_field hz rfl (x := .none) rfl (wpAny_pure ?_))
  simp only [if_true]
  refine wpAny_bind (wpAny_rule ?_)
  refine wpAny_bind (wpAny_field hz rfl (x := .ref T2) rfl ?_)
  refine wpAny_bind (wpAny_setField_rec hz (by simp) ?_)
  intro g1 zg1 s1
  replace zg1 : IsZip g1 z T1 T2 .ellipsis := zg1
  refine wpAny_bind ?_
  simp only [List.zipIdx_cons, List.zipIdx_nil, List.forIn_cons, List.forIn_nil]
  -- the first one's item
  refine wpAny_bind (wpAny_bind (wpAny_onRaise ?_))
  show wpAny _ _ (Builtin.SmallTypes.nextOf (.ref i1) >>= _) _ _ _
  refine wpAny_bind (draw_item (a1.ext s1.extBut D.i1z) (b1.ext s1.extBut D.l1z) hx ?_)
  intro g2 n1 s2
  refine wpAny_pure ?_
  have o2 : IsPair g2 T2 c d := s2.extBut _ _ D.TOi1 (s1.extBut _ _ D.TOz h2)
  refine wpAny_bind (wpAny_seqItems o2 rfl ?_)
  refine wpAny_bind (wpAny_updateSeq_pair o2 ?_)
  intro g3 o3 s3
  replace o3 : IsPair g3 T2 x d := o3
  refine wpAny_bind (wpAny_letGo (wpAny_pure ?_))
  -- the second one's
  refine wpAny_bind (wpAny_bind (wpAny_onRaise ?_))
  show wpAny _ _ (Builtin.SmallTypes.nextOf (.ref i2) >>= _) _ _ _
  refine wpAny_bind (draw_item (((a2.ext s1.extBut D.i2z).ext s2.extBut D.i12.symm).ext s3.extBut D.TOi2.symm)
    (((b2.ext s1.extBut D.l2z).ext s2.extBut D.l2i1).ext s3.extBut D.l2TO) hy ?_)
  intro g4 n2 s4
  refine wpAny_pure ?_
  have o4 : IsPair g4 T2 x d := s4.extBut _ _ D.TOi2 o3
  refine wpAny_bind (wpAny_seqItems o4 rfl ?_)
  refine wpAny_bind (wpAny_updateSeq_pair o4 ?_)
  intro g5 o5 s5
  replace o5 : IsPair g5 T2 x y := o5
  refine wpAny_bind (wpAny_letGo (wpAny_pure (wpAny_pure ?_)))
  -- the pair
  refine wpAny_bind (wpAny_seqItems o5 rfl ?_)
  refine wpAny_bind (wpAny_newTuple ?_)
  have sz : g5.objs.size = s.heap.objs.size := by rw [s5.1, s4.1, s3.1, s2.1, s1.1]
  have z5 : IsZip g5 z T1 T2 .ellipsis :=
    s5.extBut _ _ D.TOz.symm (s4.extBut _ _ D.i2z.symm (s3.extBut _ _ D.TOz.symm (s2.extBut _ _ D.i1z.symm zg1)))
  have kp : ∀ b o, b ≠ z → b ≠ T2 → b ≠ i1 → b ≠ i2 → s.heap.get? b = some o → g5.get? b = some o := by
    intro b o e1 e2 e3 e4 e
    exact s5.extBut _ _ e2 (s4.extBut _ _ e4 (s3.extBut _ _ e2 (s2.extBut _ _ e3 (s1.extBut _ _ e1 e))))
  have m1 : Si t g5 i1 l1 (k1 + 1) := ((n1.ext s3.extBut D.TOi1.symm).ext s4.extBut D.i12).ext s5.extBut D.TOi1.symm
  have m2 : Si u g5 i2 l2 (k2 + 1) := n2.ext s5.extBut D.TOi2.symm
  have zlt : z < g5.objs.size := Heap.lt_size z5
  show wpAny _ _ (Builtin.SmallTypes.ownedTupleHandOut (.ref z) (.ref g5.objs.size) >>= _) _ _ _
  refine wpAny_bind ?_
  unfold Builtin.SmallTypes.ownedTupleHandOut
  have z6 : IsZip (g5.push { cls := .type "tuple", data := .seq #[x, y] }) z T1 T2 .ellipsis := Heap.get?_push_of_some _ z5
  refine wpAny_bind (wpAny_setField_rec z6 (by simp) ?_)
  intro g7 z7 s7
  replace z7 : IsZip g7 z T1 T2 (rawInt g5.objs.size) := z7
  refine wpAny_setField_rec z7 (by simp) ?_
  intro g8 z8 s8
  replace z8 : IsZip g8 z T1 T2 (rawInt g5.objs.size) := z8
  have up : ∀ b o, b ≠ z → g5.get? b = some o → g8.get? b = some o := fun b o n e =>
    s8.extBut _ _ n (s7.extBut _ _ n (Heap.get?_push_of_some _ e))
  have nz : g5.objs.size ≠ z := Nat.ne_of_gt zlt
  have p8 : IsPair g8 g5.objs.size x y := s8.extBut _ _ nz (s7.extBut _ _ nz (Heap.get?_push_size _ rfl))
  have l8 : g8.objs.size = g5.objs.size + 1 := by rw [s8.1, s7.1, Heap.size_push]
  rw [sz] at z8 p8 l8
  refine wpAny_pure ⟨_, rfl, ?_⟩
  show Q (.ref g5.objs.size) _
  rw [sz]
  exact hq g8 ⟨z8, up _ _ D.TOz o5, m1.stay (fun o => up _ o D.i1z), m2.stay (fun o => up _ o D.i2z), p8, l8,
    fun b o e1 e2 e3 e4 e => up b o e1 (kp b o e1 e2 e3 e4 e)⟩

theorem zmix_end {Q : Fin → Shared → Prop} (hh : A.handled = none) (D : ZipApart z T1 T2 i1 i2 l1 l2) (hz : IsZip s.heap z T1 T2 .none)
    (h1 : IsPair s.heap T1 (.ref i1) (.ref i2)) (h2 : IsPair s.heap T2 c d) (a1 : Si t s.heap i1 l1 k1) (a2 : Si u s.heap i2 l2 k2)
    (b1 : Sq t s.heap l1 xs) (b2 : Sq u s.heap l2 ys) (hend : xs[k1]? = none ∨ ys[k2]? = none)
    (he : ∀ h' e, (∀ b o, b ≠ z → b ≠ T2 → b ≠ i1 → b ≠ i2 → s.heap.get? b = some o → h'.get? b = some o) →
      (∃ o, h'.get? e = some o ∧ o.cls = .type "StopIteration") → E (.ref e) { s with heap := h' }) :
    wpAny (model prog w) A (Builtin.«zip.__next__» ⟨[.ref z], []⟩) Q E s := by
  show wpAny _ _ (field (.ref z) 2 >>= _) _ _ _
  refine wpAny_bind (wpAny_field hz rfl (x := .bool false) rfl ?_)
  show wpAny _ _ (field (.ref z) 3 >>= _) _ _ _
  refine wpAny_bind (wpAny_field hz rfl (x := .ref T1) rfl ?_)
  refine wpAny_bind (wpAny_seqItems h1 rfl ?_)
  show wpAny _ _ (Builtin.SmallTypes.ownedTupleIsFree (.ref z) >>= _) _ _ _
  refine wpAny_bind ?_
  unfold Builtin.SmallTypes.ownedTupleIsFree
  refine wpAny_bind (wpAny_field hz rfl (x := .none) rfl (wpAny_pure ?_))
  simp only [if_true]
  refine wpAny_bind (wpAny_rule ?_)
  refine wpAny_bind (wpAny_field hz rfl (x := .ref T2) rfl ?_)
  refine wpAny_bind (wpAny_setField_rec hz (by simp) ?_)
  intro g1 zg1 s1
  replace zg1 : IsZip g1 z T1 T2 .ellipsis := zg1
  refine wpAny_bind ?_
  simp only [List.zipIdx_cons, List.zipIdx_nil, List.forIn_cons, List.forIn_nil]
  refine wpAny_bind (wpAny_bind (wpAny_onRaise ?_))
  show wpAny _ _ (Builtin.SmallTypes.nextOf (.ref i1) >>= _) _ _ _
  cases hx : xs[k1]? with
  | none =>
    refine wpAny_bind (draw_end hh (a1.ext s1.extBut D.i1z) (b1.ext s1.extBut D.l1z) hx ?_)
    rintro g2 e s2 ⟨oe, he1, he2⟩
    have zg2 : IsZip g2 z T1 T2 .ellipsis := s2 _ _ D.i1z.symm zg1
    have ez : e ≠ z := by
      rintro rfl
      rw [zg2] at he1
      cases he1
      simp at he2
    refine wpAny_setField_rec zg2 (by simp) ?_
    intro g3 _ s3
    exact he g3 e (fun b o e1 _ e3 _ q => s3.extBut _ _ e1 (s2 _ _ e3 (s1.extBut _ _ e1 q))) ⟨oe, s3.extBut _ _ ez he1, he2⟩
  | some x =>
    have hy : ys[k2]? = none := by
      rcases hend with q | q
      · rw [hx] at q
        cases q
      · exact q
    refine wpAny_bind (draw_item (a1.ext s1.extBut D.i1z) (b1.ext s1.extBut D.l1z) hx ?_)
    intro g2 n1 s2
    refine wpAny_pure ?_
    have o2 : IsPair g2 T2 c d := s2.extBut _ _ D.TOi1 (s1.extBut _ _ D.TOz h2)
    refine wpAny_bind (wpAny_seqItems o2 rfl ?_)
    refine wpAny_bind (wpAny_updateSeq_pair o2 ?_)
    intro g3 o3 s3
    refine wpAny_bind (wpAny_letGo (wpAny_pure ?_))
    refine wpAny_bind (wpAny_bind (wpAny_onRaise ?_))
    show wpAny _ _ (Builtin.SmallTypes.nextOf (.ref i2) >>= _) _ _ _
    refine wpAny_bind (draw_end hh (((a2.ext s1.extBut D.i2z).ext s2.extBut D.i12.symm).ext s3.extBut D.TOi2.symm)
      (((b2.ext s1.extBut D.l2z).ext s2.extBut D.l2i1).ext s3.extBut D.l2TO) hy ?_)
    rintro g4 e s4 ⟨oe, he1, he2⟩
    have zg4 : IsZip g4 z T1 T2 .ellipsis := s4 _ _ D.i2z.symm (s3.extBut _ _ D.TOz.symm (s2.extBut _ _ D.i1z.symm zg1))
    have ez : e ≠ z := by
      rintro rfl
      rw [zg4] at he1
      cases he1
      simp at he2
    refine wpAny_setField_rec zg4 (by simp) ?_
    intro g5 _ s5
    exact he g5 e (fun b o e1 e2 e3 e4 q => s5.extBut _ _ e1 (s4 _ _ e4 (s3.extBut _ _ e2 (s2.extBut _ _ e3 (s1.extBut _ _ e1 q)))))
      ⟨oe, s5.extBut _ _ ez he1, he2⟩
end
end VB
/-! zip of two sequences, each a list or a tuple: its making, its walk -/
namespace VB
open PySem PySem.Spec PyProof.Rows L2
theorem Sv.inj {X : Cx} {pins : List (Addr × Obj)} {σ : L2.St} {H : Hp} {s : Shared} {t : Bool} {a : Addr} {xs ys : List V}
    (I : Inv X pins σ H s) (h : Sv t X.K H a xs) (h' : Sv t X.K H a ys) : xs = ys := by
  cases t with
  | false => exact I.list_inj (show SqL X.K H a xs from h) (show SqL X.K H a ys from h')
  | true => exact I.tuple_inj (show SqT X.K H a xs from h) (show SqT X.K H a ys from h')
theorem Sv.real {X : Cx} {pins : List (Addr × Obj)} {σ : L2.St} {H : Hp} {s : Shared} {t : Bool} {a : Addr} {xs : List V}
    (I : Inv X pins σ H s) (h : Sv t X.K H a xs) : ∃ its : List Value, Vals xs its ∧ Sq t s.heap a its.toArray ∧ a < s.heap.objs.size := by
  cases t with
  | false =>
    obtain ⟨its, r, p, _⟩ := I.list (show SqL X.K H a xs from h)
    exact ⟨its, r, p.isList, p.lt⟩
  | true =>
    obtain ⟨its, r, p, _⟩ := I.tuple (show SqT X.K H a xs from h)
    obtain ⟨o, ho, _⟩ := id p
    exact ⟨its, r, p, Heap.lt_size ho⟩
section
variable {prog : Program} {w : World} {A : Around} {E : Value → Shared → Prop} {s : Shared} {t u : Bool}
  {z T1 T2 i1 i2 l1 l2 : Addr} {k1 k2 : Nat} {xs ys : Array Value} {x y c d : Value}
theorem zmix_next {Q : Option Value → Shared → Prop} (D : ZipApart z T1 T2 i1 i2 l1 l2) (hz : IsZip s.heap z T1 T2 .none)
    (h1 : IsPair s.heap T1 (.ref i1) (.ref i2)) (h2 : IsPair s.heap T2 c d) (a1 : Si t s.heap i1 l1 k1) (a2 : Si u s.heap i2 l2 k2)
    (b1 : Sq t s.heap l1 xs) (b2 : Sq u s.heap l2 ys) (hx : xs[k1]? = some x) (hy : ys[k2]? = some y)
    (hq : ∀ h', ZTurn t u s.heap h' z T1 T2 i1 i2 l1 l2 k1 k2 x y → Q (some (.ref s.heap.objs.size)) { s with heap := h' }) :
    wpAny (model prog w) A (pyNext (.ref z)) Q E s := by
  have ty : s.TypeIs (.ref z) "zip" := ⟨_, hz, rfl⟩
  unfold pyNext
  refine wpAny_bind (wpAny_attempt ?_)
  refine wpAny_callSpecial?_slot (name := Str.ofString "__next__") ty F.slot_zip_next ?_
  refine wpAny_call_entry F.slot_zip_next ty F.entry_zip_next ?_ (F.args_zip_next_1 _)
  exact zmix_item D hz h1 h2 a1 a2 b1 b2 hx hy fun h' q => wpAny_pure (hq h' q)
theorem zmix_stop {Q : Option Value → Shared → Prop} (hh : A.handled = none) (D : ZipApart z T1 T2 i1 i2 l1 l2) (hz : IsZip s.heap z T1 T2 .none)
    (h1 : IsPair s.heap T1 (.ref i1) (.ref i2)) (h2 : IsPair s.heap T2 c d) (a1 : Si t s.heap i1 l1 k1) (a2 : Si u s.heap i2 l2 k2)
    (b1 : Sq t s.heap l1 xs) (b2 : Sq u s.heap l2 ys) (hend : xs[k1]? = none ∨ ys[k2]? = none)
    (hq : ∀ h', (∀ b o, b ≠ z → b ≠ T2 → b ≠ i1 → b ≠ i2 → s.heap.get? b = some o → h'.get? b = some o) → Q none { s with heap := h' }) :
    wpAny (model prog w) A (pyNext (.ref z)) Q E s := by
  have ty : s.TypeIs (.ref z) "zip" := ⟨_, hz, rfl⟩
  unfold pyNext
  refine wpAny_bind (wpAny_attempt ?_)
  refine wpAny_callSpecial?_slot (name := Str.ofString "__next__") ty F.slot_zip_next ?_
  refine wpAny_call_entry F.slot_zip_next ty F.entry_zip_next ?_ (F.args_zip_next_1 _)
  refine zmix_end hh D hz h1 h2 a1 a2 b1 b2 hend ?_
  rintro h' e kp ⟨o, ho, hc⟩
  refine wpAny_bind (wpAny_isInstance (T := "StopIteration") (b := true) ⟨o, ho, hc⟩ isSubtype_stop ?_)
  exact wpAny_pure (hq _ kp)
end
/-- an iterator over l, new -/
def itO (t : Bool) (l : Addr) : Obj := match t with
  | false => { cls := .type "list_iterator", data := .fields #[.ref l, .int 0 0] }
  | true => { cls := .type "tuple_iterator", data := .fields #[.ref l, .int 0 0] }
section
variable (t u : Bool) (h : Heap) (l1 l2 : Addr)
abbrev zm1 : Heap := h.push (itO t l1)
abbrev zm2 : Heap := (zm1 t h l1).push (itO u l2)
abbrev zm3 : Heap := (zm2 t u h l1 l2).push { cls := .type "tuple", data := .seq #[.ref h.objs.size, .ref (zm1 t h l1).objs.size] }
abbrev zm4 : Heap := (zm3 t u h l1 l2).push { cls := .type "tuple", data := .seq #[.none, .none] }
abbrev zm5 : Heap := (zm4 t u h l1 l2).push { cls := .type "zip", data := .fields #[.none, .bool false, .bool false, .ref (zm2 t u h l1 l2).objs.size, .ref (zm3 t u h l1 l2).objs.size] }
end
theorem meets_zmix (t u : Bool) (l1 l2 : Addr) (xs ys : Array Value) :
    Meets (Builtin.«zip.__new__» ⟨[.type "zip", .ref l1, .ref l2], []⟩) (fun _ R s => Sq t s.heap l1 xs ∧ Sq u s.heap l2 ys ∧
      R (.ok (.ret (.ref (zm4 t u s.heap l1 l2).objs.size))) { s with heap := zm5 t u s.heap l1 l2 }) := by
  refine .of_wp ?_
  rintro prog w A R ⟨hp, g, d, tk, os⟩ ⟨b1, b2, h⟩
  have sub := sub_zip
  have c2 : Sq u (hp.push (itO t l1)) l2 ys := b2.psh _
  cases t with
  | false =>
    have e1 : Heap.IsList (Shared.heap ⟨hp, g, d, tk, os⟩) l1 xs := b1
    cases u with
    | false =>
      have e2 : Heap.IsList (Shared.heap ⟨hp.push { cls := .type "list_iterator", data := .fields #[.ref l1, .int 0 0] }, g, d, tk, os⟩) l2 ys := c2
      wp_walk using wpAny_pyIter_list e1, wpAny_pyIter_list e2
      exact ⟨_, rfl, h⟩
    | true =>
      have e2 : Heap.IsTuple (Shared.heap ⟨hp.push { cls := .type "list_iterator", data := .fields #[.ref l1, .int 0 0] }, g, d, tk, os⟩) l2 ys := c2
      wp_walk using wpAny_pyIter_list e1, wpAny_pyIter_tuple e2
      exact ⟨_, rfl, h⟩
  | true =>
    have e1 : Heap.IsTuple (Shared.heap ⟨hp, g, d, tk, os⟩) l1 xs := b1
    cases u with
    | false =>
      have e2 : Heap.IsList (Shared.heap ⟨hp.push { cls := .type "tuple_iterator", data := .fields #[.ref l1, .int 0 0] }, g, d, tk, os⟩) l2 ys := c2
      wp_walk using wpAny_pyIter_tuple e1, wpAny_pyIter_list e2
      exact ⟨_, rfl, h⟩
    | true =>
      have e2 : Heap.IsTuple (Shared.heap ⟨hp.push { cls := .type "tuple_iterator", data := .fields #[.ref l1, .int 0 0] }, g, d, tk, os⟩) l2 ys := c2
      wp_walk using wpAny_pyIter_tuple e1, wpAny_pyIter_tuple e2
      exact ⟨_, rfl, h⟩
theorem si_new {t : Bool} {h : Heap} {i l : Addr} (e : h.get? i = some (itO t l)) : Si t h i l 0 := by
  cases t with
  | false => exact ⟨_, e, rfl, rfl⟩
  | true => exact ⟨_, e, rfl, rfl⟩
section
variable {prog : Program} {w : World} {A : Around} {E : Value → Shared → Prop} {s : Shared} {t u : Bool}
/-- what zip's call leaves -/
structure ZNew (t u : Bool) (h h' : Heap) (l1 l2 : Addr) : Prop where
  zip : IsZip h' (h.objs.size + 4) (h.objs.size + 2) (h.objs.size + 3) .none
  its : IsPair h' (h.objs.size + 2) (.ref h.objs.size) (.ref (h.objs.size + 1))
  out : IsPair h' (h.objs.size + 3) .none .none
  it1 : Si t h' h.objs.size l1 0
  it2 : Si u h' (h.objs.size + 1) l2 0
  keep : ∀ b o, h.get? b = some o → h'.get? b = some o
theorem call_zmix {l1 l2 : Addr} {xs ys : Array Value} {Q : Value → Shared → Prop} (b1 : Sq t s.heap l1 xs) (b2 : Sq u s.heap l2 ys)
    (hq : ∀ h', ZNew t u s.heap h' l1 l2 → Q (.ref (s.heap.objs.size + 4)) { s with heap := h' }) :
    wpAny (model prog w) A (call (.type "zip") [.ref l1, .ref l2]) Q E s := by
  refine callType_new F.called_zip (by decide) (F.typeCall_zip_2 _ _) (F.newCall_zip_2 _ _) (fun obj => F.args_object_init_3 obj _ _)
    F.entry_zip_new (meets_zmix t u l1 l2 xs ys) ⟨b1, b2, ?_⟩
  have n1 : (zm1 t s.heap l1).objs.size = s.heap.objs.size + 1 := Heap.size_push ..
  have n2 : (zm2 t u s.heap l1 l2).objs.size = s.heap.objs.size + 2 := by rw [Heap.size_push, n1]
  have n3 : (zm3 t u s.heap l1 l2).objs.size = s.heap.objs.size + 3 := by rw [Heap.size_push, n2]
  have n4 : (zm4 t u s.heap l1 l2).objs.size = s.heap.objs.size + 4 := by rw [Heap.size_push, n3]
  have f5 : itO t l1 = itO t l1 := rfl
  have nf : ∀ (b : Bool) (l : Addr), (itO b l).isFreed = false := fun b l => by cases b <;> rfl
  have g5 : (zm5 t u s.heap l1 l2).get? (zm4 t u s.heap l1 l2).objs.size = some _ := Heap.get?_push_size _ rfl
  have g4 : (zm5 t u s.heap l1 l2).get? (zm3 t u s.heap l1 l2).objs.size = some _ := Heap.get?_push_of_some _ (Heap.get?_push_size _ rfl)
  have g3 : (zm5 t u s.heap l1 l2).get? (zm2 t u s.heap l1 l2).objs.size = some _ := Heap.get?_push_of_some _ (Heap.get?_push_of_some _ (Heap.get?_push_size _ rfl))
  have g2 : (zm5 t u s.heap l1 l2).get? (zm1 t s.heap l1).objs.size = some (itO u l2) :=
    Heap.get?_push_of_some _ (Heap.get?_push_of_some _ (Heap.get?_push_of_some _ (Heap.get?_push_size _ (nf u l2))))
  have g1 : (zm5 t u s.heap l1 l2).get? s.heap.objs.size = some (itO t l1) :=
    Heap.get?_push_of_some _ (Heap.get?_push_of_some _ (Heap.get?_push_of_some _ (Heap.get?_push_of_some _ (Heap.get?_push_size _ (nf t l1)))))
  show _ ∧ _
  rw [n2, n3, n4] at g5
  rw [n1, n2] at g3
  rw [n3] at g4
  rw [n1] at g2
  rw [n4]
  refine ⟨⟨_, g5, rfl⟩, hq _ ⟨g5, g3, g4, si_new g1, si_new g2, ?_⟩⟩
  intro b o e
  exact Heap.get?_push_of_some _ (Heap.get?_push_of_some _ (Heap.get?_push_of_some _ (Heap.get?_push_of_some _ (Heap.get?_push_of_some _ e))))
end
/-- two sequences as they stand at each turn, the items in new pairs -/
def Itm (t u : Bool) (K : PySem.W.Frag) (a b : Addr) : It :=
  ⟨fun i H => ∃ (xs ys : List V) (x y : V), Sv t K H a xs ∧ Sv u K H b ys ∧ xs[i]? = some x ∧ ys[i]? = some y,
    fun i H v H' => ∃ N x y, v = .ref N ∧ H N = none ∧ H' = upd H N (.tup [x, y]) ∧ (∀ xs, Sv t K H a xs → xs[i]? = some x) ∧ ∀ ys, Sv u K H b ys → ys[i]? = some y,
    fun i H => ∃ xs ys : List V, Sv t K H a xs ∧ Sv u K H b ys ∧ (xs.length ≤ i ∨ ys.length ≤ i)⟩
theorem in5 {a b c d e x : Addr} (h : x ∈ [a, b, c, d, e]) : x = a ∨ x = b ∨ x = c ∨ x = d ∨ x = e := by simpa using h
theorem turn_zmix {P : Program} {w : World} {K : PySem.W.Frag} {t u : Bool} {elts : List Expr} {kk : Nat} {tpos : Pos} {a b z T1 T2 i1 i2 : Addr}
    (D : ZipApart z T1 T2 i1 i2 a b) : Turn P w K (.Tuple elts kk tpos) (Itm t u K a b) [z, T1, T2, i1, i2] z
      (fun i h => IsZip h z T1 T2 .none ∧ IsPair h T1 (.ref i1) (.ref i2) ∧ (∃ x y, IsPair h T2 x y) ∧ Si t h i1 a i ∧ Si u h i2 b i) := by
  refine ⟨by simp, ?_, ?_, ?_, ?_, ?_⟩
  · rintro i h ⟨hz, h1, ⟨x, y, h2⟩, a1, a2⟩ c hc
    rcases in5 hc with rfl | rfl | rfl | rfl | rfl
    · exact ⟨_, hz, fun v q => nomatch q⟩
    · exact ⟨_, h1, fun v q => nomatch q⟩
    · exact ⟨_, h2, fun v q => nomatch q⟩
    · exact a1.obj
    · exact a2.obj
  · rintro i h h' ⟨hz, h1, ⟨x, y, h2⟩, a1, a2⟩ k
    exact ⟨k z (by simp) _ hz, k T1 (by simp) _ h1, ⟨x, y, k T2 (by simp) _ h2⟩, a1.stay fun o q => k i1 (by simp) o q, a2.stay fun o q => k i2 (by simp) o q⟩
  · intro X hP hw hK hc i pins s σ H E I hf st hg
    subst hP hw hK
    obtain ⟨hz, h1, ⟨x0, y0, h2⟩, a1, a2⟩ := st
    obtain ⟨xs, ys, x, y, qx, qy, hx, hy⟩ := hg
    obtain ⟨its, rv, p, _⟩ := qx.real I
    obtain ⟨its2, rv2, p2, _⟩ := qy.real I
    obtain ⟨v1, hv1, r1⟩ := rv.get hx
    obtain ⟨v2, hv2, r2⟩ := rv2.get hy
    have zl : z < s.heap.objs.size := Heap.lt_size hz
    refine zmix_next D hz h1 h2 a1 a2 p p2 (x := v1) (y := v2) (by simpa using hv1) (by simpa using hv2) ?_
    intro g T
    refine ⟨_, rfl, wpAny_letOwnedTupleGo_zip (s := { s with heap := g }) T.zip ?_⟩
    intro g2 z2 sb
    have nN : s.heap.objs.size ≠ z := Nat.ne_of_gt zl
    have pN : g2.get? s.heap.objs.size = some { cls := .type "tuple", data := .seq #[v1, v2] } := (sb.2 _ nN).trans T.new
    have ok : ObjOk X.prog X.w (upd H s.heap.objs.size (.tup [x, y])) g2 s.heap.objs.size (.tup [x, y]) :=
      ⟨by show 2 ≤ sizeLine; decide, [v1, v2], .cons r1 (.cons r2 .nil), ⟨_, pN, rfl, _, rfl⟩⟩
    have J : Inv X pins σ (upd H s.heap.objs.size (.tup [x, y])) { s with heap := g2 } := by
      refine I.turnedNew (t' := s.toks) (ch := [z, T1, T2, i1, i2]) ?_ hf (Nat.le_refl _) ok
      intro c o hb q
      have n : c ≠ z ∧ c ≠ T2 ∧ c ≠ i1 ∧ c ≠ i2 := ⟨fun e => hb (by simp [e]), fun e => hb (by simp [e]), fun e => hb (by simp [e]), fun e => hb (by simp [e])⟩
      exact (sb.2 c n.1).trans (T.keep c o n.1 n.2.1 n.2.2.1 n.2.2.2 q)
    refine ⟨.ref s.heap.objs.size, _, J, rfl, ⟨_, x, y, rfl, I.hok.fresh (Nat.le_refl _), rfl, ?_, ?_⟩, ⟨z2, ?_, ⟨v1, v2, ?_⟩, ?_, ?_⟩, ?_⟩
    · intro l hl
      rw [hl.inj I qx]
      exact hx
    · intro l hl
      rw [hl.inj I qy]
      exact hy
    · exact (sb.2 _ D.TIz).trans (T.keep _ _ D.TIz D.TITO D.TIi1 D.TIi2 h1)
    · exact (sb.2 _ D.TOz).trans T.out
    · exact T.it1.stay fun o q => (sb.2 _ D.i1z).trans q
    · exact T.it2.stay fun o q => (sb.2 _ D.i2z).trans q
    · intro c hcm
      have lt : c < s.heap.objs.size := by
        rcases in5 hcm with rfl | rfl | rfl | rfl | rfl
        · exact zl
        · exact Heap.lt_size h1
        · exact Heap.lt_size h2
        · obtain ⟨_, e, _⟩ := a1.obj
          exact Heap.lt_size e
        · obtain ⟨_, e, _⟩ := a2.obj
          exact Heap.lt_size e
      rw [upd_ne (Nat.ne_of_lt lt)]
      exact (hf c hcm).1
  · intro X hP hw hK hc i pins s σ H E I hf st hg
    subst hP hw hK
    obtain ⟨hz, h1, ⟨x0, y0, h2⟩, a1, a2⟩ := st
    obtain ⟨xs, ys, qx, qy, hend⟩ := hg
    obtain ⟨its, rv, p, _⟩ := qx.real I
    obtain ⟨its2, rv2, p2, _⟩ := qy.real I
    have e1 := rv.length
    have e2 := rv2.length
    have he : its.toArray[i]? = none ∨ its2.toArray[i]? = none := by
      rcases hend with q | q
      · exact .inl (by simp; omega)
      · exact .inr (by simp; omega)
    refine zmix_stop (I.ok.hd hc) D hz h1 h2 a1 a2 p p2 he ?_
    intro g kp
    refine ⟨rfl, I.turnedL (t' := s.toks) (ch := [z, T1, T2, i1, i2]) ?_ hf⟩
    intro c o hb q
    exact kp c o (fun e => hb (by simp [e])) (fun e => hb (by simp [e])) (fun e => hb (by simp [e])) (fun e => hb (by simp [e])) q
  · intro A i s Q E st h
    exact wpAny_pyIter_zip st.1 h
/-- zip(e, e2): lists and tuples, in any mixture -/
def iZm (K : PySem.W.Frag) (ta : TA) : TI := fun σ H R => ta σ H fun vs H1 => ∃ (t u : Bool) (a b : Addr) (xs ys : List V), vs = [.ref a, .ref b] ∧
  Sv t K H1 a xs ∧ Sv u K H1 b ys ∧ R (Itm t u K a b) H1
theorem pi_zm {X : Cx} {K : PySem.W.Frag} {e e2 : Expr} {ta : TA} {p pos tpos : Pos} {elts : List Expr} {kk : Nat} (hg : Gl X "zip") (hm : X.mg "zip" = none) (ha : PA X [e, e2] ta) (hK : X.K = K := by rfl)
    (hs : starEach [e, e2] X.env = (false, eval e X.env) :: starEach [e2] X.env := by rfl) (hpl : (backTo pos (starEach [e2] X.env)).any (·.1) = false := by rfl) :
    PI X (.Tuple elts kk tpos) (.Call (.Name "zip" p) [e, e2] [] pos) (iZm K ta) := by
  subst hK
  constructor
  intro pins s σ H R I h
  refine Call_ (ld_blt I hg hm PyProof.Rows.boot_zip (PyProof.Rows.callWith_type1 (thn (ha.run pos pins s σ H _ I h) ?_) hs hpl))
  rintro us s1 ⟨vs, H1, I1, r1, t, u, a, b, xs, ys, rfl, qx, qy, q⟩
  obtain ⟨w1, w2, rfl, ra, rb⟩ := vals2 r1
  cases (show w1 = Value.ref a from ra)
  cases (show w2 = Value.ref b from rb)
  obtain ⟨its, rv, p1, lt1⟩ := qx.real I1
  obtain ⟨its2, rv2, p2, lt2⟩ := qy.real I1
  refine call_zmix p1 p2 ?_
  intro h' Z
  refine wpAny_pyIter_zip Z.zip ?_
  have I2 : Inv X pins σ H1 { s1 with heap := h' } := I1.kept (t' := s1.toks) Z.keep
  let n := s1.heap.objs.size
  refine ⟨n + 4, [n + 4, n + 2, n + 3, n, n + 1], _, _, H1, rfl, I2, turn_zmix (PySem.W.ktu_apart n a b lt1 lt2), ⟨Z.zip, Z.its, ⟨_, _, Z.out⟩, Z.it1, Z.it2⟩, ?_, q⟩
  intro c hc
  have le : n ≤ c := by
    show s1.heap.objs.size ≤ c
    rcases in5 hc with e | e | e | e | e
    · have e' : @Eq Nat c (s1.heap.objs.size + 4) := e
      omega
    · have e' : @Eq Nat c (s1.heap.objs.size + 2) := e
      omega
    · have e' : @Eq Nat c (s1.heap.objs.size + 3) := e
      omega
    · have e' : @Eq Nat c (s1.heap.objs.size) := e
      omega
    · have e' : @Eq Nat c (s1.heap.objs.size + 1) := e
      omega
  exact I1.fpOk le (I1.hok.fresh le)
/-- the walk -/
theorem walk_zm {t u : Bool} {K : PySem.W.Frag} {a b : Addr} {xs ys : List V} {n : Nat} (hn : n = min xs.length ys.length) :
    Walk (Itm t u K a b) n (fun H => Sv t K H a xs ∧ Sv u K H b ys) (YPair (fun i => xs[i]?) (fun i => ys[i]?)) := by
  subst hn
  refine ⟨?_, ?_, ?_⟩
  · intro i H hi q
    have h1 : i < xs.length := by omega
    have h2 : i < ys.length := by omega
    exact ⟨xs, ys, xs[i], ys[i], q.1, q.2, by simp [h1], by simp [h2]⟩
  · intro H q
    exact ⟨xs, ys, q.1, q.2, by omega⟩
  · rintro i H x H' _ q ⟨N, v, v', h1, h2, h3, h4, h5⟩
    exact ⟨N, v, v', h1, h2, h3, h4 xs q.1, h5 ys q.2⟩
end VB
/-! comprehensions that change nothing, of any values -/
namespace VB
open PySem PySem.Spec PyProof.Rows L2
theorem lc_pureVS {J : It} {G : Hp → Prop} {n j : Nat} {us : List V} {xs : List V} {te : TE} {vs : List Nat} {σ : L2.St} {H1 : Hp} {D : Addr} {Qd : Hp → Prop} (wk : Walk J n G (YAt xs)) (hG : ∀ H, Evl.Ex H1 H → G H)
    (hl : us.length = n) (hz : n ≤ 60000) (hD : H1 D = none) (hw : ∀ x, wipe ((wipe σ vs).set j x) vs = wipe σ vs)
    (hs : ∀ (i : Nat) (x : V) (u : V) (H : Hp) (Q : VK), xs[i]? = some x → us[i]? = some u → Evl.Ex H1 H → (∀ H' : Hp, Evl.Ex H H' → Q u H') → te ((wipe σ vs).set j (some x)) H Q)
    (hd : ∀ H, Evl.Ex H1 H → H D = some (.lst us) → Qd H) :
    ∃ W : Nat → Nat → Hp → Prop, (∃ m, W 0 m (upd H1 D (.lst []))) ∧ ∀ i m H, W i m H →
      (J.stop i H ∧ Qd H) ∨ (J.go i H ∧ ∃ Nx : Hp → Prop, (∀ H', Nx H' → ∃ m', m' < m ∧ W (i + 1) m' H') ∧ ∀ x H', J.yld i H x H' →
        gName j x (wipe σ vs) H' fun σ2 H2 => wipe σ2 vs = wipe σ vs ∧ tYes σ2 H2 fun b H3 =>
        if b = true then te σ2 H3 fun y H4 => ∃ acc, H4 D = some (.lst acc) ∧ acc.length < sizeLine ∧ Nx (upd H4 D (.lst (acc ++ [y]))) else Nx H3) := by
  refine lc_it wk (fun i H' => Evl.Ex H1 H' ∧ i ≤ n ∧ H' D = some (.lst (us.take i))) ⟨Evl.Ex.new hD, Nat.zero_le _, upd_same⟩ (fun i H _ h => hG H h.1) ?_ ?_
  · rintro i x H H' hi ⟨e1, hi2, h1⟩ ⟨rfl, hx⟩
    refine ⟨hw _, ?_⟩
    obtain ⟨u, hu⟩ : ∃ u, us[i]? = some u := ⟨us[i]'(by omega), by simp [show i < us.length by omega]⟩
    show te _ H' _
    refine hs i x u H' _ hx hu e1 fun H'' e2 => ⟨_, e2 D _ h1, ?_, Evl.Ex.mut (e1.trans e2) hD, by omega, ?_⟩
    · rw [List.length_take]
      exact Evl.sz_lt (by omega)
    · rw [upd_same, take_snoc hu]
  · rintro H ⟨e1, _, h1⟩
    refine hd H e1 ?_
    rw [h1, ← hl, List.take_length]
/-- .. over pairs -/
theorem lc_pureVZ {K : PySem.W.Frag} {J : It} {G : Hp → Prop} {n j1 j2 : Nat} {us : List V} {xs ys : Nat → Option V} {te : TE} {vs : List Nat} {σ : L2.St} {H1 : Hp} {D : Addr} {Qd : Hp → Prop} (wk : Walk J n G (YPair xs ys)) (hG : ∀ H, Evl.Ex H1 H → G H)
    (hl : us.length = n) (hz : n ≤ 60000) (hD : H1 D = none) (hw : ∀ x y, wipe (((wipe σ vs).set j1 x).set j2 y) vs = wipe σ vs)
    (hs : ∀ (i : Nat) (x y : V) (u : V) (H : Hp) (Q : VK), xs i = some x → ys i = some y → us[i]? = some u → Evl.Ex H1 H → (∀ H' : Hp, Evl.Ex H H' → Q u H') → te (((wipe σ vs).set j1 (some x)).set j2 (some y)) H Q)
    (hd : ∀ H, Evl.Ex H1 H → H D = some (.lst us) → Qd H) :
    ∃ W : Nat → Nat → Hp → Prop, (∃ m, W 0 m (upd H1 D (.lst []))) ∧ ∀ i m H, W i m H →
      (J.stop i H ∧ Qd H) ∨ (J.go i H ∧ ∃ Nx : Hp → Prop, (∀ H', Nx H' → ∃ m', m' < m ∧ W (i + 1) m' H') ∧ ∀ x H', J.yld i H x H' →
        gTup K 2 (gCons (gName j1) (gCons (gName j2) gNil)) x (wipe σ vs) H' fun σ2 H2 => wipe σ2 vs = wipe σ vs ∧ tYes σ2 H2 fun b H3 =>
        if b = true then te σ2 H3 fun y H4 => ∃ acc, H4 D = some (.lst acc) ∧ acc.length < sizeLine ∧ Nx (upd H4 D (.lst (acc ++ [y]))) else Nx H3) := by
  refine lc_it wk (fun i H' => Evl.Ex H1 H' ∧ i ≤ n ∧ H' D = some (.lst (us.take i))) ⟨Evl.Ex.new hD, Nat.zero_le _, upd_same⟩ (fun i H _ h => hG H h.1) ?_ ?_
  · rintro i v H H' hi ⟨e1, hi2, h1⟩ ⟨T, x, y, rfl, hT, rfl, hx, hy⟩
    have eT := Evl.Ex.new (o := .tup [x, y]) hT
    refine ⟨T, _, rfl, SqT.of upd_same, rfl, x, _, rfl, ⟨y, _, rfl, ?_⟩⟩
    refine ⟨rfl, hw _ _, ?_⟩
    obtain ⟨u, hu⟩ : ∃ u, us[i]? = some u := ⟨us[i]'(by omega), by simp [show i < us.length by omega]⟩
    show te _ _ _
    refine hs i x y u _ _ hx hy hu (e1.trans eT) fun H'' e2 => ⟨_, e2 D _ (eT D _ h1), ?_, Evl.Ex.mut ((e1.trans eT).trans e2) hD, by omega, ?_⟩
    · rw [List.length_take]
      exact Evl.sz_lt (by omega)
    · rw [upd_same, take_snoc hu]
  · rintro H ⟨e1, _, h1⟩
    refine hd H e1 ?_
    rw [h1, ← hl, List.take_length]
/-- a sequence's type -/
theorem Sv.ty {t : Bool} {K : PySem.W.Frag} {H : Hp} {a : Addr} {xs : List V} (h : Sv t K H a xs) : TyX K H (.ref a) (.type (if t then "tuple" else "list")) := by
  cases t with
  | false =>
    have h : SqL K H a xs := h
    rcases h with (h | ⟨o, h⟩) | ⟨o, its, n, h, c, _⟩
    · exact .base (.lst h)
    · exact .base (.frz h)
    · exact .kList h c
  | true =>
    have h : SqT K H a xs := h
    rcases h with (h | ⟨o, h⟩) | ⟨o, its, n, h, c, _⟩
    · exact .base (.tup h)
    · exact .fTuple h
    · exact .kTuple h c
theorem kit_seq (K : PySem.W.Frag) (t : Bool) : PySem.W.kitAny K (.type (if t then "tuple" else "list")) [.type "list", .type "tuple"] = some true := by
  cases t with
  | false => exact kitAny_cons (b := true) (kit_ty (by decide +kernel)) (fun z => nomatch z) (fun _ => rfl)
  | true => exact kitAny_cons (b := false) (kit_ty (by decide +kernel)) (fun _ => kitAny_cons (b := true) (kit_ty (by decide +kernel)) (fun z => nomatch z) (fun _ => rfl)) (fun z => nomatch z)
/-- an int of the module -/
theorem pe_globI {X : Cx} {x : Str} {i : Int} {pos : Pos} (hg : Gl X x) (h : ∃ t, X.mg x = some (.int i t)) (hd : (x == ("__debug__" : Str)) = false := by decide) : PE X (.Name x pos) (tC (.int i)) := by
  obtain ⟨t, h⟩ := h
  exact pe_glob hg h ⟨_, rfl⟩ hd
end VB
/-! what the laws share -/
namespace VB
open PySem PySem.Spec PyProof.Rows L2 BM
section
variable {P : Program} {w : World} {K : PySem.W.Frag} {mg : Str → Option Value} {base : Heap} {f : Addr} {fd : FuncData}
/-- at a: a box: what is left of the digits, whether they count, the seed, the draws so far (below n) -/
def Box (H : Hp) (a : Addr) (n : Int) : Prop := ∃ (d m c : Int) (b : Bool), H a = some (.lst [.int d, .bl b, .int m, .int c]) ∧ 0 ≤ d ∧ 0 ≤ m ∧ m < 2147483629 ∧ 0 ≤ c ∧ c ≤ n
/-- all but what stands at a is as it was -/
def Exb (a : Addr) (H H' : Hp) : Prop := ∀ b o, b ≠ a → H b = some o → H' b = some o
theorem Exb.upd {a : Addr} {H : Hp} {o : HO} : Exb a H (upd H a o) := fun b u n e => by rw [upd_ne n]; exact e
theorem Exb.trans {a : Addr} {H H1 H2 : Hp} (x : Exb a H H1) (y : Exb a H1 H2) : Exb a H H2 := fun b o n e => y b o n (x b o n e)
theorem Exb.of {a : Addr} {H H' : Hp} (x : Evl.Ex H H') : Exb a H H' := fun b o _ e => x b o e
theorem Exb.new {a p : Addr} {H : Hp} {o : HO} (h : H p = none) : Exb a H (L2.upd H p o) := Exb.of (Evl.Ex.new h)
theorem Box.ex {H H' : Hp} {a : Addr} {n : Int} (b : Box H a n) (e : Evl.Ex H H') : Box H' a n := by
  obtain ⟨d, m, c, k, h, r⟩ := b
  exact ⟨d, m, c, k, e _ _ h, r⟩
theorem Box.at {H : Hp} {a p : Addr} {n : Int} (b : Box H a n) (h : H p = none) : p ≠ a := by
  obtain ⟨d, m, c, k, e, r⟩ := b
  rintro rfl
  rw [h] at e
  cases e
theorem Box.le {H : Hp} {a : Addr} {n m : Int} (b : Box H a n) (h : n ≤ m) : Box H a m := by
  obtain ⟨d, m', c, k, e, r1, r2, r3, r4, r5⟩ := b
  exact ⟨d, m', c, k, e, r1, r2, r3, r4, by omega⟩
abbrev ws8 : List Int := [128, 64, 32, 16, 8, 4, 2, 1]
theorem ws8_get {j : Nat} {u : Int} (h : ws8[j]? = some u) : 0 < u ∧ u ≤ 128 := by
  have m := List.mem_of_getElem? h
  simp only [ws8, List.mem_cons, List.not_mem_nil, or_false] at m
  omega
theorem bitsOf_ws (o : Int) : bitsOf o = ws8.map fun u => o / u % 2 := rfl
theorem octetsN_snoc : ∀ (n : Nat) (bs : List Int), octetsN (n + 1) bs = octetsN n bs ++ [octOf ((bs.drop (8 * n)).take 8)]
  | 0, bs => rfl
  | n + 1, bs => by
    show octOf (bs.take 8) :: octetsN (n + 1) (bs.drop 8) = octOf (bs.take 8) :: octetsN n (bs.drop 8) ++ _
    rw [octetsN_snoc n (bs.drop 8), List.drop_drop]
    have e : 8 + 8 * n = 8 * (n + 1) := by omega
    rw [e]
    rfl
theorem octetsN_len : ∀ (n : Nat) (bs : List Int), (octetsN n bs).length = n
  | 0, _ => rfl
  | n + 1, bs => by
    show (octetsN n (bs.drop 8)).length + 1 = _
    rw [octetsN_len n]
theorem cut8 (bs : List Int) (i : Nat) (hi : 8 * i ≤ bs.length) : cutV (IV bs) (some (0 + (i : Int) * 8)) (some (0 + (i : Int) * 8 + 8)) = IV ((bs.drop (8 * i)).take 8) := by
  have e1 : (0 : Int) + (i : Int) * 8 = ((8 * i : Nat) : Int) := by omega
  have e2 : ((8 * i : Nat) : Int) + 8 = ((8 * i + 8 : Nat) : Int) := by omega
  unfold cutV
  rw [e1, e2, HT.sIx_nat, HT.sIx_nat, iv_len, ← List.map_drop, ← List.map_take]
  have e3 : min (8 * i) bs.length = 8 * i := by omega
  rw [e3]
  congr 1
  rw [List.take_eq_take_iff, List.length_drop]
  omega
theorem octOf_snoc (bs : List Int) (b : Int) : octOf (bs ++ [b]) = 2 * octOf bs + b := by
  unfold octOf
  rw [List.foldl_append]
  rfl
theorem if_ne {x y : Int} {A B : Prop} (h1 : x ≠ y → A) (h2 : x = y → B) : if (!decide (V.int x = V.int y)) = true then A else B := by
  by_cases e : x = y
  · rw [decide_eq_true (congrArg V.int e)]
    exact iteF (h2 e)
  · rw [decide_eq_false (fun z => e (V.int.inj z))]
    exact iteT (h1 e)
theorem if_eq {x y : Int} {A B : Prop} (h1 : x = y → A) (h2 : x ≠ y → B) : if decide (V.int x = V.int y) = true then A else B := by
  by_cases e : x = y
  · rw [decide_eq_true (congrArg V.int e)]
    exact iteT (h1 e)
  · rw [decide_eq_false (fun z => e (V.int.inj z))]
    exact iteF (h2 e)
theorem drop_get {α : Type} {l : List α} {i : Nat} {x : α} (h : l[i]? = some x) : l.drop i = x :: l.drop (i + 1) := by
  obtain ⟨hi, e⟩ := List.getElem?_eq_some_iff.mp h
  rw [List.drop_eq_getElem_cons hi, e]
theorem get_lt {α : Type} {l : List α} {i : Nat} (h : i < l.length) : ∃ x, l[i]? = some x := ⟨l[i], by simp [h]⟩
theorem iv_set (pre post : List Int) (x y : Int) : (IV (pre ++ x :: post)).set pre.length (V.int y) = IV (pre ++ y :: post) := by
  rw [← List.map_set, List.set_append_right _ _ (Nat.le_refl _)]
  simp
theorem turned_cons (x y m : Int) (as bs : List Int) : turned (x :: as) (y :: bs) m = if x = y then x :: turned as bs m else (if m % 2 = 1 then y else x) :: turned as bs (m / 2) := by
  rw [turned]
/-- beyond all masks -/
def MM : Int := 2 ^ 4096
theorem MM_eq : (1 : Int) * 2 ^ (4096 : Int).toNat = MM := by
  have e : (4096 : Int).toNat = 4096 := rfl
  rw [e, Int.one_mul]
  rfl
theorem pow_nn (k : Nat) : (0 : Int) < 2 ^ k := Int.pow_pos (by decide)
theorem pow_mono {a b : Nat} (h : a ≤ b) : (2 : Int) ^ a ≤ 2 ^ b := by
  have q : (2 : Nat) ^ a ≤ 2 ^ b := Nat.pow_le_pow_right (by decide) h
  have q2 : (((2 : Nat) ^ a : Nat) : Int) ≤ ((2 ^ b : Nat) : Int) := Int.ofNat_le.mpr q
  simpa using q2
theorem MM_half {k : Nat} (h : k ≤ 4095) : 2 * (2 : Int) ^ k ≤ MM := by
  have q := pow_mono (a := k + 1) (b := 4096) (by omega)
  rw [Int.pow_succ] at q
  unfold MM
  omega
theorem lt_natAbs {x : Int} {n : Nat} (h0 : 0 ≤ x) (h : x < 2 ^ n) : x.natAbs < 2 ^ n := by
  have e : (x.natAbs : Int) = x := Int.natAbs_of_nonneg h0
  have q : (x.natAbs : Int) < ((2 ^ n : Nat) : Int) := by
    rw [e]
    simpa using h
  exact Int.ofNat_lt.mp q
theorem more_bits {x w : Int} {n : Nat} (h0 : 0 ≤ x) (h : x < 2 ^ n) (w0 : 0 ≤ w) (w1 : w < 2 ^ 48) : 0 ≤ x * 2 ^ 48 + w ∧ x * 2 ^ 48 + w < 2 ^ (n + 48) := by
  rw [Int.pow_add]
  have p : (0 : Int) < 2 ^ 48 := pow_nn 48
  have m : (x + 1) * 2 ^ 48 ≤ 2 ^ n * 2 ^ 48 := Int.mul_le_mul_of_nonneg_right (by omega) (Int.le_of_lt p)
  rw [Int.add_mul, Int.one_mul] at m
  have m0 : 0 ≤ x * 2 ^ 48 := Int.mul_nonneg h0 (Int.le_of_lt p)
  omega
theorem oct_snoc {xs : List Int} {r : Int} (h : Oct xs) (h0 : 0 ≤ r) (h1 : r ≤ 255) : Oct (xs ++ [r]) := by
  intro o ho
  rcases List.mem_append.mp ho with q | q
  · exact h o q
  · have e : o = r := by simpa using q
    omega
theorem zip_get {xs ys : List Int} {p : Int × Int} (h : p ∈ xs.zip ys) : ∃ i : Nat, xs[i]? = some p.1 ∧ ys[i]? = some p.2 := by
  obtain ⟨i, hi⟩ := List.mem_iff_getElem?.mp h
  obtain ⟨q1, q2⟩ := List.getElem?_zip_eq_some.mp hi
  exact ⟨i, q1, q2⟩
theorem bitAnd_pp {x y : Int} (hx : 0 ≤ x) (hy : 0 ≤ y) : Builtin.bitAnd x y = ((x.toNat &&& y.toNat : Nat) : Int) := by
  obtain ⟨a, rfl⟩ := nat_of hx
  obtain ⟨b, rfl⟩ := nat_of hy
  rfl
/-- two lists of octets, item by item -/
def both (f : Int → Int → Int) (xs ys : List Int) : List Int := (xs.zip ys).map fun p => f p.1 p.2
theorem both_len {f : Int → Int → Int} {xs ys : List Int} (h : xs.length = ys.length) : (both f xs ys).length = xs.length := by
  unfold both
  rw [List.length_map, List.length_zip]
  omega
theorem both_get {f : Int → Int → Int} {xs ys : List Int} {i : Nat} {u : Int} (h : (both f xs ys)[i]? = some u) : ∃ x y, xs[i]? = some x ∧ ys[i]? = some y ∧ u = f x y := by
  unfold both at h
  rw [List.getElem?_map] at h
  cases e : (xs.zip ys)[i]? with
  | none => rw [e] at h; cases h
  | some p =>
    rw [e] at h
    obtain ⟨q1, q2⟩ := List.getElem?_zip_eq_some.mp e
    exact ⟨p.1, p.2, q1, q2, (Option.some.inj h).symm⟩
theorem both_oct {f : Int → Int → Int} {xs ys : List Int} (ox : Oct xs) (oy : Oct ys) (h : ∀ x y, 0 ≤ x ∧ x ≤ 255 → 0 ≤ y ∧ y ≤ 255 → 0 ≤ f x y ∧ f x y ≤ 255) : Oct (both f xs ys) := by
  intro o ho
  obtain ⟨i, hi⟩ := List.mem_iff_getElem?.mp ho
  obtain ⟨x, y, hx, hy, rfl⟩ := both_get hi
  exact h x y (ox x (List.mem_of_getElem? hx)) (oy y (List.mem_of_getElem? hy))
theorem oct_and {x y : Int} (hx : 0 ≤ x ∧ x ≤ 255) (hy : 0 ≤ y ∧ y ≤ 255) : (0 ≤ Builtin.bitAnd x y ∧ Builtin.bitAnd x y ≤ 255) ∧ Le (bitsOf (Builtin.bitAnd x y)) (bitsOf x) := by
  rw [bitAnd_pp hx.1 hy.1]
  have e : ((x.toNat : Nat) : Int) = x := by omega
  have h := and_oct (a := x.toNat) (b := y.toNat) (by omega)
  refine ⟨by omega, ?_⟩
  have q := and_le x.toNat y.toNat
  rw [e] at q
  exact q
theorem oct_or {x y : Int} (hx : 0 ≤ x ∧ x ≤ 255) (hy : 0 ≤ y ∧ y ≤ 255) : (0 ≤ Builtin.bitOr x y ∧ Builtin.bitOr x y ≤ 255) ∧ Le (bitsOf x) (bitsOf (Builtin.bitOr x y)) := by
  rw [Bits.bitOr_pp hx.1 hy.1]
  have e : ((x.toNat : Nat) : Int) = x := by omega
  have h := or_oct (a := x.toNat) (b := y.toNat) (by omega) (by omega)
  refine ⟨by omega, ?_⟩
  have q := le_or x.toNat y.toNat
  rw [e] at q
  exact q
theorem bitsL_le' {xs ys : List Int} (hl : xs.length = ys.length) (h : ∀ (i : Nat) x y, xs[i]? = some x → ys[i]? = some y → Le (bitsOf x) (bitsOf y)) : Le (bitsL xs) (bitsL ys) :=
  bitsL_le hl fun p hp => by
    obtain ⟨i, h1, h2⟩ := zip_get hp
    exact h i _ _ h1 h2
theorem oct_255 (c : Nat) : Oct (List.replicate c 255) := fun o ho => by
  have e := List.eq_of_mem_replicate ho
  omega
theorem iv_rep (c : Nat) (o : Int) : IV (List.replicate c o) = List.replicate c (V.int o) := List.map_replicate ..
/-- one more octet of a comprehension over a box -/
def Grown (a D : Addr) (H0 : Hp) (m : Int) (i : Nat) (H' : Hp) : Prop := Exb a H0 H' ∧ Box H' a (m + 3 * i) ∧ ∃ xs : List Int, xs.length = i ∧ Oct xs ∧ H' D = some (.lst (IV xs))
theorem Grown.start {a D : Addr} {H : Hp} {m : Int} (B : Box H a m) (hD : H D = none) : Grown a D H m 0 (upd H D (.lst [])) :=
  ⟨Exb.new hD, (B.ex (Evl.Ex.new hD)).le (by omega), [], rfl, fun _ h => (by cases h), upd_same⟩
theorem Grown.more {a D : Addr} {H0 H1 H2 : Hp} {m r : Int} {i : Nat} (g : Grown a D H0 m i H1) (hD : D ≠ a) (hn : H0 D = none) (hi : i ≤ 1000) (e : Exb a H1 H2) (B : Box H2 a (m + 3 * i + 3)) (r0 : 0 ≤ r) (r1 : r ≤ 255) :
    ∃ acc, H2 D = some (.lst acc) ∧ acc.length < sizeLine ∧ Grown a D H0 m (i + 1) (upd H2 D (.lst (acc ++ [V.int r]))) := by
  obtain ⟨e1, B1, xs, hl, ho, h⟩ := g
  have B2 : Box (upd H2 D (.lst (IV xs ++ [V.int r]))) a (m + 3 * i + 3) := by
    obtain ⟨d, m', c, k, hb, q⟩ := B
    exact ⟨d, m', c, k, by rw [upd_ne (Ne.symm hD)]; exact hb, q⟩
  refine ⟨IV xs, e D _ hD h, by rw [iv_len, hl]; exact Evl.sz_lt (by omega), ?_, B2.le (by omega), xs ++ [r], by simp [hl], oct_snoc ho r0 r1, by rw [upd_same, iv_snoc]⟩
  intro b o n q
  have hb : b ≠ D := by
    rintro rfl
    rw [hn] at q
    cases q
  rw [upd_ne hb]
  exact e b o n (e1 b o n q)
/-- keywords in other orders than the parameters' -/
abbrev g1 : List Value → List Value → List Value := fun _ ws => [ws.getD 0 .none]
abbrev g1V : List V → List V → List V := fun _ ws => [ws.getD 0 .non]
abbrev g21 : List Value → List Value → List Value := fun _ ws => [ws.getD 1 .none, ws.getD 0 .none]
abbrev g21V : List V → List V → List V := fun _ ws => [ws.getD 1 .non, ws.getD 0 .non]
abbrev g321 : List Value → List Value → List Value := fun _ ws => [ws.getD 2 .none, ws.getD 1 .none, ws.getD 0 .none]
abbrev g321V : List V → List V → List V := fun _ ws => [ws.getD 2 .non, ws.getD 1 .non, ws.getD 0 .non]
theorem same_ne {x : V} {A B : Prop} (h : B) : if (!decide (x = x)) = true then A else B := by
  rw [decide_eq_true rfl]
  exact iteF h
theorem same_int {x y : Int} {A B : Prop} (e : x = y) (h : B) : if (!decide (V.int x = V.int y)) = true then A else B := by
  subst e
  exact same_ne h
theorem same_bl {x y : Bool} {A B : Prop} (e : x = y) (h : B) : if (!decide (V.bl x = V.bl y)) = true then A else B := by
  subst e
  exact same_ne h
theorem if_dec {p : Prop} [Decidable p] {A B : Prop} (h1 : p → A) (h2 : ¬ p → B) : if decide p = true then A else B := by
  by_cases z : p
  · rw [decide_eq_true z]
    exact iteT (h1 z)
  · rw [decide_eq_false z]
    exact iteF (h2 z)
theorem two_ways {x y : Int} {ta tb : TE} {σ : L2.St} {H : Hp} {Q : VK} (S : V → Hp → Prop) (ha : x = y → ∀ Q' : VK, (∀ v H', S v H' → Q' v H') → ta σ H Q')
    (hb : x ≠ y → ∀ Q' : VK, (∀ v H', S v H' → Q' v H') → tb σ H Q') (hQ : ∀ v H', S v H' → Q v H') : if decide (V.int x = V.int y) = true then ta σ H Q else tb σ H Q :=
  if_eq (fun z => ha z Q hQ) (fun z => hb z Q hQ)
theorem sm_fallen (n : Nat) (as bs : List Int) : ∀ (k : Int), 0 ≤ k → k + (as.length : Int) ≤ 10000 → Sm (fallenL k as bs) := by
  induction as generalizing bs with
  | nil =>
    intro k _ _
    cases bs <;> exact fun n hn => by cases hn
  | cons a as ih =>
    intro k hk hl
    cases bs with
    | nil => exact fun n hn => by cases hn
    | cons b bs =>
      have r := ih bs (k + 1) (by omega) (by simp at hl; omega)
      rw [fallenL]
      split
      · intro n hn
        cases hn with
        | head => simp at hl; omega
        | tail _ hn => exact r n hn
      · exact r
theorem zip8 {f : Int → Int → Int} {a0 a1 a2 a3 a4 a5 a6 a7 b0 b1 b2 b3 b4 b5 b6 b7 : Int} : List.zipWith f [a7, a6, a5, a4, a3, a2, a1, a0] [b7, b6, b5, b4, b3, b2, b1, b0] = [f a7 b7, f a6 b6, f a5 b5, f a4 b4, f a3 b3, f a2 b2, f a1 b1, f a0 b0] := rfl
theorem xor_bits {x y : Int} (hx : 0 ≤ x ∧ x ≤ 255) (hy : 0 ≤ y ∧ y ≤ 255) : bitsOf (Builtin.bitXor x y) = List.zipWith (fun a b => if a = b then 0 else 1) (bitsOf x) (bitsOf y) := by
  obtain ⟨a, rfl⟩ := nat_of hx.1
  obtain ⟨b, rfl⟩ := nat_of hy.1
  rw [Bits.bitXor_pp hx.1 hy.1, Int.toNat_natCast, Int.toNat_natCast, bitsOf_tb, bitsOf_tb, bitsOf_tb, zip8]
  simp only [tb_xor]
theorem and_bits {x y : Int} (hx : 0 ≤ x ∧ x ≤ 255) (hy : 0 ≤ y ∧ y ≤ 255) : bitsOf (Builtin.bitAnd x y) = List.zipWith (fun a b => if a = 1 ∧ b = 1 then 1 else 0) (bitsOf x) (bitsOf y) := by
  obtain ⟨a, rfl⟩ := nat_of hx.1
  obtain ⟨b, rfl⟩ := nat_of hy.1
  rw [bitAnd_pp hx.1 hy.1, Int.toNat_natCast, Int.toNat_natCast, bitsOf_tb, bitsOf_tb, bitsOf_tb, zip8]
  simp only [tb_and]
theorem xor_range {x y : Int} (hx : 0 ≤ x ∧ x ≤ 255) (hy : 0 ≤ y ∧ y ≤ 255) : 0 ≤ Builtin.bitXor x y ∧ Builtin.bitXor x y ≤ 255 := by
  rw [Bits.bitXor_pp hx.1 hy.1]
  have h := xor_oct (a := x.toNat) (b := y.toNat) (by omega) (by omega)
  omega
/-- what falls, octet by octet -/
def fallO (x y : Int) : Int := Builtin.bitAnd x (Builtin.bitXor x y)
def riseO (x y : Int) : Int := Builtin.bitAnd y (Builtin.bitXor x y)
theorem fallO_range {x y : Int} (hx : 0 ≤ x ∧ x ≤ 255) (hy : 0 ≤ y ∧ y ≤ 255) : 0 ≤ fallO x y ∧ fallO x y ≤ 255 := (oct_and hx (xor_range hx hy)).1
theorem riseO_range {x y : Int} (hx : 0 ≤ x ∧ x ≤ 255) (hy : 0 ≤ y ∧ y ≤ 255) : 0 ≤ riseO x y ∧ riseO x y ≤ 255 := (oct_and hy (xor_range hx hy)).1
theorem zw_self {f g : Int → Int → Int} (h : ∀ a b : Int, f a (g a b) = (fun a b => f a (g a b)) a b) : ∀ as bs : List Int, List.zipWith f as (List.zipWith g as bs) = List.zipWith (fun a b => f a (g a b)) as bs
  | [], _ => by simp
  | _ :: _, [] => by simp
  | a :: as, b :: bs => by simp [zw_self h as bs]
theorem zw_other {f g : Int → Int → Int} : ∀ as bs : List Int, List.zipWith f bs (List.zipWith g as bs) = List.zipWith (fun a b => f b (g a b)) as bs
  | [], _ => by simp
  | _ :: _, [] => by simp
  | a :: as, b :: bs => by simp [zw_other as bs]
theorem ones_fall {xs ys : List Int} (ox : Oct xs) (oy : Oct ys) (hl : xs.length = ys.length) : onesL 0 (bitsL (both fallO xs ys)) = fallenL 0 (bitsL xs) (bitsL ys) := by
  have e : bitsL (both fallO xs ys) = List.zipWith (fun a b => if a = 1 ∧ (if a = b then (0 : Int) else 1) = 1 then (1 : Int) else 0) (bitsL xs) (bitsL ys) := by
    refine bitsL_both (fun x y hx hy => ?_) xs ys ox oy
    unfold fallO
    rw [and_bits hx (xor_range hx hy), xor_bits hx hy, zw_self fun _ _ => rfl]
  rw [e]
  refine ones_of (fun as bs k => fallenL k as bs) (fun a b => a = 1 ∧ b = 0) (fun _ => by simp [fallenL]) (fun a as b bs k => by rw [fallenL]) ?_ _ _ 0 (by rw [bitsL_len, bitsL_len, hl]) (bitsL_bit xs) (bitsL_bit ys)
  intro a b ha hb
  rcases ha with rfl | rfl <;> rcases hb with rfl | rfl <;> decide
theorem fallen_swap : ∀ (as bs : List Int) (k : Int) , fallenL k bs as = (fun (as bs : List Int) (k : Int) => fallenL k bs as) as bs k := fun _ _ _ => rfl
theorem ones_rise {xs ys : List Int} (ox : Oct xs) (oy : Oct ys) (hl : xs.length = ys.length) : onesL 0 (bitsL (both riseO xs ys)) = fallenL 0 (bitsL ys) (bitsL xs) := by
  have e : bitsL (both riseO xs ys) = List.zipWith (fun a b => if b = 1 ∧ (if a = b then (0 : Int) else 1) = 1 then (1 : Int) else 0) (bitsL xs) (bitsL ys) := by
    refine bitsL_both (fun x y hx hy => ?_) xs ys ox oy
    unfold riseO
    rw [and_bits hy (xor_range hx hy), xor_bits hx hy, zw_other]
  rw [e]
  refine ones_of (fun as bs k => fallenL k bs as) (fun a b => b = 1 ∧ a = 0) (fun _ => by simp [fallenL]) (fun a as b bs k => by rw [fallenL]) ?_ _ _ 0 (by rw [bitsL_len, bitsL_len, hl]) (bitsL_bit xs) (bitsL_bit ys)
  intro a b ha hb
  rcases ha with rfl | rfl <;> rcases hb with rfl | rfl <;> decide
theorem ones_diff {xs ys : List Int} (ox : Oct xs) (oy : Oct ys) (hl : xs.length = ys.length) : onesL 0 (bitsL (both Builtin.bitXor xs ys)) = diffL 0 (bitsL xs) (bitsL ys) := by
  have e : bitsL (both Builtin.bitXor xs ys) = List.zipWith (fun a b => if a = b then (0 : Int) else 1) (bitsL xs) (bitsL ys) :=
    bitsL_both (fun x y hx hy => xor_bits hx hy) xs ys ox oy
  rw [e]
  refine ones_of (fun as bs k => diffL k as bs) (fun a b => ¬ a = b) (fun _ => by simp [diffL]) (fun a as b bs k => ?_) ?_ _ _ 0 (by rw [bitsL_len, bitsL_len, hl]) (bitsL_bit xs) (bitsL_bit ys)
  · rw [diffL]
    by_cases z : a = b <;> simp [z]
  · intro a b ha hb
    rcases ha with rfl | rfl <;> rcases hb with rfl | rfl <;> decide
/-- the zeros of an octet -/
def zO (n : Nat) : Int := 8 - (([n / 128 % 2, n / 64 % 2, n / 32 % 2, n / 16 % 2, n / 8 % 2, n / 4 % 2, n / 2 % 2, n / 1 % 2].count 1 : Nat) : Int)
theorem zO_eq : ∀ n : Nat, n < 256 → zO n = (((bitsOf (n : Int)).count 0 : Nat) : Int) := by decide +kernel
theorem zO_sum : ∀ os : List Int, Oct os → (os.map fun o => zO o.toNat).sum = zc (bitsL os)
  | [], _ => rfl
  | o :: os, h => by
    have r := zO_sum os fun x hx => h x (List.mem_cons_of_mem _ hx)
    have ho := h o (List.mem_cons_self ..)
    obtain ⟨n, rfl⟩ := nat_of ho.1
    rw [List.map_cons, List.sum_cons, r, Int.toNat_natCast, zO_eq n (by omega), bitsL_cons]
    unfold zc
    rw [List.count_append]
    omega
theorem ty_int (K : PySem.W.Frag) (H : Hp) (i : Int) : TyX K H (.int i) (.type "int") := .base (.int i)
theorem bitAnd_nn (a b : Nat) : Builtin.bitAnd (a : Int) (b : Int) = ((a &&& b : Nat) : Int) := by
  rw [bitAnd_pp (by omega) (by omega)]
  rfl
theorem worth_nat (j : Nat) : (128 : Int) / 2 ^ j = ((128 / 2 ^ j : Nat) : Int) := by
  simp
/-- at bit n of octets -/
theorem at_bit {xs : List Int} {n : Nat} (ox : Oct xs) (h : n < 8 * xs.length) : ∃ o : Nat, o < 256 ∧ xs[n / 8]? = some (o : Int) ∧ (bitsL xs)[n]? = (bitsOf (o : Int))[n % 8]? := by
  obtain ⟨x, hx⟩ := get_lt (l := xs) (i := n / 8) (by omega)
  have hm := ox x (List.mem_of_getElem? hx)
  obtain ⟨o, rfl⟩ := nat_of hm.1
  refine ⟨o, by omega, hx, ?_⟩
  have e := bitsL_get xs (n / 8) (n % 8) (by omega)
  rw [hx] at e
  have e2 : 8 * (n / 8) + n % 8 = n := by omega
  rw [e2] at e
  exact e
theorem both_at {g : Int → Int → Int} {xs ys : List Int} {i : Nat} {x y u : V} (hx : (IV xs)[i]? = some x) (hy : (IV ys)[i]? = some y) (hu : (IV (both g xs ys))[i]? = some u) : ∃ m n : Int, x = .int m ∧ y = .int n ∧ u = .int (g m n) := by
  obtain ⟨m, hm, rfl⟩ := iv_get hx
  obtain ⟨n, hn, rfl⟩ := iv_get hy
  obtain ⟨k, hk, rfl⟩ := iv_get hu
  obtain ⟨m', n', hm', hn', rfl⟩ := both_get hk
  rw [hm] at hm'
  rw [hn] at hn'
  cases hm'
  cases hn'
  exact ⟨_, _, rfl, rfl, rfl⟩
theorem bitXor_nn (a b : Nat) : Builtin.bitXor (a : Int) (b : Int) = ((a ^^^ b : Nat) : Int) := by
  rw [Bits.bitXor_pp (by omega) (by omega)]
  rfl
/-- one unlike bit on -/
theorem one_turn {os done as' bs' U : List Int} {m : Int} {i : Nat} {p : Int} {rest : List Int} (ho : Oct os) (hb : bitsL os = done ++ as') (bb : Bit bs') (hl : as'.length = bs'.length) (hu : diffL (done.length : Int) as' bs' = p :: rest) :
    ∃ (n o : Nat) (x y : Int) (pre as2 bs2 : List Int), p = (n : Int) ∧ o < 256 ∧ os[n / 8]? = some (o : Int) ∧ n / 8 < os.length ∧ as'.length = pre.length + 1 + as2.length ∧ as2.length = bs2.length ∧ Bit bs2 ∧
      (∀ m, turned as' bs' m = pre ++ (if m % 2 = 1 then y else x) :: turned as2 bs2 (m / 2)) ∧ rest = diffL ((done.length + pre.length + 1 : Nat) : Int) as2 bs2 ∧ bitsL os = (done ++ pre ++ [x]) ++ as2 ∧
      Oct (os.set (n / 8) ((o ^^^ (128 / 2 ^ (n % 8)) : Nat) : Int)) ∧ bitsL (os.set (n / 8) ((o ^^^ (128 / 2 ^ (n % 8)) : Nat) : Int)) = (done ++ pre ++ [y]) ++ as2 := by
  obtain ⟨pre, x, y, as2, bs2, h1, h2, h3, h4, h5, h6, h7⟩ := diff_at as' bs' _ p rest hl hu
  have lb := bitsL_len os
  have hn : done.length + pre.length < 8 * os.length := by
    rw [← lb, hb, h1]
    simp
  obtain ⟨o, o1, o2, o3⟩ := at_bit ho hn
  have bx : (bitsL os)[done.length + pre.length]? = some x := by
    rw [hb, h1, List.getElem?_append_right (by omega), Nat.add_sub_cancel_left, List.getElem?_append_right (by omega)]
    simp
  have bx2 : (bitsOf (o : Int))[(done.length + pre.length) % 8]? = some x := by rw [← o3]; exact bx
  have hx : x = 0 ∨ x = 1 := bitsL_bit os x (List.mem_of_getElem? bx)
  have hy : y = 0 ∨ y = 1 := bb y (by rw [h2]; simp)
  have yx : y = 1 - x := by omega
  obtain ⟨t1, t2⟩ := bit_turn o o1 ((done.length + pre.length) % 8) (by omega)
  have gd : (bitsOf (o : Int)).getD ((done.length + pre.length) % 8) 0 = x := by rw [List.getD_eq_getElem?_getD, bx2]; rfl
  rw [gd, ← yx] at t2
  have st := bitsL_set os ((done.length + pre.length) / 8) ((done.length + pre.length) % 8) _ _ _ (by omega) o2 t2
  have e8 : 8 * ((done.length + pre.length) / 8) + (done.length + pre.length) % 8 = done.length + pre.length := by omega
  rw [e8] at st
  refine ⟨done.length + pre.length, o, x, y, pre, as2, bs2, by rw [h4]; simp, o1, o2, by omega, by rw [h1]; simp; omega, h6, fun b hbm => bb b (by rw [h2]; simp [hbm]), h7, by rw [h5, h4]; congr 1, ?_, ?_, ?_⟩
  · rw [hb, h1]
    simp
  · intro z hz
    rcases List.mem_or_eq_of_mem_set hz with z1 | z1
    · exact ho z z1
    · omega
  · rw [st, hb, h1, List.append_assoc, List.append_assoc, List.set_append_right _ _ (by omega), Nat.add_sub_cancel_left]
    congr 1
    rw [List.set_append_right _ _ (Nat.le_refl _), Nat.sub_self]
    rfl
theorem Sv.tupOf {H : Hp} {a : Addr} {xs : List V} {t : Bool} {Q : VK} (S : Sv t K H a xs) (q : ∀ p H', Evl.Ex H H' → SqT K H' p xs → Q (.ref p) H') : rTupI K [.ref a] H Q := by
  unfold rTupI
  cases t with
  | false => exact ⟨a, xs, rfl, .inl ⟨S, fun l hl => q l _ (Evl.Ex.new hl) (SqT.of upd_same)⟩⟩
  | true => exact ⟨a, xs, rfl, .inr ⟨S, q a H (Evl.Ex.refl _) S⟩⟩
theorem Sv.listOf {H : Hp} {a : Addr} {xs : List V} {t : Bool} {Q : VK} (S : Sv t K H a xs) (q : ∀ p, H p = none → Q (.ref p) (upd H p (.lst xs))) : rListI K [.ref a] H Q := by
  unfold rListI
  exact ⟨a, xs, rfl, S.either, q⟩
theorem test_false {c : TT} {t u : TS} {D : Ends} {σ : L2.St} {H : Hp} (hc : ∀ Q' : Bool → Hp → Prop, (∀ H1, Evl.Ex H H1 → Q' false H1) → c σ H Q') (hu : ∀ H1, Evl.Ex H H1 → u D σ H1) : tIfI c t u D σ H := by
  unfold tIfI
  exact hc _ fun H1 e => iteF (hu H1 e)
theorem mem3 {w p q r : Int} {A B : Prop} (h1 : (w = p ∨ w = q ∨ w = r) → A) (h2 : B) : if (if false = true then !inV (V.int w) [.int p, .int q, .int r] else inV (V.int w) [.int p, .int q, .int r]) = true then A else B := by
  have e : (if false = true then !inV (V.int w) [.int p, .int q, .int r] else inV (V.int w) [.int p, .int q, .int r]) = decide (w = p ∨ w = q ∨ w = r) := by
    simp [inV, eqV, Bool.beq_eq_decide_eq, eq_comm]
  rw [e]
  exact if_dec h1 fun _ => h2
theorem in3 (w p q r : Int) : inV (.int w) [.int p, .int q, .int r] = decide (w = p ∨ w = q ∨ w = r) := by
  simp [inV, eqV, Bool.beq_eq_decide_eq, eq_comm]
abbrev tn (xs ys : List Int) (m : Int) : List Int := octetsL (turned (bitsL xs) (bitsL ys) m)
theorem tn_spec {xs ys : List Int} (m : Int) (hl : xs.length = ys.length) : bitsL (tn xs ys m) = turned (bitsL xs) (bitsL ys) m ∧ Oct (tn xs ys m) ∧ (tn xs ys m).length = xs.length := by
  have lx := bitsL_len xs
  have ly := bitsL_len ys
  have l := turned_len (bitsL xs) (bitsL ys) m (by omega)
  exact octetsL_spec (by omega) (turned_bit _ _ m (bitsL_bit xs) (bitsL_bit ys))
theorem sm_oct {xs : List Int} (h : Oct xs) : Sm xs := fun n hn => by
  have := h n hn
  omega
theorem ex_b {a : Addr} {H0 H H' : Hp} (e : Evl.Ex H0 H) (h : H0 a = none) (x : Exb a H H') : Evl.Ex H0 H' := fun b o q => x b o (fun z => by rw [z, h] at q; cases q) (e b o q)
theorem same_eq {x : V} {A B : Prop} (h : A) : if decide (x = x) = true then A else B := by
  rw [decide_eq_true rfl]
  exact iteT h
theorem ones_ok {k : Nat} (h : k ≤ 4096) : 0 ≤ (2 : Int) ^ k - 1 ∧ (2 : Int) ^ k - 1 < MM := by
  have p := pow_nn k
  have q : (2 : Int) ^ k ≤ MM := pow_mono h
  omega
theorem same_v {x y : V} {A B : Prop} (e : x = y) (h : B) : if (!decide (x = y)) = true then A else B := by
  subst e
  exact same_ne h
theorem bits_rep (o b : Int) (h : bitsOf o = List.replicate 8 b) : ∀ c : Nat, bitsL (List.replicate c o) = List.replicate (8 * c) b
  | 0 => rfl
  | c + 1 => by
    rw [List.replicate_succ, bitsL_cons, bits_rep o b h c, h, List.replicate_append_replicate]
    congr 1
    omega
theorem bits_ones (c : Nat) : bitsL (List.replicate c 255) = List.replicate (8 * c) 1 := bits_rep 255 1 (by decide) c
theorem bits_none (c : Nat) : bitsL (List.replicate c 0) = List.replicate (8 * c) 0 := bits_rep 0 0 (by decide) c
theorem oct_0 (c : Nat) : Oct (List.replicate c 0) := fun o h => by rw [List.eq_of_mem_replicate h]; omega
theorem zc_ones (n : Nat) : zc (List.replicate n 1) = 0 := by
  unfold zc
  rw [List.count_replicate]
  rfl
theorem zc_none (n : Nat) : zc (List.replicate n 0) = n := by
  unfold zc
  rw [List.count_replicate_self]
theorem le_rep : ∀ n : Nat, Le (List.replicate n 0) (List.replicate n 1)
  | 0 => Le.refl _
  | n + 1 => by
    rw [List.replicate_succ, List.replicate_succ]
    have := le_rep n
    simp [Le, this]
theorem fallen_rep : ∀ (n : Nat) (k : Int), fallenL k (List.replicate n 1) (List.replicate n 0) = (List.range n).map fun (i : Nat) => k + (i : Int)
  | 0, k => rfl
  | n + 1, k => by
    rw [List.replicate_succ, List.replicate_succ, fallenL, if_pos ⟨rfl, rfl⟩, fallen_rep n (k + 1), List.range_succ_eq_map, List.map_cons, List.map_map]
    congr 1
    · simp
    · apply List.map_congr_left
      intro i _
      simp
      omega
theorem due_long {c n : Nat} {dd : List Int} (hn : n = 512) (h : n ≤ c) (hd : dd = List.replicate n 0 ++ List.replicate (c - n) 255) : octetsL (turned (bitsL (List.replicate c 255)) (bitsL (List.replicate c 0)) (2 ^ 4096 - 1)) = dd := by
  subst hd
  have n8 : 4096 = 8 * n := by omega
  rw [n8]
  clear n8 hn
  have e : 8 * c = 8 * n + 8 * (c - n) := by omega
  rw [bits_ones, bits_none, e, turned_first]
  have e2 : List.replicate (8 * n) (0 : Int) ++ List.replicate (8 * (c - n)) 1 = bitsL (List.replicate n 0 ++ List.replicate (c - n) 255) := by
    rw [bitsL_append, bits_none, bits_ones]
  rw [e2, octetsL_bitsL]
  intro o ho
  rcases List.mem_append.mp ho with z | z
  · exact oct_0 _ o z
  · exact oct_255 _ o z
theorem rep_flat (k : Nat) (o : Int) : (List.replicate k [V.int o]).flatten = IV (List.replicate k o) := by
  rw [iv_rep]
  simp
/-- (o,) * k -/
theorem mulT1 {H : Hp} {t : Addr} {k o : Int} {Q : VK} (S : SqT K H t [V.int o]) (h1 : 1 ≤ k) (h2 : k ≤ 1000) (q : ∀ (n : Nat) p H', (n : Int) = k → Evl.Ex H H' → SqT K H' p (IV (List.replicate n o)) → Q (.ref p) H') : rMulU1 K (.ref t) (.int k) H Q := by
  unfold rMulU1
  by_cases e : k = 1
  · subst e
    exact .inr ⟨t, _, rfl, rfl, S, q 1 t H rfl (Evl.Ex.refl _) S⟩
  · refine .inl (.inr (.inr ⟨t, k, _, rfl, rfl, S, by simp, by omega, h2, by simp, fun p hp => q k.toNat p _ (by omega) (Evl.Ex.new hp) ?_⟩))
    rw [rep_flat]
    exact SqT.of upd_same
theorem mulL1 {H : Hp} {t : Addr} {k o : Int} {Q : VK} (S : H t = some (.lst [V.int o])) (h1 : 1 ≤ k) (h2 : k ≤ 1000) (q : ∀ (n : Nat) p H', (n : Int) = k → H p = none → Evl.Ex H H' → H' p = some (.lst (IV (List.replicate n o))) → Q (.ref p) H') : rMulU1 K (.ref t) (.int k) H Q := by
  unfold rMulU1
  refine .inl (.inr (.inl ⟨t, _, _, rfl, rfl, S, by omega, by omega, ?_, fun p hp => q k.toNat p _ (by omega) hp (Evl.Ex.new hp) ?_⟩))
  · exact Evl.sz_of (by simp; omega)
  · rw [upd_same, rep_flat]
theorem mulI1 {H : Hp} {i j : Int} {Q : VK} (c : CMulX i j) (q : Q (.int (i * j)) H) : rMulU1 K (.int i) (.int j) H Q := by
  unfold rMulU1
  exact .inl (.inl ⟨i, j, rfl, rfl, c, q⟩)
theorem rg_iv (n : Nat) : rgV 0 (n : Int) = IV ((List.range n).map fun (i : Nat) => (0 : Int) + (i : Int)) := by
  have e : ((n : Int) - 0).toNat = n := by omega
  have e2 : ∀ l : List Int, IV l = l.map V.int := fun _ => rfl
  unfold rgV
  rw [e, e2, List.map_map]
  rfl
end
end VB
/-! errors with a value: made, raised, caught by several clauses with a name, their value read -/
namespace VB
open PySem PySem.Spec PyProof.Rows L2
/-! ### try: .. except A as n: .. except B as n: .. -/
/-- what the clauses wish of an exception of the body, one behind the other; slot i is n's -/
def wManyAs (K : PySem.W.Frag) (i : Nat) (Wout : WX) (D : Ends) : List (Value × (Addr → Value → Option Addr → TS)) → WX
  | [] => Wout
  | (c, ts) :: r => fun cls d σ H => ∃ b, PySem.W.exmOne K cls c = some b ∧
      (b = true → ∀ a, H a = none → ts a cls d { nx := fun σ' H' => D.nx (σ'.set i none) H', rt := D.rt, bk := fun σ' H' => D.bk (σ'.set i none) H', ct := fun σ' H' => D.ct (σ'.set i none) H' } (σ.set i (some (.ref a))) H) ∧
      (b = false → wManyAs K i Wout D r cls d σ H)
inductive HdsAs (X : Cx) (i : Nat) (n : Str) : List ExceptHandler → List (Value × (Addr → Value → Option Addr → TS)) → Prop
  | nil : HdsAs X i n [] []
  | cons {x : Str} {c : Value} {ts : Addr → Value → Option Addr → TS} {b₀ : Stmt} {suite : List Stmt} {np pos' : Pos} {hds : List ExceptHandler} {l : List (Value × (Addr → Value → Option Addr → TS))} (hc : Names X x c)
      (hsu : ∀ (a : Addr) (oe : Obj) (cls : Value) (d : Option Addr) (pn : List (Addr × Obj)), Zc cls d oe → (∃ vs, oe.data = .fields vs) → PSs (X.suite a ((a, oe) :: pn)) (b₀ :: suite) (ts a cls d)) (r : HdsAs X i n hds l) :
      HdsAs X i n (.ExceptHandler (some (.Name x np)) (some n) (b₀ :: suite) pos' :: hds) ((c, ts) :: l)
section
variable {X : Cx} {body : List Stmt} {h₀ : ExceptHandler} {hds : List ExceptHandler} {l : List (Value × (Addr → Value → Option Addr → TS))} {pos : Pos} {tb : WX → TS} {Wout : WX} {i : Nat} {n : Str}
theorem ps_try_manyAs (hs : X.stack = X.env :: X.outer) (hf : X.env.frame = some X.env.locals) (hN : X.N.Nodup) (hi : X.N[i]? = some n) (hln : X.env.kindOf n = some .local) (tk : Takes X Wout)
    (hb : ∀ (W : WX) (pn : List (Addr × Obj)) (xe : Value → Shared → Prop), Takes (X.tr pn xe) W → PassesOwn (model X.prog X.w) X.A X.env xe → PSs (X.tr pn xe) body (tb W))
    (hh : HdsAs X i n (h₀ :: hds) l) : PS X (.Try body (h₀ :: hds) [] [] pos) (fun D σ H => tb (wManyAs X.K i Wout D l) D σ H) := by
  refine ⟨fun pins s σ H D I h => ?_⟩
  have ok := I.ok
  have hfr : X.A.frames = some (X.env :: X.outer) := by rw [ok.frames, hs]
  have hloc : Loc X.env.scope n := .inl hln
  refine wpAny_Try_except ?_
  refine wpAny_mono ((hb (wManyAs X.K i Wout D l) (X.pn ++ pins) (fun e s₁ => wpAny (model X.prog X.w) X.A (noteFrame e X.env) (fun _ s₂ => wpAny (model X.prog X.w) X.A (setFlight e none) (fun _ s₃ =>
    wpAny (model X.prog X.w) X.A (handleBy e X.env (h₀ :: hds)) (SP X pins D) X.xe s₃) X.xe s₂) X.xe s₁) (fun u s' xx => ?_) PassesOwn.looking).run [] s σ H D (I.toTry _) h) (fun f s1 hsp => ?_) (fun e s1 he => he)
  · -- the catch
    obtain ⟨a, B, sI, pins', σ', H', cls, d, rfl, J', nb, up, sky, na, os, ag, w⟩ := xx
    have J : Inv X pins σ' H' sI := J'.ofTry ok
    have sky' : Sky B (X.env :: X.outer) a (Zc cls d) X.env.locals s'.heap := by rw [← hs]; exact sky
    show wpAny (model X.prog X.w) X.A (noteFrame (.ref a) X.env) _ _ _
    refine Sky.land Zc.steady hfr hf sky' fun h3 fl3 up3 => ?_
    have J3 : Inv X pins σ' H' { s' with heap := h3 } := J.landed nb fl3.1 (up.trans up3) os ag
    obtain ⟨oe3, vs3, he3, hz3, hd3⟩ := fl3.there
    have notFr : ∀ {h : Heap} {o : Obj} {vs : Array Value}, h.FunFrames B (X.env :: X.outer) → h.get? a = some o → o.data = .fields vs → a ∉ frs (X.env :: X.outer) := fun {h o vs} ff e dd hm => by
      obtain ⟨_, o', e', hnf⟩ := ff.mem hm
      rw [e] at e'; cases e'
      exact hnf _ dd
    have nfr := notFr fl3.2.2.1 he3 hd3
    have nL : a ≠ X.env.locals := fun z => nfr (List.mem_filterMap.mpr ⟨X.env, List.mem_cons_self, by rw [hf, z]⟩)
    have nF : a ∉ X.fs := fun hm => by
      obtain ⟨e, he, q⟩ := List.mem_filterMap.mp hm
      exact nfr (List.mem_filterMap.mpr ⟨e, List.mem_cons_of_mem _ he, q⟩)
    have S3 := J3.suite he3 hd3 na nL nF
    have go : ∀ {hds' : List ExceptHandler} {l' : List (Value × (Addr → Value → Option Addr → TS))}, HdsAs X i n hds' l' → wManyAs X.K i Wout D l' cls d σ' H' →
        wpAny (model X.prog X.w) X.A (handleBy (.ref a) X.env hds') (SP X pins D) X.xe { s' with heap := h3 } := by
      intro hds' l' hk
      induction hk with
      | nil =>
        intro w
        refine wpAny_handleBy_nil ?_
        obtain ⟨k1, k2, k3, oe, vs, T, oT, ts', he, hz, hd, h1, hr⟩ := id fl3
        unfold PySem.passOn
        refine wpAny_bind (wpAny_field he hd h1 ?_)
        rw [if_neg (show ¬ ((Value.ref T == Value.none) = true) from by simp)]
        have fin : wpAny (model X.prog X.w) X.A (setFlight (.ref a) X.env.frame) (fun _ s4 => wpAny (model X.prog X.w) X.A (throw (.ref a) : Sem Flow) (SP X pins D) X.xe s4) X.xe { s' with heap := h3 } := by
          rw [hf]
          refine HandSPX.setFlight_upZ fl3 fun h4 hh4 up4 => wpAny_throw (tk _ _ ?_)
          exact ⟨a, B, sI, pins, σ', H', cls, d, rfl, J, nb, (up.trans up3).trans up4, .inr (.inr (by rw [hs]; exact hh4)), na, os, ag, w⟩
        first
          | exact wpAny_bind (wpAny_pure (wpAny_bind fin))
          | exact wpAny_bind fin
      | @cons x c ts b₀ suite np pos' hds2 l2 hc hsu r ih =>
        intro w
        obtain ⟨b, hb1, hyes, hno⟩ := w
        refine wpAny_handleBy_cons (codeAny_handlers_test ?_) (by intro q; cases q)
        have LT : PySem.W.Looks (model X.prog X.w) h3 (typeOf (.ref a)) cls := fun A Q E s k q => wpAny_typeOf_ref (k _ _ he3) (by rw [hz3.1]; exact q)
        have LM := PySem.W.exm_one (M := model X.prog X.w) (J3.kIn) LT hb1
        have test : ∀ {Q : Value → Shared → Prop} {E : Value → Shared → Prop}, Q c { s' with heap := h3 } → wpAny (model X.prog X.w) (X.A.mark (some (.ref a))) (eval (.Name x np) X.env) Q E { s' with heap := h3 } := fun {Q E} q => by
          obtain ⟨hg, hdbg, hm | ⟨hm, hv, hnn⟩⟩ := hc
          · exact ld_glob (X := X.suite a ((a, oe3) :: (X.pn ++ pins))) S3 hg hm q hdbg
          · exact ld_blt (X := X.suite a ((a, oe3) :: (X.pn ++ pins))) S3 hg hm hv q hnn hdbg
        refine test (LM.here ?_)
        cases b with
        | true =>
          refine codeAny_handlers_suite_as ?_
          refine HandSPX.lands_againZ fl3 fun h4 fl4 up4 => ?_
          have J4 : Inv X pins σ' H' { s' with heap := h4 } := J.landed nb fl4.1 ((up.trans up3).trans up4) os ag
          obtain ⟨oe4, vs4, he4, hz4, hd4⟩ := fl4.there
          have S4 := J4.suite he4 hd4 na nL nF
          refine store_ok (X := X.suite a ((a, oe4) :: (X.pn ++ pins))) (v := .ref a) S4 hN hi hloc rfl (fun s5 S5 => ?_) (.inr hln)
          refine wpAny_mono ((hsu a oe4 cls d (X.pn ++ pins) hz4 ⟨_, hd4⟩).run [] s5 _ H' _ S5 (hyes rfl a na)) (fun f s6 hsp => ?_) (fun _ _ z => False.elim z)
          have end_ : ∀ {σ6 : L2.St} {H6 : Hp} {Q : Shared → Prop}, Inv (X.suite a ((a, oe4) :: (X.pn ++ pins))) [] σ6 H6 s6 → (∀ s7, Inv X pins (σ6.set i none) H6 s7 → Q s7) →
              wpAny (model X.prog X.w) X.A (do bindName X.env n .none; unbindBehindTheSuite X.env n pos') (fun _ s7 => Q s7) X.xe s6 := fun {σ6 H6 Q} S6 hq => gone_ok (S6.unsuite ok) hN hi hln hq
          cases f with
          | next =>
            obtain ⟨σ6, H6, S6, q6⟩ := hsp
            exact end_ S6 fun s7 J7 => ⟨_, _, J7, q6⟩
          | brk =>
            obtain ⟨σ6, H6, S6, q6⟩ := hsp
            exact end_ S6 fun s7 J7 => ⟨_, _, J7, q6⟩
          | cont =>
            obtain ⟨σ6, H6, S6, q6⟩ := hsp
            exact end_ S6 fun s7 J7 => ⟨_, _, J7, q6⟩
          | ret u =>
            obtain ⟨v6, σ6, H6, S6, r6, q6⟩ := hsp
            exact end_ S6 fun s7 J7 => ⟨_, _, _, J7, r6, q6⟩
        | false =>
          show wpAny _ X.A (handleBy (.ref a) X.env hds2) _ _ _
          exact ih (hno rfl)
    exact go hh w
  · cases f with
    | next =>
      obtain ⟨σ', H', J', q⟩ := hsp
      exact wpAny_execs_nil ⟨σ', H', J'.ofTry ok, q⟩
    | brk =>
      obtain ⟨σ', H', J', q⟩ := hsp
      exact ⟨σ', H', J'.ofTry ok, q⟩
    | cont =>
      obtain ⟨σ', H', J', q⟩ := hsp
      exact ⟨σ', H', J'.ofTry ok, q⟩
    | ret u =>
      obtain ⟨v, σ', H', J', r, q⟩ := hsp
      exact ⟨v, σ', H', J'.ofTry ok, r, q⟩
end
/-! ### calls within a try -/
section
variable {X : Cx} {CX : CXT} {k n : Nat} {ps ks : List Str} {sp : Sp} {E : L2.St → XK} {x : Str} {p pos : Pos}
  {e : Expr} {es : List Expr} {kws : List Keyword} {t tk : TA} {g : List Value → List Value → List Value} {gV : List V → List V → List V}
theorem backS {pins : List (Addr × Obj)} {σ : L2.St} {H : Hp} {s s' : Shared} {Q : VK} {E : XK} {r : Result}
    (hx : PassesAt CX X σ E) (I : Inv X pins σ H s) (hq : CR CX X.stack X.prog X.w H s Q E r s') :
    match r with
    | .ok (.ret u) => EP X pins σ Q u s'
    | .ok _ => False
    | .error e => X.xe e s' := by
  cases r with
  | error e => exact hx pins H s e s' I hq
  | ok fl =>
    cases fl with
    | ret u => exact I.after hq
    | next => exact hq
    | brk => exact hq
    | cont => exact hq
theorem enterS {f : Addr} {fd : FuncData} {pins : List (Addr × Obj)} {σ : L2.St} {H : Hp} {s : Shared} {Q : VK} {E : XK}
    {args : Args} {us : List Value} {vs : List V} (F : Fg X.prog X.w X.K X.mg X.base CX k f fd ps sp)
    (hr : Rm k X.A) (hx : PassesAt CX X σ E) (I : Inv X pins σ H s) (hb : BindsTo s fd args (ps.zip us))
    (r : Vals vs us) (h : sp vs H Q E) :
    wpAny (model X.prog X.w) X.A (call (.ref f) args.pos args.kw) (EP X pins σ Q) X.xe s := by
  refine wpAny_call (codeAny_mono (F.go X.A X.stack s H args us vs Q E hr I.env0 hb r h) ?_)
  intro r s' hq
  have z := backS hx I hq
  cases r with
  | error e => exact z
  | ok fl =>
    cases fl with
    | ret u => exact z
    | next => exact z.elim
    | brk => exact z.elim
    | cont => exact z.elim
theorem pe_calS (C : Cal X.prog X.w X.K X.mg X.base CX k x ps sp) (hr : Rm k X.A) (hx : ∀ σ, PassesAt CX X σ (E σ))
    (ha : PA X (e :: es) t) (hg : Gl X x := by rfl) (hdb : (x == ("__debug__" : Str)) = false := by decide)
    (he : starEach (e :: es) X.env = (false, eval e X.env) :: starEach es X.env := by rfl)
    (hpl : (backTo pos (starEach es X.env)).any (·.1) = false := by rfl) :
    PE X (.Call (.Name x p) (e :: es) [] pos) (tCallS sp E t) := by
  obtain ⟨f, fd, F, hm, hk, hb⟩ := C.ex
  constructor
  intro pins s σ H Q I h
  refine wpAny_Call_Name_kw (ld_glob I hg hm ?_ hdb)
  refine PySem.W.callWith_K (h₀ := X.base) I.ok.mod.kin hk (thn (ha.run pos pins s σ H _ I h) ?_) he hpl
  rintro us s1 ⟨vs, H1, I1, r, q⟩
  have q : sp vs H1 Q (E σ) := q
  have l : (us ++ []).length = ps.length := by
    rw [List.append_nil, ← r.length]
    exact F.cnt _ _ _ _ q
  have b := hb s1 us I1.kIn l
  rw [List.append_nil] at b
  exact ⟨I1.kIn, enterS (args := ⟨us, []⟩) F hr (hx σ) I1 b r q⟩
def tCallSN (n m : Nat) (sp : Sp) (gV : List V → List V → List V) (E : L2.St → XK) (tk : TA) : TE := fun σ H Q => tk σ H fun zs H2 => zs.length = m ∧ sp (gV [] zs) H2 Q (E σ)
theorem pe_calkS (C : CalK X.prog X.w X.K X.mg X.base CX k x ps 0 ks g gV sp) (hr : Rm k X.A) (hx : ∀ σ, PassesAt CX X σ (E σ))
    (hkw : PK X kws tk) (hg : Gl X x := by rfl)
    (hall : (backToKw pos (keywordEach kws X.env)).all (·.1.isSome) = true := by rfl)
    (hks : (backToKw pos (keywordEach kws X.env)).filterMap (·.1) = ks := by rfl)
    (hdb : (x == ("__debug__" : Str)) = false := by decide)
    (hpl : ((backTo pos (starEach [] X.env)).any (·.1) || (backToKw pos (keywordEach kws X.env)).any (·.1.isNone)) = false := by rfl) :
    PE X (.Call (.Name x p) [] kws pos) (tCallSN 0 ks.length sp gV E tk) := by
  obtain ⟨f, fd, F, hm, hk, hb⟩ := C.ex
  constructor
  intro pins s σ H Q I h
  refine wpAny_Call_Name_kw (ld_glob I hg hm ?_ hdb)
  have h : tk σ H fun zs H2 => zs.length = ks.length ∧ sp (gV [] zs) H2 Q (E σ) := h
  refine PySem.W.callWith_KW0 (h₀ := X.base) I.ok.mod.kin hk hall (thn (hkw.run pos pins s σ H _ I h) ?_) hpl
  rintro ws s2 ⟨zs, H2, I2, rz, l2, q2⟩
  refine ⟨I2.kIn, ?_⟩
  rw [hks]
  exact enterS (args := ⟨[], ks.zip ws⟩) F hr (hx σ) I2
    (hb.to s2 [] ws I2.kIn rfl (rz.length.symm.trans l2)) (hb.rel .nil rz) q2
end
/-! ### errors that carry one value -/
/-- the __init__ of a class statement -/
def initOf : Stmt → Stmt
  | .ClassDef (body := b) .. => b.headD (.Pass ⟨0, 0, 0, 0⟩)
  | s => s
/-- the class x at C, its __init__ at fI, its value's name g -/
structure ErrC (K : PySem.W.Frag) (mg : Str → Option Value) (x g : Str) (C fI : Addr) : Prop where
  oex : OexC K C
  gC : mg x = some (.ref C)
  iC : PySem.W.findIn K (.ref C) "__init__" = some (some (.ref fI))
  tI : PySem.W.typeIn K (.ref fI) = some (.type "function")
  noG : PySem.W.findIn K (.ref C) g = some none
  xf : XfC K C
/-- what __init__ does -/
def spInit (K : PySem.W.Frag) (g : Str) : Sp := fun vs H Q _ => ∃ (a C : Addr) (y : V), vs = [.ref a, y] ∧ OexC K C ∧ PySem.W.findIn K (.ref C) g = some none ∧ H a = some (exo a C none) ∧
  ∀ dx, H dx = none → dx ≠ a → Q .non (upd (upd H dx (exd dx [(g, y)])) a (exo a C (some dx)))
/-- the reading of C(y), at its end -/
theorem made {K : PySem.W.Frag} {g : Str} {C : Addr} {y : V} {H1 : Hp} {Q : XK} (T : OexC K C) (hn : PySem.W.findIn K (.ref C) g = some none) (q : ∀ d, H1 d = none → Q (.ref C) (some d) (upd H1 d (.xd [(g, y)]))) :
    [y].length ≤ 1000 ∧ ∀ a, H1 a = none → spInit K g (.ref a :: ([y] ++ [])) (upd H1 a (exo a C none))
      (fun v H2 => v = .non ∧ ∃ (d : Addr) (fs : List (Str × V)), H2 a = some (exo a C (some d)) ∧ H2 d = some (exd d fs) ∧ H1 d = none ∧ Q (.ref C) (some d) (upd (del H2 a) d (.xd fs))) (fun _ _ _ => False) := by
  refine ⟨by simp, fun a na => ⟨a, C, y, rfl, T, hn, upd_same, fun dx nd ne => ⟨rfl, dx, [(g, y)], upd_same, ?_, ?_, ?_⟩⟩⟩
  · rw [upd_ne ne, upd_same]
  · rw [upd_ne ne] at nd
    exact nd
  · rw [upd_ne ne] at nd
    have e : upd (del (upd (upd (upd H1 a (exo a C none)) dx (exd dx [(g, y)])) a (exo a C (some dx))) a) dx (.xd [(g, y)]) = upd H1 dx (.xd [(g, y)]) := by
      funext b
      by_cases hb : b = dx
      · subst hb
        rw [upd_same, upd_same]
      · rw [upd_ne hb, upd_ne hb]
        by_cases ha : b = a
        · subst ha
          rw [del_same, na]
        · rw [del_ne ha, upd_ne ha, upd_ne hb, upd_ne ha]
    rw [e]
    exact q dx nd
end VB
/-! methods and makings, of defs told as Fg -/
namespace VB
open PySem PySem.Spec PyProof.Rows L2
theorem Rm.make {k : Nat} {A : Around} (r : Rm (k + 1) A) (C : Addr) (us : List Value) (kw : List (Str × Value)) : Rm k (A.under (.builtin "type.__call__" ⟨.ref C :: us, kw⟩)) :=
  ⟨r.rm.make C us kw, r.gd⟩
section
variable (P : Program) (w : World) (K : PySem.W.Frag) (mg : Str → Option Value) (base : Heap) (CX : CXT) (k : Nat)
/-- a method of the class at C -/
structure CalM (C : Addr) (m : Str) (ps : List Str) (sp : Sp) : Prop where
  ex : ∃ (f : Addr) (fd : FuncData), Fg P w K mg base CX k f fd ps sp ∧ Cls K C ∧ Meth K C m f ∧ Binds K fd ps []
/-- .. called with keywords -/
structure CalMK (C : Addr) (m : Str) (ps : List Str) (n : Nat) (ks : List Str) (g : List Value → List Value → List Value) (gV : List V → List V → List V) (sp : Sp) : Prop where
  ex : ∃ (f : Addr) (fd : FuncData), Fg P w K mg base CX k f fd ps sp ∧ Cls K C ∧ Meth K C m f ∧ KBn K fd ps n ks g gV
/-- the class x, made -/
structure Mak (x : Str) (C : Addr) (ps : List Str) (sp : Sp) : Prop where
  ex : ∃ (f : Addr) (fd : FuncData), Fg P w K mg base CX k f fd ps sp ∧ Mk K C f ∧ mg x = some (.ref C) ∧ Binds K fd ps []
structure MakK (x : Str) (C : Addr) (ps : List Str) (n : Nat) (ks : List Str) (g : List Value → List Value → List Value) (gV : List V → List V → List V) (sp : Sp) : Prop where
  ex : ∃ (f : Addr) (fd : FuncData), Fg P w K mg base CX k f fd ps sp ∧ Mk K C f ∧ mg x = some (.ref C) ∧ KBn K fd ps n ks g gV
end
section
variable {X : Cx} {CX : CXT} {k n : Nat} {ps ks : List Str} {sp : Sp} {E : XK} {x m : Str} {p pos apos : Pos} {C : Addr}
  {e o : Expr} {es : List Expr} {kws : List Keyword} {t tk : TA} {ta : TE}
  {g : List Value → List Value → List Value} {gV : List V → List V → List V}
/-- what a call of a method is, step by step -/
abbrev askM (X : Cx) (o : Expr) (m : Str) (pl : Sem Bool) (apos pos : Pos) (zs : List Expr) : Sem Value := do let u ← eval o X.env; standAt apos.atName; let (g, as) ← holding [u] (getMethod u m pl); callWith pos g as (backTo pos (starEach zs X.env)) (backToKw pos (keywordEach [] X.env))
theorem pe_calM {pl : Sem Bool} (M : CalM X.prog X.w X.K X.mg X.base CX k C m ps sp) (hr : Rm k X.A) (hx : Passes CX X E) (he : PE X o ta) (ha : PA X (e :: es) t)
    (hst : starEach (e :: es) X.env = (false, eval e X.env) :: starEach es X.env := by rfl) (hpl : (backTo pos (starEach es X.env)).any (·.1) = false := by rfl)
    (ht : eval (.Call (.Attribute o m apos) (e :: es) [] pos) X.env = askM X o m pl apos pos (e :: es) := by rfl) :
    PE X (.Call (.Attribute o m apos) (e :: es) [] pos) (tMeth C m sp [] E ta t) := by
  obtain ⟨f, fd, F, c, hm, hb⟩ := M.ex
  constructor
  intro pins s σ H Q I h
  refine PySem.W.methodCall_KW (pl := pl) (thn (he.run pins s σ H _ I h) ?_) ht
  rintro u s1 ⟨x, H1, I1, rx, a, dx, fs, rfl, ea, l, q⟩
  obtain rfl : u = Value.ref a := rx
  refine getmeth_ok I1 ea c hm l ?_
  refine PySem.W.callWith_K (first := [.ref a]) (h₀ := X.base) I.ok.mod.kin hm.kp (thn (ha.run pos pins s1 σ H1 _ I1 q) ?_) hst hpl
  rintro us s2 ⟨vs, H2, I2, r, q2⟩
  have q3 : sp (.ref a :: (vs ++ [])) H2 Q E := q2
  rw [List.append_nil] at q3
  have r2 : Vals (V.ref a :: vs) (Value.ref a :: us) := .cons rfl r
  have b := hb s2 (.ref a :: us) I2.kIn (by rw [List.append_nil, ← r2.length]; exact F.cnt _ _ _ _ q3)
  rw [List.append_nil] at b
  exact ⟨I2.kIn, enter (args := ⟨.ref a :: us, []⟩) F hr hx I2 b r2 q3⟩
theorem pe_calM0 {pl : Sem Bool} (M : CalM X.prog X.w X.K X.mg X.base CX k C m ps sp) (hr : Rm k X.A) (hx : Passes CX X E) (he : PE X o ta)
    (ht : eval (.Call (.Attribute o m apos) [] [] pos) X.env = askM X o m pl apos pos [] := by rfl) :
    PE X (.Call (.Attribute o m apos) [] [] pos) (tMeth C m sp [] E ta tNil) := by
  obtain ⟨f, fd, F, c, hm, hb⟩ := M.ex
  constructor
  intro pins s σ H Q I h
  refine PySem.W.methodCall_KW (pl := pl) (thn (he.run pins s σ H _ I h) ?_) ht
  rintro u s1 ⟨x, H1, I1, rx, a, dx, fs, rfl, ea, l, q⟩
  obtain rfl : u = Value.ref a := rx
  refine getmeth_ok I1 ea c hm l ?_
  have q3 : sp [.ref a] H1 Q E := q
  have b := hb s1 [.ref a] I1.kIn (F.cnt _ _ _ _ q3)
  exact PySem.W.callWith_K0 (first := [.ref a]) I1.kIn hm.kp (enter (args := ⟨[.ref a], []⟩) F hr hx I1 b (show Vals [V.ref a] [Value.ref a] from .cons rfl .nil) q3)
theorem run_mak {f : Addr} {fd : FuncData} {pins : List (Addr × Obj)} {σ : L2.St} {H : Hp} {s : Shared} {Q : VK} {us : List Value} {kw : List (Str × Value)} {zs : List Value} {vs : List V} (M : Mk X.K C f) (F : Fg X.prog X.w X.K X.mg X.base CX k f fd ps sp) (hr : Rm (k + 1) X.A)
    (hx : Passes CX X E) (I : Inv X pins σ H s)
    (h : ∀ x dx, H x = none → H dx = none → dx ≠ x → sp (.ref x :: vs) (upd (upd H dx (.own x)) x (.ins C dx [])) (fun v H2 => v = .non ∧ Q (.ref x) H2) E)
    (hb : ∀ (s2 : Shared), X.K.In s2.heap → BindsTo s2 fd ⟨.ref (s.heap.objs.size + 1) :: us, kw⟩ (ps.zip (.ref (s.heap.objs.size + 1) :: zs))) (r : Vals vs zs) :
    wpAny (model X.prog X.w) X.A (call (.ref C) us kw) (EP X pins σ Q) X.xe s := by
  have hq := h (s.heap.objs.size + 1) s.heap.objs.size (I.hok.fresh (Nat.le_succ _)) (I.hok.fresh (Nat.le_refl _)) (Nat.ne_of_lt (Nat.lt_succ_self _))
  have I2 := Inv.made (C := C) I
  refine wpAny_call (make_map (f := f) I.kIn M.makes M.init (beq_iff_eq.mp M.fn) (codeAny_mono (F.go _ X.stack _ _ ⟨.ref (s.heap.objs.size + 1) :: us, kw⟩ (.ref (s.heap.objs.size + 1) :: zs) _ _ E (hr.make C us kw)
    (I2.env0.make C us kw) (hb _ I2.kIn) (show Vals (V.ref (s.heap.objs.size + 1) :: vs) (Value.ref (s.heap.objs.size + 1) :: zs) from .cons rfl r) hq) ?_))
  intro r' s' hq'
  cases r' with
  | error e => exact hx pins σ _ _ e s' I2 hq'
  | ok fl =>
    cases fl with
    | ret u =>
      obtain ⟨v, H', I3, rv, ev, q3⟩ := I2.after hq'
      subst ev
      exact ⟨rv, ⟨V.ref (s.heap.objs.size + 1), H', I3, rfl, q3⟩⟩
    | next => exact False.elim hq'
    | brk => exact False.elim hq'
    | cont => exact False.elim hq'
theorem pe_mak (M : Mak X.prog X.w X.K X.mg X.base CX k x C ps sp) (hr : Rm (k + 1) X.A) (hx : Passes CX X E) (ha : PA X (e :: es) t) (hg : Gl X x := by rfl) (hdb : (x == ("__debug__" : Str)) = false := by decide)
    (he : starEach (e :: es) X.env = (false, eval e X.env) :: starEach es X.env := by rfl) (hpl : (backTo pos (starEach es X.env)).any (·.1) = false := by rfl) :
    PE X (.Call (.Name x p) (e :: es) [] pos) (tMake C sp [] E t) := by
  obtain ⟨f, fd, F, mk, hm, hb⟩ := M.ex
  constructor
  intro pins s σ H Q I h
  refine wpAny_Call_Name_kw (ld_glob I hg hm ?_ hdb)
  refine PySem.W.callWith_K (h₀ := X.base) I.ok.mod.kin mk.kp (thn (ha.run pos pins s σ H _ I h) ?_) he hpl
  rintro us s1 ⟨vs, H1, I1, r, q⟩
  refine ⟨I1.kIn, run_mak (vs := vs) (zs := us) mk F hr hx I1 (fun x dx a b c => ?_) (fun s2 k2 => ?_) r⟩
  · have z := q x dx a b c
    rw [List.append_nil] at z
    exact z
  · have q0 := q (s1.heap.objs.size + 1) s1.heap.objs.size (I1.hok.fresh (Nat.le_succ _)) (I1.hok.fresh (Nat.le_refl _)) (Nat.ne_of_lt (Nat.lt_succ_self _))
    have l := F.cnt _ _ _ _ q0
    have b := hb s2 (.ref (s1.heap.objs.size + 1) :: us) k2 (by rw [List.append_nil, ← l, List.append_nil, List.length_cons, List.length_cons, r.length])
    rw [List.append_nil] at b
    exact b
/-- +: ints, lists, and tuples of any length -/
def rAddA (K : PySem.W.Frag) : R2 := fun x y H Q => rAddU K x y H Q ∨ rCatA K x y H Q
theorem u_addA {K : PySem.W.Frag} (hK : X.K = K := by rfl) : OpR X (binaryOp .Add) (rAddA K) := by
  subst hK
  exact (u_add rfl).or op_catA
/-- an item of a list, at a place from the front -/
def rGetL (K : PySem.W.Frag) : R2 := fun x y H Q => ∃ p xs i z, x = .ref p ∧ y = .int (i : Nat) ∧ SqL K H p xs ∧ xs[i]? = some z ∧ i < 1000000 ∧ Q z H
theorem get_list {K : PySem.W.Frag} (hK : X.K = K := by rfl) : PGet X (rGetL K) := by
  subst hK
  intro pins s σ H x y v u Q I rx ry h
  obtain ⟨p, xs, i, z, rfl, rfl, hq, he, hi, q⟩ := h
  cases rx
  obtain ⟨t, rfl⟩ := ry
  obtain ⟨its, r, pl, hz⟩ := I.list hq
  obtain ⟨w, ew, rw'⟩ := r.get he
  exact wpAny_getItem_list pl.isList (by omega) (by omega) (by simpa using ew) ⟨z, H, I, rw', q⟩
theorem pe_fldU {K : PySem.W.Frag} {f : Str} (he : PE X e ta) (hb : attributeBase e f X.env (eval e X.env) = eval e X.env) (hK : X.K = K := by rfl) : PE X (.Attribute e f pos) (tFld K ta f) := by
  subst hK
  exact pe_fld he hb
theorem ps_fldU {K : PySem.W.Frag} {value : Expr} {tv : TE} {f : Str} {pos' : Pos} (ha : PE X o ta) (hv : PE X value tv) (hs : swapsWith value (some (.Attribute o f pos')) pos.line X.env = pure false) (hK : X.K = K := by rfl) : PS X (.Assign [.Attribute o f pos'] value pos) (sFld K ta tv f) := by
  subst hK
  exact ps_fld ha hv hs
theorem ps_fldaugU {K : PySem.W.Frag} {value : Expr} {tv : TE} {f : Str} {tpos : Pos} {op : Operator} {rd : V → V → Hp → VK → Prop} (ha : PE X o ta) (hv : PE X value tv) (hop : InOp X op rd) (hK : X.K = K := by rfl) : PS X (.AugAssign (.Attribute o f tpos) op value pos) (sFldAug K ta tv rd f) := by
  subst hK
  exact ps_fldaug ha hv hop
theorem pe_dpop2U {f : Expr} {cpos : Pos} {td ty tx : TE} (ho : PE X o td) (he : PE X e ty) (hf : PE X f tx) (h1 : attributeBase o "pop" X.env (eval o X.env) = eval o X.env := by rfl)
    (h2 : ((backTo cpos (starEach [e, f] X.env)).all (fun x => !x.1) && (backToKw cpos (keywordEach [] X.env)).all (fun x => x.1.isSome)
      && decide (([e, f] : List Expr).length + ([] : List Keyword).length + (if ([] : List Keyword).isEmpty then 0 else 1) < 30)) = true := by rfl)
    (h3 : (apos.endLine == cpos.line) = true := by rfl) (h4 : backTo cpos (starEach [e, f] X.env) = [(false, eval e X.env), (false, eval f X.env)] := by rfl) :
    PE X (.Call (.Attribute o "pop" apos) [e, f] [] cpos) (tDPop2 td ty tx) := pe_dpop2 ho he hf ⟨h1, h2, h3, h4⟩
end
end VB
/-! repr of data, of truths and of ints -/
namespace VB
open PySem PySem.Spec PyProof.Rows L2
section
variable {X : Cx}
theorem call_repr_bl : CallR X (.builtin "repr") (fun xs H Q => ∃ b : Bool, xs = [.bl b] ∧ Q (.str (if b then "True" else "False")) H) := by
  intro pins s σ H xs us Q I r h
  obtain ⟨b, rfl, q⟩ := h
  obtain ⟨u, rfl, ru⟩ := vals1 r
  cases (show u = Value.bool b from ru)
  exact PySem.P.repr_of_bool ⟨.str _, H, I.tok _, ⟨_, rfl⟩, q⟩
end
def rReprU (K : PySem.W.Frag) : List V → Hp → VK → Prop := fun xs H Q => rRepr K xs H Q ∨ ((∃ i, xs = [.int i] ∧ i.natAbs.log2 < 1920 ∧ Q (.str (toString i)) H) ∨ ∃ b : Bool, xs = [.bl b] ∧ Q (.str (if b then "True" else "False")) H)
section
variable {X : Cx} {K : PySem.W.Frag} {H : Hp} {Q : VK}
theorem u_reprU {k : Nat} (hr : Rm k X.A) (hK : X.K = K := by rfl) : CallR X (.builtin "repr") (rReprU K) := by
  subst hK
  exact (call_repr hr).or (CallR.or (SkE.call_repr_int (X := X)) (call_repr_bl (X := X)))
theorem rp_bl (b : Bool) (q : Q (.str (if b then "True" else "False")) H) : rReprU K [.bl b] H Q := .inr (.inr ⟨b, rfl, q⟩)
theorem rp_int {i : Int} (h : i.natAbs.log2 < 1920) (q : Q (.str (toString i)) H) : rReprU K [.int i] H Q := .inr (.inl ⟨i, rfl, h, q⟩)
end
end VB
/-! raising an error that carries one value -/
namespace VB
open PySem PySem.Spec PyProof.Rows L2
/-- the class x at C with the value's name g, and its __init__ -/
structure MkE (P : Program) (w : World) (K : PySem.W.Frag) (mg : Str → Option Value) (base : Heap) (x g : Str) (C fI : Addr) : Prop where
  err : ErrC K mg x g C fI
  ini : ∃ fd, FnOk P w K mg base CX0 1 fI fd ["self", g] (spInit K g) ∧ Binds K fd ["self", g] []
section
variable {X : Cx} {x g : Str} {C fI : Addr} {p pos : Pos} {e : Expr} {ta : TA}
theorem pmk_err {k : Nat} (M : MkE X.prog X.w X.K X.mg X.base x g C fI) (hr : Rm k X.A) (ha : PA X [e] ta) (hk : 2 ≤ k := by omega) (hg : Gl X x := by rfl) (hdb : (x == ("__debug__" : Str)) = false := by decide)
    (he : starEach [e] X.env = (false, eval e X.env) :: starEach [] X.env := by rfl) (hpl : (backTo pos (starEach [] X.env)).any (·.1) = false := by rfl) :
    PMk X (.Call (.Name x p) [e] [] pos) (tMkO C (spInit X.K g) [] ta) := by
  obtain ⟨fd, F, b⟩ := M.ini
  exact pmk_oex M.err.oex M.err.iC M.err.tI F (hr.rm.mono hk) b .nil pass0 hg M.err.gC ha hdb he hpl
theorem ps_raiseE {k : Nat} {W : WX} (M : MkE X.prog X.w X.K X.mg X.base x g C fI) (hr : Rm k X.A) (tk : Takes X W) (hc : X.calm = true) (ha : PA X [e] ta) {pos' : Pos} (hk : 2 ≤ k := by omega) (hg : Gl X x := by rfl) (hdb : (x == ("__debug__" : Str)) = false := by decide)
    (he : starEach [e] X.env = (false, eval e X.env) :: starEach [] X.env := by rfl) (hpl : (backTo pos (starEach [] X.env)).any (·.1) = false := by rfl) :
    PS X (.Raise (some (.Call (.Name x p) [e] [] pos)) none pos') (fun _ σ H => tMkO C (spInit X.K g) [] ta σ H fun cls d H' => W cls d σ H') :=
  ps_raise hc tk (pmk_err M hr ha hk hg hdb he hpl)
end
end VB
/-! methods called within a try -/
namespace VB
open PySem PySem.Spec PyProof.Rows L2
def tMethS (C : Addr) (m : Str) (sp : Sp) (E : L2.St → XK) (ta : TE) (t : TA) : TE := fun σ H Q => tMeth C m sp [] (E σ) ta t σ H Q
section
variable {X : Cx} {CX : CXT} {k n : Nat} {ps ks : List Str} {sp : Sp} {E : L2.St → XK} {x m : Str} {p pos apos : Pos} {C : Addr} {e o : Expr} {es : List Expr} {t tk : TA} {ta : TE}
theorem pe_calMS {pl : Sem Bool} (M : CalM X.prog X.w X.K X.mg X.base CX k C m ps sp) (hr : Rm k X.A) (hx : ∀ σ, PassesAt CX X σ (E σ)) (he : PE X o ta) (ha : PA X (e :: es) t)
    (hst : starEach (e :: es) X.env = (false, eval e X.env) :: starEach es X.env := by rfl) (hpl : (backTo pos (starEach es X.env)).any (·.1) = false := by rfl)
    (ht : eval (.Call (.Attribute o m apos) (e :: es) [] pos) X.env = askM X o m pl apos pos (e :: es) := by rfl) :
    PE X (.Call (.Attribute o m apos) (e :: es) [] pos) (tMethS C m sp E ta t) := by
  obtain ⟨f, fd, F, c, hm, hb⟩ := M.ex
  constructor
  intro pins s σ H Q I h
  refine PySem.W.methodCall_KW (pl := pl) (thn (he.run pins s σ H _ I h) ?_) ht
  rintro u s1 ⟨x, H1, I1, rx, a, dx, fs, rfl, ea, l, q⟩
  obtain rfl : u = Value.ref a := rx
  refine getmeth_ok I1 ea c hm l ?_
  refine PySem.W.callWith_K (first := [.ref a]) (h₀ := X.base) I.ok.mod.kin hm.kp (thn (ha.run pos pins s1 σ H1 _ I1 q) ?_) hst hpl
  rintro us s2 ⟨vs, H2, I2, r, q2⟩
  have q3 : sp (.ref a :: (vs ++ [])) H2 Q (E σ) := q2
  rw [List.append_nil] at q3
  have r2 : Vals (V.ref a :: vs) (Value.ref a :: us) := .cons rfl r
  have b := hb s2 (.ref a :: us) I2.kIn (by rw [List.append_nil, ← r2.length]; exact F.cnt _ _ _ _ q3)
  rw [List.append_nil] at b
  exact ⟨I2.kIn, enterS (args := ⟨.ref a :: us, []⟩) F hr (hx σ) I2 b r2 q3⟩
theorem takes_no : Takes X (fun _ _ _ _ => False) := fun _ _ ⟨_, _, _, _, _, _, _, _, _, _, _, _, _, _, _, _, w⟩ => w.elim
theorem op_isT : OpR X (compareOp .Is) (fun x y H Q => ∃ b : Bool, y = .bl b ∧ (x = .non ∨ ∃ a, x = .bl a) ∧ Q (.bl (decide (x = .bl b))) H) := by
  intro pins s σ H x y v u Q I rx ry h
  obtain ⟨b, rfl, hx, q⟩ := h
  cases (show u = Value.bool b from ry)
  rcases hx with rfl | ⟨a, rfl⟩
  · cases (show v = Value.none from rx)
    exact wpAny_is_other rfl (fun z => by cases z) ⟨.bl false, H, I, rfl, by simpa using q⟩
  · cases (show v = Value.bool a from rx)
    by_cases e : a = b
    · subst e
      exact wpAny_is_self rfl ⟨.bl true, H, I, rfl, by simpa using q⟩
    · exact wpAny_is_other rfl (fun z => e (Value.bool.inj z)) ⟨.bl false, H, I, rfl, by simpa [e] using q⟩
end
end VB
/-! methods with keywords within a try, makings within a try, makings with keywords -/
namespace VB
open PySem PySem.Spec PyProof.Rows L2
def tMethKS (C : Addr) (m : Str) (sp : Sp) (n : Nat) (gV : List V → List V → List V) (E : L2.St → XK) (ta : TE) (tk : TA) : TE := fun σ H Q => ta σ H fun x H1 => ∃ a dx fs, x = .ref a ∧ H1 a = some (.ins C dx fs) ∧ fs.lookup m = none ∧
  tk σ H1 fun zs H2 => zs.length = n ∧ sp (gV [.ref a] zs) H2 Q (E σ)
def tMakeS (C : Addr) (sp : Sp) (E : L2.St → XK) (t : TA) : TE := fun σ H Q => tMake C sp [] (E σ) t σ H Q
section
variable {X : Cx} {CX : CXT} {k n : Nat} {ps ks : List Str} {sp : Sp} {x m : Str} {p pos apos : Pos} {C : Addr} {e o : Expr} {es : List Expr} {kws : List Keyword} {t tk : TA} {ta : TE}
  {g : List Value → List Value → List Value} {gV : List V → List V → List V}
abbrev askMK (X : Cx) (o : Expr) (m : Str) (pl : Sem Bool) (apos pos : Pos) (kws : List Keyword) : Sem Value := do let u ← eval o X.env; standAt apos.atName; let (g, as) ← holding [u] (getMethod u m pl); callWith pos g as (backTo pos (starEach [] X.env)) (backToKw pos (keywordEach kws X.env))
theorem pe_calMkS {E : L2.St → XK} {pl : Sem Bool} (M : CalMK X.prog X.w X.K X.mg X.base CX k C m ps 1 ks g gV sp) (hr : Rm k X.A) (hx : ∀ σ, PassesAt CX X σ (E σ)) (he : PE X o ta) (hkw : PK X kws tk)
    (hall : (backToKw pos (keywordEach kws X.env)).all (·.1.isSome) = true := by rfl)
    (hks : (backToKw pos (keywordEach kws X.env)).filterMap (·.1) = ks := by rfl)
    (hpl : ((backTo pos (starEach [] X.env)).any (·.1) || (backToKw pos (keywordEach kws X.env)).any (·.1.isNone)) = false := by rfl)
    (ht : eval (.Call (.Attribute o m apos) [] kws pos) X.env = askMK X o m pl apos pos kws := by rfl) :
    PE X (.Call (.Attribute o m apos) [] kws pos) (tMethKS C m sp ks.length gV E ta tk) := by
  obtain ⟨f, fd, F, c, hm, hb⟩ := M.ex
  constructor
  intro pins s σ H Q I h
  refine PySem.W.methodCall_KW (pl := pl) (thn (he.run pins s σ H _ I h) ?_) ht
  rintro u s1 ⟨x, H1, I1, rx, a, dx, fs, rfl, ea, l, q⟩
  obtain rfl : u = Value.ref a := rx
  refine getmeth_ok I1 ea c hm l ?_
  refine PySem.W.callWith_KW0 (first := [.ref a]) (h₀ := X.base) I.ok.mod.kin hm.kp hall (thn (hkw.run pos pins s1 σ H1 _ I1 q) ?_) hpl
  rintro ws s2 ⟨zs, H2, I2, rz, l2, q2⟩
  refine ⟨I2.kIn, ?_⟩
  rw [hks]
  have r1 : Vals [V.ref a] [Value.ref a] := .cons rfl .nil
  exact enterS (args := ⟨[.ref a], ks.zip ws⟩) F hr (hx σ) I2 (hb.to s2 [.ref a] ws I2.kIn rfl (rz.length.symm.trans l2)) (hb.rel r1 rz) q2
theorem run_makS {E : XK} {f : Addr} {fd : FuncData} {pins : List (Addr × Obj)} {σ : L2.St} {H : Hp} {s : Shared} {Q : VK} {us : List Value} {kw : List (Str × Value)} {zs : List Value} {vs : List V} (M : Mk X.K C f) (F : Fg X.prog X.w X.K X.mg X.base CX k f fd ps sp) (hr : Rm (k + 1) X.A)
    (hx : PassesAt CX X σ E) (I : Inv X pins σ H s)
    (h : ∀ x dx, H x = none → H dx = none → dx ≠ x → sp (.ref x :: vs) (upd (upd H dx (.own x)) x (.ins C dx [])) (fun v H2 => v = .non ∧ Q (.ref x) H2) E)
    (hb : ∀ (s2 : Shared), X.K.In s2.heap → BindsTo s2 fd ⟨.ref (s.heap.objs.size + 1) :: us, kw⟩ (ps.zip (.ref (s.heap.objs.size + 1) :: zs))) (r : Vals vs zs) :
    wpAny (model X.prog X.w) X.A (call (.ref C) us kw) (EP X pins σ Q) X.xe s := by
  have hq := h (s.heap.objs.size + 1) s.heap.objs.size (I.hok.fresh (Nat.le_succ _)) (I.hok.fresh (Nat.le_refl _)) (Nat.ne_of_lt (Nat.lt_succ_self _))
  have I2 := Inv.made (C := C) I
  refine wpAny_call (make_map (f := f) I.kIn M.makes M.init (beq_iff_eq.mp M.fn) (codeAny_mono (F.go _ X.stack _ _ ⟨.ref (s.heap.objs.size + 1) :: us, kw⟩ (.ref (s.heap.objs.size + 1) :: zs) _ _ E (hr.make C us kw)
    (I2.env0.make C us kw) (hb _ I2.kIn) (show Vals (V.ref (s.heap.objs.size + 1) :: vs) (Value.ref (s.heap.objs.size + 1) :: zs) from .cons rfl r) hq) ?_))
  intro r' s' hq'
  cases r' with
  | error e => exact hx pins _ _ e s' I2 hq'
  | ok fl =>
    cases fl with
    | ret u =>
      obtain ⟨v, H', I3, rv, ev, q3⟩ := I2.after hq'
      subst ev
      exact ⟨rv, ⟨V.ref (s.heap.objs.size + 1), H', I3, rfl, q3⟩⟩
    | next => exact False.elim hq'
    | brk => exact False.elim hq'
    | cont => exact False.elim hq'
theorem pe_makS {E : L2.St → XK} (M : Mak X.prog X.w X.K X.mg X.base CX k x C ps sp) (hr : Rm (k + 1) X.A) (hx : ∀ σ, PassesAt CX X σ (E σ)) (ha : PA X (e :: es) t) (hg : Gl X x := by rfl) (hdb : (x == ("__debug__" : Str)) = false := by decide)
    (he : starEach (e :: es) X.env = (false, eval e X.env) :: starEach es X.env := by rfl) (hpl : (backTo pos (starEach es X.env)).any (·.1) = false := by rfl) :
    PE X (.Call (.Name x p) (e :: es) [] pos) (tMakeS C sp E t) := by
  obtain ⟨f, fd, F, mk, hm, hb⟩ := M.ex
  constructor
  intro pins s σ H Q I h
  refine wpAny_Call_Name_kw (ld_glob I hg hm ?_ hdb)
  refine PySem.W.callWith_K (h₀ := X.base) I.ok.mod.kin mk.kp (thn (ha.run pos pins s σ H _ I h) ?_) he hpl
  rintro us s1 ⟨vs, H1, I1, r, q⟩
  refine ⟨I1.kIn, run_makS (vs := vs) (zs := us) mk F hr (hx σ) I1 (fun x dx a b c => ?_) (fun s2 k2 => ?_) r⟩
  · have z := q x dx a b c
    rw [List.append_nil] at z
    exact z
  · have q0 := q (s1.heap.objs.size + 1) s1.heap.objs.size (I1.hok.fresh (Nat.le_succ _)) (I1.hok.fresh (Nat.le_refl _)) (Nat.ne_of_lt (Nat.lt_succ_self _))
    have l := F.cnt _ _ _ _ q0
    have b := hb s2 (.ref (s1.heap.objs.size + 1) :: us) k2 (by rw [List.append_nil, ← l, List.append_nil, List.length_cons, List.length_cons, r.length])
    rw [List.append_nil] at b
    exact b
def tMakK (C : Addr) (sp : Sp) (n : Nat) (gV : List V → List V → List V) (E : XK) (tk : TA) : TE := fun σ H Q => tk σ H fun zs H2 => zs.length = n ∧ ∀ x dx, H2 x = none → H2 dx = none → dx ≠ x → sp (gV [.ref x] zs) (upd (upd H2 dx (.own x)) x (.ins C dx [])) (fun v H3 => v = .non ∧ Q (.ref x) H3) E
/-- C(k = v, ..) -/
theorem pe_makK {E : XK} (M : MakK X.prog X.w X.K X.mg X.base CX k x C ps 1 ks g gV sp) (hr : Rm (k + 1) X.A) (hx : Passes CX X E) (hkw : PK X kws tk) (hg : Gl X x := by rfl)
    (hall : (backToKw pos (keywordEach kws X.env)).all (·.1.isSome) = true := by rfl) (hks : (backToKw pos (keywordEach kws X.env)).filterMap (·.1) = ks := by rfl) (hdb : (x == ("__debug__" : Str)) = false := by decide)
    (hpl : ((backTo pos (starEach [] X.env)).any (·.1) || (backToKw pos (keywordEach kws X.env)).any (·.1.isNone)) = false := by rfl) :
    PE X (.Call (.Name x p) [] kws pos) (tMakK C sp ks.length gV E tk) := by
  obtain ⟨f, fd, F, mk, hm, hb⟩ := M.ex
  constructor
  intro pins s σ H Q I h
  refine wpAny_Call_Name_kw (ld_glob I hg hm ?_ hdb)
  refine PySem.W.callWith_KW0 (h₀ := X.base) I.ok.mod.kin mk.kp hall (thn (hkw.run pos pins s σ H _ I h) ?_) hpl
  rintro ws s2 ⟨zs, H2, I2, rz, l2, q2⟩
  refine ⟨I2.kIn, ?_⟩
  rw [hks]
  have hq := q2 (s2.heap.objs.size + 1) s2.heap.objs.size (I2.hok.fresh (Nat.le_succ _)) (I2.hok.fresh (Nat.le_refl _)) (Nat.ne_of_lt (Nat.lt_succ_self _))
  have I3 := Inv.made (C := C) I2
  have r1 : Vals [V.ref (s2.heap.objs.size + 1)] [Value.ref (s2.heap.objs.size + 1)] := .cons rfl .nil
  have r2 := hb.rel r1 rz
  refine wpAny_call (make_map (f := f) I2.kIn mk.makes mk.init (beq_iff_eq.mp mk.fn) (codeAny_mono (F.go _ X.stack _ _ ⟨[Value.ref (s2.heap.objs.size + 1)], ks.zip ws⟩ (g [Value.ref (s2.heap.objs.size + 1)] ws) _ _ E (hr.make C [] (ks.zip ws))
    (I3.env0.make C [] (ks.zip ws)) (hb.to _ [Value.ref (s2.heap.objs.size + 1)] ws I3.kIn rfl (rz.length.symm.trans l2)) r2 hq) fun r s' hq' => ?_))
  cases r with
  | error e => exact hx pins σ _ _ e s' I3 hq'
  | ok fl =>
    cases fl with
    | ret u =>
      obtain ⟨v, H', I4, rv, ev, q3⟩ := I3.after hq'
      subst ev
      exact ⟨rv, ⟨V.ref (s2.heap.objs.size + 1), H', I4, rfl, q3⟩⟩
    | next => exact False.elim hq'
    | brk => exact False.elim hq'
    | cont => exact False.elim hq'
end
end VB
/-! a list, longer by a tuple's items -/
namespace VB
open PySem PySem.Spec PyProof.Rows L2
theorem list_extend_tup (l : Addr) (items : Array Value) (n : Nat) (b : Addr) (items2 : Array Value) (n2 : Nat) (dd : Option Addr) (sl : Array (Option Value)) (hs0 : ¬(!items.isEmpty && Builtin.List.listTooLong (items.size + items2.size)) = true) (hs1 : items.size ≤ sizeLine) (hs2 : items.size + items2.size ≤ sizeLine + 1) :
    Meets (Builtin.«list.extend» ⟨[.ref l, .ref b], []⟩) (fun _ R s => s.heap.get? l = some { cls := .type "list", dict := none, data := .seq items n, slots := #[] } ∧ s.heap.get? b = some { cls := .type "tuple", dict := dd, data := .seq items2 n2, slots := sl } ∧ R (.ok (.ret Value.none)) { s with heap := s.heap.update l (Obj.mapSeq fun x => x ++ items2), toks := s.toks }) :=
  .of_wp fun prog w A R s h => by
    obtain ⟨hp, g, d, tk, os⟩ := s; obtain ⟨hl, hb, h⟩ := h; have f1 := AutoSeq1.idx_int; have f2 := AutoSeq1.sub_tuple_tuple; have f3 := AutoSeq1.sub_list_list; have f4 := AutoSeq1.sub_tuple_list; have f5 := AutoSeq1.sub_list_tuple;
    have hz' : (items ++ items2).size ≤ sizeLine + 1 := by rw [Array.size_append]; exact hs2
    wp_walk using (wpAny_updateSeq hl rfl (hz := hs1) (_hz' := hz')), wpAny_loadPart' hl, wpAny_loadPart' hb; exact ⟨_, rfl, h⟩
def rExtT (K : PySem.W.Frag) : V → List V → Hp → VK → Prop := fun x vs H Q => ∃ l b xs zs, x = .ref l ∧ vs = [.ref b] ∧ H l = some (.lst xs) ∧ SqT K H b zs ∧ xs.length + zs.length ≤ sizeLine ∧ Q .non (upd H l (.lst (xs ++ zs)))
def rExtU (K : PySem.W.Frag) : V → List V → Hp → VK → Prop := fun x vs H Q => rExtend x vs H Q ∨ rExtT K x vs H Q
section
variable {X : Cx} {K : PySem.W.Frag}
theorem mt_extU (hK : X.K = K := by rfl) : MtM X "list.extend" (rExtU K) := by
  subst hK
  intro pins s σ H x vs v us Q I rx rv h
  rcases h with h | h
  · exact mt_extend pins s σ H x vs v us Q I rx rv h
  obtain ⟨l, b, xs, zs, rfl, rfl, hH, hB, hz, q⟩ := h
  cases rx
  obtain ⟨u, rfl, ru⟩ := rv.one
  cases ru
  obtain ⟨z, its, n, r, hl, e⟩ := I.lstM hH
  obtain ⟨its2, r2, ⟨⟨cls, dd, data, sl⟩, e2, hc, n2, hd⟩, hl2⟩ := I.tuple hB
  simp only at hc hd
  subst hc hd
  have l1 := r.length
  have l2 := r2.length
  have hsz : its.toArray.size + its2.toArray.size ≤ sizeLine := by rw [List.size_toArray, List.size_toArray]; omega
  have hlong : ¬ (!its.toArray.isEmpty && Builtin.List.listTooLong (its.toArray.size + its2.toArray.size)) = true := by
    rw [notLongL hsz, Bool.and_false]
    exact Bool.false_ne_true
  refine call_meets F.slot_list_extend ⟨_, e, rfl⟩ F.entry_list_extend (F.args_list_extend_2 _ _)
    (list_extend_tup l its.toArray n b its2.toArray n2 dd sl hlong (by rw [List.size_toArray]; omega) (by omega)) ⟨e, e2, ?_⟩
  refine ⟨.non, _, I.lset (its' := its ++ its2) hH e (by simp) (r.append r2) ?_, rfl, q⟩
  rw [List.length_append]
  omega
theorem u_max1 (hc : X.calm = true) (hK : X.K = K := by rfl) : CallR X (.builtin "max") (rMax K) := by
  subst hK
  exact cr_max hc
end
/-- what isinstance asks of instances of the class at C -/
structure InsC (K : PySem.W.Frag) (C : Addr) : Prop where
  ha : PySem.W.findIn K (.ref C) "__class__" = some (some (.builtin "object.__class__"))
  hn : PySem.W.specialIn K (.builtin "object.__class__") "__get__" = some (some (.builtin "getset_descriptor.__get__"))
  htk : PySem.W.takesIn K (.builtin "object.__class__") = some true
  hm : PySem.W.mroIn K C (.type "object") = some true
  kit : PySem.W.kitOne K (.ref C) (.ref C) = some true
def insB (K : PySem.W.Frag) (C : Addr) : Bool := decide (PySem.W.findIn K (.ref C) "__class__" = some (some (.builtin "object.__class__"))) && (decide (PySem.W.specialIn K (.builtin "object.__class__") "__get__" = some (some (.builtin "getset_descriptor.__get__"))) && (decide (PySem.W.takesIn K (.builtin "object.__class__") = some true) &&
  (decide (PySem.W.mroIn K C (.type "object") = some true) && decide (PySem.W.kitOne K (.ref C) (.ref C) = some true))))
theorem insB_ok {K : PySem.W.Frag} {C : Addr} (h : insB K C = true) : InsC K C := by
  unfold insB at h
  obtain ⟨h1, h⟩ := Bool.and_eq_true_iff.mp h
  obtain ⟨h2, h⟩ := Bool.and_eq_true_iff.mp h
  obtain ⟨h3, h⟩ := Bool.and_eq_true_iff.mp h
  obtain ⟨h4, h5⟩ := Bool.and_eq_true_iff.mp h
  exact ⟨of_decide_eq_true h1, of_decide_eq_true h2, of_decide_eq_true h3, of_decide_eq_true h4, of_decide_eq_true h5⟩
end VB
/-! error classes that carry one value, from what is looked at -/
namespace VB
open PySem PySem.Spec PyProof.Rows L2
def oexB (K : PySem.W.Frag) (C : Addr) : Bool := match K.lookup C with
  | some ⟨.type "type", _, .cls cd, sl⟩ => (match cd.mro, sl.toList with
    | .ref C' :: bm, [_, _, _, _, some (.builtin n), _] => decide (C' = C) && (decide (n = "ValueError.__new__") && (!cd.hasDel && (cd.hasDict && PySem.HandSPX.refsVE bm)))
    | _, _ => false)
  | _ => false
theorem oexB_cls {K : PySem.W.Frag} {C : Addr} (q : oexB K C = true) : ∃ nm q N bs bm sn sub ab col dd k0 k1 k2 k3 k5, K.lookup C = some (excClassObj nm q C N bs bm true sn sub ab col dd k0 k1 k2 k3 k5 "ValueError.__new__") ∧ PySem.HandSPX.refsVE bm = true := by
  unfold oexB at q
  split at q
  · rename_i dd cd sl ho
    split at q
    · rename_i C' bm k0 k1 k2 k3 n k5 hm hs
      simp only [Bool.and_eq_true, decide_eq_true_eq, Bool.not_eq_true'] at q
      obtain ⟨rfl, rfl, hdel, hdic, ht⟩ := q
      obtain ⟨nm, bs, mro, ns, qn, hd, sn, sub, ab, col, del⟩ := cd
      dsimp only at hm hdel hdic
      subst hm hdel hdic
      have hsl : sl = #[k0, k1, k2, k3, some (.builtin "ValueError.__new__"), k5] := by
        obtain ⟨l⟩ := sl
        simp only at hs
        rw [hs]
      subst hsl
      exact ⟨nm, qn, ns, bs, bm, sn, sub, ab, col, dd, k0, k1, k2, k3, k5, ho, ht⟩
    · cases q
  · cases q
def errB (K : PySem.W.Frag) (x g : Str) : Bool := oexB K (He.ga K x) && (decide (PySem.W.findIn K (.ref (He.ga K x)) "__setattr__" = some (some (.builtin "object.__setattr__"))) && (decide (PySem.W.subIn K (.ref (He.ga K x)) (.type "BaseException") = some true) && (decide (PySem.W.typeIn K (.ref (He.ga K x)) = some (.type "type")) && (PySem.W.keepIn K (.ref (He.ga K x)) &&
  (decide (PySem.W.findIn K (.ref (He.ga K x)) "__init__" = some (some (.ref (He.ma K (He.ga K x) "__init__")))) && (decide (PySem.W.typeIn K (.ref (He.ma K (He.ga K x) "__init__")) = some (.type "function")) && (decide (PySem.W.findIn K (.ref (He.ga K x)) g = some none) && (xfB K (He.ga K x) && decide (PySem.W.exmOne K (.ref (He.ga K x)) (.ref (He.ga K x)) = some true)))))))))
theorem errB_ok {K : PySem.W.Frag} {mg : Str → Option Value} {x g : Str} (h : errB K x g = true) (gC : mg x = some (.ref (He.ga K x))) : ErrC K mg x g (He.ga K x) (He.ma K (He.ga K x) "__init__") ∧ PySem.W.exmOne K (.ref (He.ga K x)) (.ref (He.ga K x)) = some true := by
  unfold errB at h
  obtain ⟨h1, h⟩ := Bool.and_eq_true_iff.mp h
  obtain ⟨h2, h⟩ := Bool.and_eq_true_iff.mp h
  obtain ⟨h3, h⟩ := Bool.and_eq_true_iff.mp h
  obtain ⟨h4, h⟩ := Bool.and_eq_true_iff.mp h
  obtain ⟨h5, h⟩ := Bool.and_eq_true_iff.mp h
  obtain ⟨h6, h⟩ := Bool.and_eq_true_iff.mp h
  obtain ⟨h7, h⟩ := Bool.and_eq_true_iff.mp h
  obtain ⟨h8, h⟩ := Bool.and_eq_true_iff.mp h
  obtain ⟨h9, h10⟩ := Bool.and_eq_true_iff.mp h
  exact ⟨⟨⟨oexB_cls h1, of_decide_eq_true h2, of_decide_eq_true h3, of_decide_eq_true h4, h5⟩, gC, of_decide_eq_true h6, of_decide_eq_true h7, of_decide_eq_true h8, xfB_ok h9⟩, of_decide_eq_true h10⟩
end VB
namespace K2
open PySem PySem.Spec PyProof.Rows L2 VB
def top (i : Nat) : Stmt := PySem.Challenge.pw_onewaybits_k02_numbers_and_refused_octet.main.body.getD i (.Pass ⟨0, 0, 0, 0⟩)
def mtop (i j : Nat) : Stmt := match top i with | .ClassDef _ _ _ b _ _ _ _ _ _ _ => b.getD j (.Pass ⟨0, 0, 0, 0⟩) | _ => .Pass ⟨0, 0, 0, 0⟩
abbrev s_is_int : Stmt := top 8
theorem sc_is_int : FnScope ["value"] ["value"] (defScope s_is_int) := ⟨rfl, rfl, rfl, by decide +kernel, rfl, by decide +kernel, by decide +kernel⟩
abbrev s_is_int_from : Stmt := top 9
theorem sc_is_int_from : FnScope ["value", "least", "greatest"] ["value", "least", "greatest"] (defScope s_is_int_from) := ⟨rfl, rfl, rfl, by decide +kernel, rfl, by decide +kernel, by decide +kernel⟩
abbrev s_is_list : Stmt := top 10
theorem sc_is_list : FnScope ["value"] ["value"] (defScope s_is_list) := ⟨rfl, rfl, rfl, by decide +kernel, rfl, by decide +kernel, by decide +kernel⟩
abbrev s_is_octets : Stmt := top 11
theorem sc_is_octets : FnScope ["value", "octet"] ["value"] (defScope s_is_octets) := ⟨rfl, rfl, rfl, by decide +kernel, rfl, by decide +kernel, by decide +kernel⟩
abbrev s_is_mask : Stmt := top 12
theorem sc_is_mask : FnScope ["value"] ["value"] (defScope s_is_mask) := ⟨rfl, rfl, rfl, by decide +kernel, rfl, by decide +kernel, by decide +kernel⟩
abbrev s_zeros : Stmt := top 16
theorem sc_zeros : FnScope ["octets"] ["octets"] (defScope s_zeros) := ⟨rfl, rfl, rfl, by decide +kernel, rfl, by decide +kernel, by decide +kernel⟩
abbrev s_zero_bits : Stmt := top 17
theorem sc_zero_bits : FnScope ["octets", "octet"] ["octets"] (defScope s_zero_bits) := ⟨rfl, rfl, rfl, by decide +kernel, rfl, by decide +kernel, by decide +kernel⟩
abbrev s_falls : Stmt := top 18
theorem sc_falls : FnScope ["old", "new", "was", "now"] ["old", "new"] (defScope s_falls) := ⟨rfl, rfl, rfl, by decide +kernel, rfl, by decide +kernel, by decide +kernel⟩
abbrev s_rises : Stmt := top 19
theorem sc_rises : FnScope ["old", "new", "was", "now"] ["old", "new"] (defScope s_rises) := ⟨rfl, rfl, rfl, by decide +kernel, rfl, by decide +kernel, by decide +kernel⟩
abbrev s_changed : Stmt := top 20
theorem sc_changed : FnScope ["old", "new", "mask", "unlike", "octets", "k", "bit", "was", "now"] ["old", "new", "mask"] (defScope s_changed) := ⟨rfl, rfl, rfl, by decide +kernel, rfl, by decide +kernel, by decide +kernel⟩
abbrev s_number_in : Stmt := top 21
theorem sc_number_in : FnScope ["octets"] ["octets"] (defScope s_number_in) := ⟨rfl, rfl, rfl, by decide +kernel, rfl, by decide +kernel, by decide +kernel⟩
abbrev s_number_told_by : Stmt := top 22
theorem sc_number_told_by : FnScope ["octets", "number", "octet"] ["octets"] (defScope s_number_told_by) := ⟨rfl, rfl, rfl, by decide +kernel, rfl, by decide +kernel, by decide +kernel⟩
abbrev s_in_octets : Stmt := top 23
theorem sc_in_octets : FnScope ["number", "count"] ["number", "count"] (defScope s_in_octets) := ⟨rfl, rfl, rfl, by decide +kernel, rfl, by decide +kernel, by decide +kernel⟩
abbrev s_octets_telling : Stmt := top 24
theorem sc_octets_telling : FnScope ["number", "count", "k"] ["number", "count"] (defScope s_octets_telling) := ⟨rfl, rfl, rfl, by decide +kernel, rfl, by decide +kernel, by decide +kernel⟩
abbrev s__check_octets : Stmt := top 25
theorem sc__check_octets : FnScope ["octets"] ["octets"] (defScope s__check_octets) := ⟨rfl, rfl, rfl, by decide +kernel, rfl, by decide +kernel, by decide +kernel⟩
abbrev s__check_pair : Stmt := top 26
theorem sc__check_pair : FnScope ["old", "new"] ["old", "new"] (defScope s__check_pair) := ⟨rfl, rfl, rfl, by decide +kernel, rfl, by decide +kernel, by decide +kernel⟩
abbrev s__ones : Stmt := top 27
theorem sc__ones : FnScope ["octets", "bit"] ["octets"] (defScope s__ones) := ⟨rfl, rfl, rfl, by decide +kernel, rfl, by decide +kernel, by decide +kernel⟩
abbrev s__worth : Stmt := top 28
theorem sc__worth : FnScope ["bit"] ["bit"] (defScope s__worth) := ⟨rfl, rfl, rfl, by decide +kernel, rfl, by decide +kernel, by decide +kernel⟩
abbrev s__law_cell : Stmt := top 30
theorem sc__law_cell : FnScope ["_law_script", "_law_k"] ["_law_script", "_law_k"] (defScope s__law_cell) := ⟨rfl, rfl, rfl, by decide +kernel, rfl, by decide +kernel, by decide +kernel⟩
abbrev s__law_box : Stmt := top 31
theorem sc__law_box : FnScope ["_law_great"] ["_law_great"] (defScope s__law_box) := ⟨rfl, rfl, rfl, by decide +kernel, rfl, by decide +kernel, by decide +kernel⟩
abbrev s__law_take : Stmt := top 32
theorem sc__law_take : FnScope ["_law_box_here", "_law_many", "_law_digit", "_law_mixed"] ["_law_box_here", "_law_many"] (defScope s__law_take) := ⟨rfl, rfl, rfl, by decide +kernel, rfl, by decide +kernel, by decide +kernel⟩
abbrev s__law_octets : Stmt := top 33
theorem sc__law_octets : FnScope ["_law_box_here", "_law_size", "_law_front", "_law_k"] ["_law_box_here", "_law_size"] (defScope s__law_octets) := ⟨rfl, rfl, rfl, by decide +kernel, rfl, by decide +kernel, by decide +kernel⟩
abbrev s__law_sum : Stmt := top 34
theorem sc__law_sum : FnScope ["_law_octets_here", "_law_found", "_law_octet"] ["_law_octets_here"] (defScope s__law_sum) := ⟨rfl, rfl, rfl, by decide +kernel, rfl, by decide +kernel, by decide +kernel⟩
abbrev s__law_parts : Stmt := top 35
theorem sc__law_parts : FnScope ["_law_number", "_law_count", "_law_found", "_law_left", "_law_k"] ["_law_number", "_law_count"] (defScope s__law_parts) := ⟨rfl, rfl, rfl, by decide +kernel, rfl, by decide +kernel, by decide +kernel⟩
abbrev s__law_is : Stmt := top 36
theorem sc__law_is : FnScope ["_law_value", "_law_due"] ["_law_value", "_law_due"] (defScope s__law_is) := ⟨rfl, rfl, rfl, by decide +kernel, rfl, by decide +kernel, by decide +kernel⟩
abbrev s__law_numbers_right : Stmt := top 37
theorem sc__law_numbers_right : FnScope ["_law_box_here", "_law_size", "_law_octets_here", "_law_handed", "_law_number", "_law_turn", "_law_told"] ["_law_box_here"] (defScope s__law_numbers_right) := ⟨rfl, rfl, rfl, by decide +kernel, rfl, by decide +kernel, by decide +kernel⟩
abbrev s__law_met : Stmt := top 38
theorem sc__law_met : FnScope ["_law_way", "_law_one", "_law_other", "_law_named", "e"] ["_law_way", "_law_one", "_law_other", "_law_named"] (defScope s__law_met) := ⟨rfl, rfl, rfl, by decide +kernel, rfl, by decide +kernel, by decide +kernel⟩
abbrev s__law_masked : Stmt := top 39
theorem sc__law_masked : FnScope ["_law_one", "_law_other", "_law_mask", "_law_named", "e"] ["_law_one", "_law_other", "_law_mask", "_law_named"] (defScope s__law_masked) := ⟨rfl, rfl, rfl, by decide +kernel, rfl, by decide +kernel, by decide +kernel⟩
abbrev s__law_odd : Stmt := top 40
theorem sc__law_odd : FnScope ["_law_kind"] ["_law_kind"] (defScope s__law_odd) := ⟨rfl, rfl, rfl, by decide +kernel, rfl, by decide +kernel, by decide +kernel⟩
abbrev s__law_count_right : Stmt := top 41
theorem sc__law_count_right : FnScope ["_law_box_here", "_law_power", "_law_count", "_law_k", "_law_low", "_law_kind", "_law_more", "_law_number", "_law_named", "_law_wrong"] ["_law_box_here"] (defScope s__law_count_right) := ⟨rfl, rfl, rfl, by decide +kernel, rfl, by decide +kernel, by decide +kernel⟩
abbrev s__law_spoilt : Stmt := top 42
theorem sc__law_spoilt : FnScope ["_law_octets_here", "_law_kind", "_law_spot", "_law_odd_here", "_law_item", "_law_found"] ["_law_octets_here", "_law_kind", "_law_spot", "_law_odd_here"] (defScope s__law_spoilt) := ⟨rfl, rfl, rfl, by decide +kernel, rfl, by decide +kernel, by decide +kernel⟩
abbrev s__law_same : Stmt := top 43
theorem sc__law_same : FnScope ["_law_met_here", "_law_word", "_law_bad"] ["_law_met_here", "_law_word", "_law_bad"] (defScope s__law_same) := ⟨rfl, rfl, rfl, by decide +kernel, rfl, by decide +kernel, by decide +kernel⟩
abbrev s__law_doors_right : Stmt := top 44
theorem sc__law_doors_right : FnScope ["_law_box_here", "_law_size", "_law_octets_here", "_law_other", "_law_kind", "_law_spot", "_law_odd_here", "_law_more", "_law_turn", "_law_way", "_law_named", "_law_bad", "_law_last", "_law_wrong", "_law_met_here"] ["_law_box_here"] (defScope s__law_doors_right) := ⟨rfl, rfl, rfl, by decide +kernel, rfl, by decide +kernel, by decide +kernel⟩
abbrev s__law_masks_right : Stmt := top 45
theorem sc__law_masks_right : FnScope ["_law_box_here", "_law_size", "_law_octets_here", "_law_other", "_law_kind", "_law_low", "_law_odd_here", "_law_great", "_law_wrong", "_law_named", "_law_bad", "_law_grown", "_law_due", "_law_ends", "_law_mask"] ["_law_box_here"] (defScope s__law_masks_right) := ⟨rfl, rfl, rfl, by decide +kernel, rfl, by decide +kernel, by decide +kernel⟩
abbrev s_law : Stmt := top 46
theorem sc_law : FnScope ["_law_script", "_law_k", "_law_box_here"] ["_law_script"] (defScope s_law) := ⟨rfl, rfl, rfl, by decide +kernel, rfl, by decide +kernel, by decide +kernel⟩
abbrev FnP (K : PySem.W.Frag) (x : Str) (st : Stmt) (f : Addr) (fd : FuncData) : Prop := FunD K x x (defArgs st) (defBody st) (defScope st) [] [] f fd
abbrev FnM (K : PySem.W.Frag) (m q : Str) (st : Stmt) (f : Addr) (fd : FuncData) : Prop := FunD K m q (defArgs st) (defBody st) (defScope st) [] [] f fd
structure Txt (K : PySem.W.Frag) (mg : Str → Option Value) : Prop where
  f_abs : mg "abs" = none
  f_all : mg "all" = none
  f_bool : mg "bool" = none
  f_dict : mg "dict" = none
  f_enumerate : mg "enumerate" = none
  f_int : mg "int" = none
  f_isinstance : mg "isinstance" = none
  f_len : mg "len" = none
  f_list : mg "list" = none
  f_max : mg "max" = none
  f_min : mg "min" = none
  f_range : mg "range" = none
  f_repr : mg "repr" = none
  f_reversed : mg "reversed" = none
  f_sum : mg "sum" = none
  f_tuple : mg "tuple" = none
  f_zip : mg "zip" = none
  g_MASK_BITS : ∃ t, mg "MASK_BITS" = some (.int 4096 t)
  g_MOST_OCTETS_OF_A_NUMBER : ∃ t, mg "MOST_OCTETS_OF_A_NUMBER" = some (.int 8 t)
  t_ZEROS_OF_HALF : ∀ H : Hp, SqT K H (He.ga K "ZEROS_OF_HALF") (List.map V.int [4, 3, 3, 2, 3, 2, 2, 1, 3, 2, 2, 1, 2, 1, 1, 0])
  g_ZEROS_OF_HALF : mg "ZEROS_OF_HALF" = some (.ref (He.ga K "ZEROS_OF_HALF"))
end K2
namespace K2
open PySem PySem.Spec PyProof.Rows L2 VB
abbrev s_InvalidOctets____init__ : Stmt := mtop 2 0
theorem sc_InvalidOctets____init__ : FnScope ["self", "given"] ["self", "given"] (defScope s_InvalidOctets____init__) := ⟨rfl, rfl, rfl, by decide +kernel, rfl, by decide +kernel, by decide +kernel⟩
abbrev s_InvalidCount____init__ : Stmt := mtop 3 0
theorem sc_InvalidCount____init__ : FnScope ["self", "given"] ["self", "given"] (defScope s_InvalidCount____init__) := ⟨rfl, rfl, rfl, by decide +kernel, rfl, by decide +kernel, by decide +kernel⟩
abbrev s_InvalidNumber____init__ : Stmt := mtop 4 0
theorem sc_InvalidNumber____init__ : FnScope ["self", "given"] ["self", "given"] (defScope s_InvalidNumber____init__) := ⟨rfl, rfl, rfl, by decide +kernel, rfl, by decide +kernel, by decide +kernel⟩
abbrev s_InvalidMask____init__ : Stmt := mtop 5 0
theorem sc_InvalidMask____init__ : FnScope ["self", "given"] ["self", "given"] (defScope s_InvalidMask____init__) := ⟨rfl, rfl, rfl, by decide +kernel, rfl, by decide +kernel, by decide +kernel⟩
end K2
/-! repr of data, of truths, of ints, of None and of texts -/
namespace VB
open PySem PySem.Spec PyProof.Rows L2
section
variable {X : Cx}
theorem call_repr_non : CallR X (.builtin "repr") (fun xs H Q => xs = [.non] ∧ Q (.str "None") H) := by
  intro pins s σ H xs us Q I r h
  obtain ⟨rfl, q⟩ := h
  obtain ⟨u, rfl, ru⟩ := vals1 r
  cases (show u = Value.none from ru)
  exact PySem.P.repr_of_none ⟨.str _, H, I.tok _, ⟨_, rfl⟩, q⟩
theorem call_repr_str : CallR X (.builtin "repr") (fun xs H Q => ∃ x : Str, xs = [.str x] ∧ (reprText x).length ≤ sizeLine ∧ Q (.str (reprText x)) H) := by
  intro pins s σ H xs us Q I r h
  obtain ⟨x, rfl, hl, q⟩ := h
  obtain ⟨u, rfl, ru⟩ := vals1 r
  obtain ⟨t, rfl⟩ := (show ∃ t, u = Value.str x t from ru)
  exact PySem.P.repr_of_str ⟨.str _, H, I.tok _, ⟨_, rfl⟩, q⟩ hl
end
def rReprA (K : PySem.W.Frag) : List V → Hp → VK → Prop := fun xs H Q => rReprU K xs H Q ∨ ((xs = [.non] ∧ Q (.str "None") H) ∨ ∃ x : Str, xs = [.str x] ∧ (reprText x).length ≤ sizeLine ∧ Q (.str (reprText x)) H)
section
variable {X : Cx} {K : PySem.W.Frag} {H : Hp} {Q : VK}
theorem u_reprA {k : Nat} (hr : Rm k X.A) (hK : X.K = K := by rfl) : CallR X (.builtin "repr") (rReprA K) := by
  subst hK
  exact (u_reprU hr).or (call_repr_non.or call_repr_str)
end
end VB
/-! isinstance of a caught error that has a dict; == and index of own instances -/
namespace VB
open PySem PySem.Spec PyProof.Rows L2
/-- what isinstance asks of instances of the error class D, and that they are of class F -/
structure IsE (K : PySem.W.Frag) (D F : Addr) : Prop where
  ha : PySem.W.findIn K (.ref D) "__class__" = some (some (.builtin "object.__class__"))
  hn : PySem.W.specialIn K (.builtin "object.__class__") "__get__" = some (some (.builtin "getset_descriptor.__get__"))
  ht : PySem.W.takesIn K (.builtin "object.__class__") = some true
  hm : PySem.W.mroIn K D (.type "object") = some true
  kit : PySem.W.kitOne K (.ref D) (.ref F) = some true
def isEB (K : PySem.W.Frag) (D F : Addr) : Bool := decide (PySem.W.findIn K (.ref D) "__class__" = some (some (.builtin "object.__class__"))) && (decide (PySem.W.specialIn K (.builtin "object.__class__") "__get__" = some (some (.builtin "getset_descriptor.__get__"))) && (decide (PySem.W.takesIn K (.builtin "object.__class__") = some true) &&
  (decide (PySem.W.mroIn K D (.type "object") = some true) && decide (PySem.W.kitOne K (.ref D) (.ref F) = some true))))
theorem isEB_ok {K : PySem.W.Frag} {D F : Addr} (h : isEB K D F = true) : IsE K D F := by
  unfold isEB at h
  obtain ⟨h1, h⟩ := Bool.and_eq_true_iff.mp h
  obtain ⟨h2, h⟩ := Bool.and_eq_true_iff.mp h
  obtain ⟨h3, h⟩ := Bool.and_eq_true_iff.mp h
  obtain ⟨h4, h5⟩ := Bool.and_eq_true_iff.mp h
  exact ⟨of_decide_eq_true h1, of_decide_eq_true h2, of_decide_eq_true h3, of_decide_eq_true h4, of_decide_eq_true h5⟩
/-- isinstance(e, F), e the caught error -/
def rIsED (D F a : Addr) (cls : Value) (d : Option Addr) : List V → Hp → VK → Prop := fun xs H Q => xs = [.ref a, .ref F] ∧ cls = .ref D ∧ ∃ (dd : Addr) (fs : List (Str × V)), d = some dd ∧ H dd = some (.xd fs) ∧ Q (.bl true) H
theorem call_isED {X : Cx} {a D F : Addr} {oe : Obj} {cls : Value} {d : Option Addr} {pn : List (Addr × Obj)} (T : XfC X.K D) (C : IsE X.K D F) (hz : Zc cls d oe) (hf : ∃ vs, oe.data = .fields vs) : CallR (X.suite a ((a, oe) :: pn)) (.builtin "isinstance") (rIsED D F a cls d) := by
  intro pins s σ H xs us Q I r h
  obtain ⟨rfl, ec, dd, fs, ed, ea, q⟩ := h
  cases r with
  | cons rx rr =>
    cases rr with
    | cons rt rr =>
      cases rr
      cases rx
      cases rt
      subst ec
      subst ed
      obtain ⟨hget, _⟩ := I.pin (a, oe) (List.mem_append.mpr (.inl List.mem_cons_self))
      obtain ⟨vs, hd⟩ := hf
      have hx : ObjOk X.prog X.w H s.heap dd (.xd fs) := I.hok dd _ ea
      obtain ⟨mA, hns, hr⟩ := hx
      obtain ⟨od, ho, hl⟩ := lookIn_ns hns
      have J : PySem.W.InstAt s.heap a oe D (some od) := ⟨hget, hz.1, by unfold PySem.W.notCls; rw [hd] <;> rfl, by rw [hz.2]; exact ho⟩
      have hcl : (PySem.W.clsIn X.K D).isSome = true := by
        obtain ⟨cd, hc, _⟩ := PySem.W.any_some T.hdC
        rw [hc]
        rfl
      exact PySem.W.kia_one (PySem.W.kitx_exc hcl T.ga T.gg T.exC C.ha C.hn C.ht C.hm) I.kIn J C.kit (fun z => nomatch z) fun tk => ⟨.bl true, H, I.kept (t' := tk) fun _ _ z => z, rfl, q⟩
/-- what == asks of the class -/
def nsB (K : PySem.W.Frag) (N : Addr) : Bool := match K.lookup N with
  | some ⟨_, _, .dict es _, _⟩ => es.toList.all (fun e => match e.key with | .str _ _ => true | _ => false) && ((es.toList.find? (·.key.isStr "__eq__")).isNone && (es.toList.find? (·.key.isStr "__ne__")).isNone)
  | _ => false
def slB : List (Option Value) → Bool
  | [_, _, _, _, some (.builtin _), _] => true
  | _ => false
def cmpB (K : PySem.W.Frag) (C : Addr) : Bool := match K.lookup C with
  | some ⟨c, _, .cls cd, sl⟩ => decide (c = .type "type") && (decide (cd.mro = [.ref C, .type "object"]) && (!cd.hasDel && (slB sl.toList && nsB K cd.ns)))
  | _ => false
theorem cmp_ok {K : PySem.W.Frag} {h : Heap} {C a dx : Addr} (B : cmpB K C = true) (X : K.In h) (ha : h.get? a = some (PySem.W.instObj C dx)) : h.CmpInst a C [.type "object"] := by
  unfold cmpB at B
  split at B
  · rename_i c dd cd sl ho
    obtain ⟨b1, B⟩ := Bool.and_eq_true_iff.mp B
    obtain ⟨b2, B⟩ := Bool.and_eq_true_iff.mp B
    obtain ⟨b3, B⟩ := Bool.and_eq_true_iff.mp B
    obtain ⟨b4, b5⟩ := Bool.and_eq_true_iff.mp B
    have e1 : c = .type "type" := of_decide_eq_true b1
    have e2 : cd.mro = [.ref C, .type "object"] := of_decide_eq_true b2
    have e3 : cd.hasDel = false := by simpa using b3
    obtain ⟨nm, bs, mro, N, q, hdct, sn, sub, ab, col, del⟩ := cd
    dsimp only at e2 e3 b5
    subst e1 e2 e3
    obtain ⟨sl⟩ := sl
    unfold slB at b4
    split at b4
    · rename_i k0 k1 k2 k3 newId k5 es
      dsimp only at es
      subst es
      unfold nsB at b5
      split at b5
      · rename_i c' d' es ep sl' hN
        obtain ⟨n1, b5⟩ := Bool.and_eq_true_iff.mp b5
        obtain ⟨n2, n3⟩ := Bool.and_eq_true_iff.mp b5
        refine ⟨_, nm, q, N, bs, hdct, sn, sub, ab, col, dd, k0, k1, k2, k3, k5, newId, nsFind es, ha, rfl, X _ _ ho, ⟨_, es, ep, X _ _ hN, rfl, fun e he => ?_, fun _ => rfl⟩, ?_, ?_⟩
        · have := List.all_eq_true.mp n1 e (by simpa using he)
          split at this
          · rename_i n t hk
            exact ⟨n, t, hk⟩
          · cases this
        · show (es.find? fun e => e.key.isStr "__eq__").map (·.val) = none
          rw [← Array.find?_toList]
          rw [Option.isNone_iff_eq_none] at n2
          rw [n2]
          rfl
        · show (es.find? fun e => e.key.isStr "__ne__").map (·.val) = none
          rw [← Array.find?_toList]
          rw [Option.isNone_iff_eq_none] at n3
          rw [n3]
          rfl
      · cases b5
    · cases b4
  · cases B
/-- a == b, two own instances without an __eq__ of their own -/
def rEqI (C : Addr) : R2 := fun x y H Q => ∃ (a b da db : Addr) (fa fb : List (Str × V)), x = .ref a ∧ y = .ref b ∧ a ≠ b ∧ H a = some (.ins C da fa) ∧ H b = some (.ins C db fb) ∧ Q (.bl false) H
theorem op_eqI {X : Cx} {C : Addr} {k : Nat} (hr : Rm k X.A) (B : cmpB X.K C = true) : OpR X (compareOp .Eq) (rEqI C) := by
  intro pins s σ H x y v u Q I rx ry h
  obtain ⟨a, b, da, db, fa, fb, rfl, rfl, ne, ea, eb, q⟩ := h
  cases rx
  cases ry
  have oa : ObjOk X.prog X.w H s.heap a (.ins C da fa) := I.hok a _ ea
  have ob : ObjOk X.prog X.w H s.heap b (.ins C db fb) := I.hok b _ eb
  obtain ⟨_, _, _, ga, _⟩ := oa
  obtain ⟨_, _, _, gb, _⟩ := ob
  have hu := hr.rm.units
  obtain ⟨hp, g, d, t, os⟩ := s
  exact compareOp_eq_other F.cmp_object F.cmp_object (cmp_ok B I.kIn ga) (cmp_ok B I.kIn gb) ne (by omega) ⟨.bl false, H, I, rfl, q⟩
/-- l.index(b), l = [a, b] -/
def rIdx2 (C : Addr) : V → List V → Hp → VK → Prop := fun x xs H Q => ∃ (l a b da db : Addr) (fa fb : List (Str × V)), x = .ref l ∧ xs = [.ref b] ∧ H l = some (.lst [.ref a, .ref b]) ∧ a ≠ b ∧ H a = some (.ins C da fa) ∧ H b = some (.ins C db fb) ∧ Q (.int 1) H
theorem mt_idx2 {X : Cx} {C : Addr} {k : Nat} (hr : Rm k X.A) (B : cmpB X.K C = true) : MtR X "list.index" (rIdx2 C) := by
  intro pins s σ H x xs v us Q I rx rxs h
  obtain ⟨l, a, b, da, db, fa, fb, rfl, rfl, hl, ne, ea, eb, q⟩ := h
  cases rx
  obtain ⟨u, rfl, ru⟩ := rxs.one
  cases ru
  have oa : ObjOk X.prog X.w H s.heap a (.ins C da fa) := I.hok a _ ea
  have ob : ObjOk X.prog X.w H s.heap b (.ins C db fb) := I.hok b _ eb
  obtain ⟨_, _, _, ga, _⟩ := oa
  obtain ⟨_, _, _, gb, _⟩ := ob
  have hu := hr.rm.units
  obtain ⟨z, its, n, r, _, ho⟩ := I.lstM hl
  obtain ⟨u1, r', rfl, r1, r2⟩ : ∃ u1 r', its = u1 :: r' ∧ RelV (.ref a) u1 ∧ Vals [.ref b] r' := by
    cases r with
    | cons r1 r2 => exact ⟨_, _, rfl, r1, r2⟩
  obtain ⟨u2, rfl, r3⟩ := r2.one
  cases r1
  cases r3
  refine call_meets PySem.F.slot_list_index ⟨_, ho, rfl⟩ PySem.F.entry_list_index (PySem.F.args_list_index_2 _ _)
    (SeqAt.list_indexAt l #[Value.ref a, Value.ref b] n none #[] (.ref b) (fun y => y == .ref b) 1 (by show 1 < 2; omega) (by omega) ?_ ?_) ⟨ho, fun y hy => ?_, ?_⟩
  · exact beq_self_eq_true _
  · intro m hm hm1
    obtain rfl : m = 0 := by omega
    show (Value.ref a == Value.ref b) = false
    exact beq_eq_false_iff_ne.mpr fun z => ne (Value.ref.inj z)
  · have : y = .ref a ∨ y = .ref b := by simpa using hy
    rcases this with rfl | rfl
    · have e : (Value.ref a == Value.ref b) = false := beq_eq_false_iff_ne.mpr fun z => ne (Value.ref.inj z)
      rw [e]
      refine SeqAt.EqAt.of_refs ne fun prog w E Q hq => ?_
      obtain ⟨hp, g, d, t, os⟩ := s
      exact richCompare_eq_other F.cmp_object F.cmp_object (cmp_ok B I.kIn ga) (cmp_ok B I.kIn gb) ne (by show X.A.units + 1 < cLine; omega) hq
    · rw [beq_self_eq_true]
      exact SeqAt.EqAt.same _
  · exact ⟨.int 1, H, I.tok _, ⟨_, rfl⟩, q⟩
end VB
/-! the ends -/
namespace VB
open PySem PySem.Spec PyProof.Rows L2
theorem vals_getD {zs : List V} {ws : List Value} (h : Vals zs ws) : ∀ i : Nat, RelV (zs.getD i .non) (ws.getD i .none) := by
  induction h with
  | nil =>
    intro i
    exact rfl
  | cons r _ ih =>
    intro i
    cases i with
    | zero => exact r
    | succ i => exact ih i
theorem kb_of {K : PySem.W.Frag} {x qual : Str} {params : Arguments} {body : List Stmt} {scope : Scope} {kws : List (Str × V)} {f : Addr} {fd : FuncData} {ps ks : List Str} {n : Nat}
    {g : List Value → List Value → List Value} {gV : List V → List V → List V} (F : FunD K x qual params body scope [] kws f fd)
    (hrel : ∀ {vs : List V} {us : List Value} {zs : List V} {ws : List Value}, Vals vs us → Vals zs ws → Vals (gV vs zs) (g us ws))
    (h : ∀ (kV doc pm : Value) (an : Option Addr) (cdv ct : Value) (us ws : List Value), us.length = n → ws.length = ks.length → bindArgs (PySem.W.fnOf x qual params body scope .none kV doc pm an cdv ct) ⟨us, ks.zip ws⟩ = pure (ps.zip (g us ws))) :
    KBn K fd ps n ks g gV := by
  obtain ⟨oc, od, dV, kV, doc, pm, an, cdv, ct, osl, rfl, lk, hcd, hD, hK⟩ := F.ex
  rcases hD with ⟨_, rfl⟩ | ⟨e, _⟩
  · exact ⟨fun s us ws _ l1 l2 => .of_eq (h kV doc pm an cdv ct us ws l1 l2), fun r1 r2 => hrel r1 r2⟩
  · exact absurd rfl e
end VB
namespace K2
open PySem PySem.Spec PyProof.Rows L2 VB
def d__law_box : He.DefD := ⟨("_law_box", none), "_law_box", "_law_box", defArgs s__law_box, defBody s__law_box, defScope s__law_box, [], []⟩
def d__law_cell : He.DefD := ⟨("_law_cell", none), "_law_cell", "_law_cell", defArgs s__law_cell, defBody s__law_cell, defScope s__law_cell, [], []⟩
def d__law_take : He.DefD := ⟨("_law_take", none), "_law_take", "_law_take", defArgs s__law_take, defBody s__law_take, defScope s__law_take, [], []⟩
def d__law_octets : He.DefD := ⟨("_law_octets", none), "_law_octets", "_law_octets", defArgs s__law_octets, defBody s__law_octets, defScope s__law_octets, [], []⟩
def d__law_sum : He.DefD := ⟨("_law_sum", none), "_law_sum", "_law_sum", defArgs s__law_sum, defBody s__law_sum, defScope s__law_sum, [], []⟩
def d__law_is : He.DefD := ⟨("_law_is", none), "_law_is", "_law_is", defArgs s__law_is, defBody s__law_is, defScope s__law_is, [], []⟩
def d_is_list : He.DefD := ⟨("is_list", none), "is_list", "is_list", defArgs s_is_list, defBody s_is_list, defScope s_is_list, [], []⟩
def d_is_octets : He.DefD := ⟨("is_octets", none), "is_octets", "is_octets", defArgs s_is_octets, defBody s_is_octets, defScope s_is_octets, [], []⟩
def d__check_octets : He.DefD := ⟨("_check_octets", none), "_check_octets", "_check_octets", defArgs s__check_octets, defBody s__check_octets, defScope s__check_octets, [], []⟩
def d_number_told_by : He.DefD := ⟨("number_told_by", none), "number_told_by", "number_told_by", defArgs s_number_told_by, defBody s_number_told_by, defScope s_number_told_by, [], []⟩
def d_number_in : He.DefD := ⟨("number_in", none), "number_in", "number_in", defArgs s_number_in, defBody s_number_in, defScope s_number_in, [], []⟩
def d_is_int : He.DefD := ⟨("is_int", none), "is_int", "is_int", defArgs s_is_int, defBody s_is_int, defScope s_is_int, [], []⟩
def d_is_int_from : He.DefD := ⟨("is_int_from", none), "is_int_from", "is_int_from", defArgs s_is_int_from, defBody s_is_int_from, defScope s_is_int_from, [], []⟩
def d_octets_telling : He.DefD := ⟨("octets_telling", none), "octets_telling", "octets_telling", defArgs s_octets_telling, defBody s_octets_telling, defScope s_octets_telling, [], []⟩
def d_in_octets : He.DefD := ⟨("in_octets", none), "in_octets", "in_octets", defArgs s_in_octets, defBody s_in_octets, defScope s_in_octets, [], []⟩
def d__law_numbers_right : He.DefD := ⟨("_law_numbers_right", none), "_law_numbers_right", "_law_numbers_right", defArgs s__law_numbers_right, defBody s__law_numbers_right, defScope s__law_numbers_right, [], []⟩
def d__law_odd : He.DefD := ⟨("_law_odd", none), "_law_odd", "_law_odd", defArgs s__law_odd, defBody s__law_odd, defScope s__law_odd, [], []⟩
def d__law_parts : He.DefD := ⟨("_law_parts", none), "_law_parts", "_law_parts", defArgs s__law_parts, defBody s__law_parts, defScope s__law_parts, [], []⟩
def d_zero_bits : He.DefD := ⟨("zero_bits", none), "zero_bits", "zero_bits", defArgs s_zero_bits, defBody s_zero_bits, defScope s_zero_bits, [], []⟩
def d_zeros : He.DefD := ⟨("zeros", none), "zeros", "zeros", defArgs s_zeros, defBody s_zeros, defScope s_zeros, [], []⟩
def d__check_pair : He.DefD := ⟨("_check_pair", none), "_check_pair", "_check_pair", defArgs s__check_pair, defBody s__check_pair, defScope s__check_pair, [], []⟩
def d__worth : He.DefD := ⟨("_worth", none), "_worth", "_worth", defArgs s__worth, defBody s__worth, defScope s__worth, [], []⟩
def d__ones : He.DefD := ⟨("_ones", none), "_ones", "_ones", defArgs s__ones, defBody s__ones, defScope s__ones, [], []⟩
def d_falls : He.DefD := ⟨("falls", none), "falls", "falls", defArgs s_falls, defBody s_falls, defScope s_falls, [], []⟩
def d_rises : He.DefD := ⟨("rises", none), "rises", "rises", defArgs s_rises, defBody s_rises, defScope s_rises, [], []⟩
def d_is_mask : He.DefD := ⟨("is_mask", none), "is_mask", "is_mask", defArgs s_is_mask, defBody s_is_mask, defScope s_is_mask, [], []⟩
def d_changed : He.DefD := ⟨("changed", none), "changed", "changed", defArgs s_changed, defBody s_changed, defScope s_changed, [], []⟩
def d__law_met : He.DefD := ⟨("_law_met", none), "_law_met", "_law_met", defArgs s__law_met, defBody s__law_met, defScope s__law_met, [], []⟩
def d__law_same : He.DefD := ⟨("_law_same", none), "_law_same", "_law_same", defArgs s__law_same, defBody s__law_same, defScope s__law_same, [], []⟩
def d__law_count_right : He.DefD := ⟨("_law_count_right", none), "_law_count_right", "_law_count_right", defArgs s__law_count_right, defBody s__law_count_right, defScope s__law_count_right, [], []⟩
def d__law_spoilt : He.DefD := ⟨("_law_spoilt", none), "_law_spoilt", "_law_spoilt", defArgs s__law_spoilt, defBody s__law_spoilt, defScope s__law_spoilt, [], []⟩
def d__law_doors_right : He.DefD := ⟨("_law_doors_right", none), "_law_doors_right", "_law_doors_right", defArgs s__law_doors_right, defBody s__law_doors_right, defScope s__law_doors_right, [], []⟩
def d__law_masked : He.DefD := ⟨("_law_masked", none), "_law_masked", "_law_masked", defArgs s__law_masked, defBody s__law_masked, defScope s__law_masked, [], []⟩
def d__law_masks_right : He.DefD := ⟨("_law_masks_right", none), "_law_masks_right", "_law_masks_right", defArgs s__law_masks_right, defBody s__law_masks_right, defScope s__law_masks_right, [], []⟩
def d_law : He.DefD := ⟨("law", none), "law", "law", defArgs s_law, defBody s_law, defScope s_law, [], []⟩
def d_InvalidOctets____init__ : He.DefD := ⟨("InvalidOctets", some "__init__"), "__init__", "InvalidOctets.__init__", defArgs s_InvalidOctets____init__, defBody s_InvalidOctets____init__, defScope s_InvalidOctets____init__, [], []⟩
def d_InvalidCount____init__ : He.DefD := ⟨("InvalidCount", some "__init__"), "__init__", "InvalidCount.__init__", defArgs s_InvalidCount____init__, defBody s_InvalidCount____init__, defScope s_InvalidCount____init__, [], []⟩
def d_InvalidNumber____init__ : He.DefD := ⟨("InvalidNumber", some "__init__"), "__init__", "InvalidNumber.__init__", defArgs s_InvalidNumber____init__, defBody s_InvalidNumber____init__, defScope s_InvalidNumber____init__, [], []⟩
def d_InvalidMask____init__ : He.DefD := ⟨("InvalidMask", some "__init__"), "__init__", "InvalidMask.__init__", defArgs s_InvalidMask____init__, defBody s_InvalidMask____init__, defScope s_InvalidMask____init__, [], []⟩
def fnl : List He.DefD := [d__law_box, d__law_cell, d__law_take, d__law_octets, d__law_sum, d__law_is, d_is_list, d_is_octets, d__check_octets, d_number_told_by, d_number_in, d_is_int, d_is_int_from, d_octets_telling, d_in_octets, d__law_numbers_right, d__law_odd, d__law_parts, d_zero_bits, d_zeros, d__check_pair, d__worth, d__ones, d_falls, d_rises, d_is_mask, d_changed, d__law_met, d__law_same, d__law_count_right, d__law_spoilt, d__law_doors_right, d__law_masked, d__law_masks_right, d_law, d_InvalidOctets____init__, d_InvalidCount____init__, d_InvalidNumber____init__, d_InvalidMask____init__]
def fal : List He.Fa := [.glo "_law_box", .glo "_law_cell", .glo "_law_take", .glo "_law_octets", .glo "_law_sum", .glo "_law_is", .glo "is_list", .glo "is_octets", .glo "_check_octets", .glo "number_told_by", .glo "number_in", .glo "is_int", .glo "is_int_from", .glo "octets_telling", .glo "in_octets", .glo "_law_numbers_right", .glo "_law_odd", .glo "_law_parts", .glo "zero_bits", .glo "zeros", .glo "_check_pair", .glo "_worth", .glo "_ones", .glo "falls", .glo "rises", .glo "is_mask", .glo "changed", .glo "_law_met", .glo "_law_same", .glo "_law_count_right", .glo "_law_spoilt", .glo "_law_doors_right", .glo "_law_masked", .glo "_law_masks_right", .glo "law", .free "abs", .free "all", .free "bool", .free "dict", .free "enumerate", .free "int", .free "isinstance", .free "len", .free "list", .free "max", .free "min", .free "range", .free "repr", .free "reversed", .free "sum", .free "tuple", .free "zip", .int "MASK_BITS" 4096, .int "MOST_OCTETS_OF_A_NUMBER" 8, .glo "ZEROS_OF_HALF", .glo "InvalidOctets", .glo "InvalidCount", .glo "InvalidNumber", .glo "InvalidMask"]
abbrev Rw : PySem.W.OpenRow := PySem.W.OpenLaw.row PySem.Challenge.rw_onewaybits_k02_numbers_and_refused_octet
def exB (K : PySem.W.Frag) : Bool := He.tupB K "ZEROS_OF_HALF" [.int 4, .int 3, .int 3, .int 2, .int 3, .int 2, .int 2, .int 1, .int 3, .int 2, .int 2, .int 1, .int 2, .int 1, .int 1, .int 0] && (errB K "InvalidOctets" "given" && (errB K "InvalidCount" "given" && (errB K "InvalidNumber" "given" && (errB K "InvalidMask" "given" && (decide (PySem.W.exmOne K (.ref (He.ga K "InvalidCount")) (.ref (He.ga K "InvalidOctets")) = some false) && (decide (PySem.W.exmOne K (.ref (He.ga K "InvalidNumber")) (.ref (He.ga K "InvalidOctets")) = some false) && (decide (PySem.W.exmOne K (.ref (He.ga K "InvalidNumber")) (.ref (He.ga K "InvalidCount")) = some false) && (decide (PySem.W.exmOne K (.ref (He.ga K "InvalidMask")) (.ref (He.ga K "InvalidOctets")) = some false)))))))))
abbrev hk : PySem.W.Hook := He.hookX 6 fal fnl [] [] exB
def ob (s : PySem.W.SharedT) : He.AlX := He.obsX 6 fal fnl [] [] exB (HandSHeadRun.getT s)
theorem ob_eq (s : PySem.W.SharedT) : ob s = hk.obs s.abs := He.obsX_eq (HandSHeadRun.getT_eq s)
def ln0 : List Str := ["FlashError", "InvalidOctets", "InvalidCount", "InvalidNumber", "InvalidMask", "MASK_BITS", "is_int", "is_int_from", "is_list", "is_octets", "is_mask", "MOST_OCTETS_OF_A_NUMBER", "ZEROS_OF_HALF", "zeros", "zero_bits", "falls", "rises", "changed", "number_in", "number_told_by", "in_octets", "octets_telling", "_check_octets", "_check_pair", "_ones", "_worth", "_law_cell", "_law_box", "_law_take", "_law_octets"]
def ln1 : List Str := ["_law_sum", "_law_parts", "_law_is", "_law_numbers_right", "_law_met", "_law_masked", "_law_odd", "_law_count_right", "_law_spoilt", "_law_same", "_law_doors_right", "_law_masks_right"]
abbrev lns : List Str := ln0 ++ ln1
theorem run (w : World) : HandSHeadRun.RunEq Rw (PySem.W.view Rw.prog [46]) hk ob 30000 lns w := by
  intro os
  kernel_rfl
end K2
namespace K2
open PySem PySem.Spec PyProof.Rows L2 VB BM
section
variable {P : Program} {w : World} {K : PySem.W.Frag} {mg : Str → Option Value} {base : Heap} {f : Addr} {fd : FuncData}
def spTake : Sp := fun vs H Q _ => ∃ (a : Addr) (many n : Int), vs = [.ref a, .int many] ∧ Box H a n ∧ 0 < many ∧ many < 2000000 ∧ n < 100000000 ∧
  ∀ (r : Int) (H' : Hp), 0 ≤ r → r < many → Exb a H H' → Box H' a (n + 1) → Q (.int r) H'
theorem ok_take (T : Txt K mg) (F : FnP K "_law_take" s__law_take f fd) : Fg P w K mg base CX0 1 f fd ["_law_box_here", "_law_many"] spTake := by
  refine fg_of F sc__law_take (fun vs H Q E h => ?_) (fun cdv A outer s H vs Q E hr h => ⟨_, (PSs.nox (pss_cons (ps_if (PW.pt (pw_and (pt_tru (K := K) (pe_ix (u_ix (K := K)) (pv 0) pe_int (fun _ _ => rfl)) (by intro _; rfl)) (pw_and1 (pt_cmpR op_gt (pe_ix (u_ix (K := K)) (pv 0) pe_int (fun _ _ => rfl)) pe_int (nomark _)))))
  (pss_cons (ps_set (i := 2) sc__law_take.nd rfl (by first | exact Or.inl rfl | exact Or.inr rfl) (pe_op u_mod (pe_callTy call_int1 (by rfl) T.f_int (by decide +kernel) (pa_cons (pe_ix (u_ix (K := K)) (pv 0) pe_int (fun _ _ => rfl)) pa_nil)) (pv 1)))
  (pss_cons (ps_asg (pe_op u_fdiv (pe_ix (u_ix (K := K)) (pv 0) pe_int (fun _ _ => rfl)) (pv 1)) (pg_sub (pv 0) pe_int set_list))
  (pss_one (ps_ret (pv 2))))) pss_nil)
  (pss_cons (ps_asg (pe_op (u_add (K := K)) (pe_ix (u_ix (K := K)) (pv 0) pe_int (fun _ _ => rfl)) pe_int) (pg_sub (pv 0) pe_int set_list))
  (pss_cons (ps_set (i := 3) sc__law_take.nd rfl (by first | exact Or.inl rfl | exact Or.inr rfl) (pe_op u_mod (pe_callTy call_int1 (by rfl) T.f_int (by decide +kernel) (pa_cons (pe_op op_pow (pe_op (u_add (K := K)) (pe_op (u_add (K := K)) (pe_ix (u_ix (K := K)) (pv 0) pe_int (fun _ _ => rfl)) (pe_op (u_mul (K := K)) pe_int (pe_ix (u_ix (K := K)) (pv 0) pe_int (fun _ _ => rfl)))) pe_int) pe_int) pa_nil)) pe_int))
  (pss_one (ps_ret (pe_op u_mod (pe_op u_fdiv (pe_op u_mod (pe_callTy call_int1 (by rfl) T.f_int (by decide +kernel) (pa_cons (pe_op op_pow (pe_op (u_add (K := K)) (pe_op (u_mul (K := K)) (pv 3) pe_int) (pe_op (u_mul (K := K)) pe_int (pe_ix (u_ix (K := K)) (pv 0) pe_int (fun _ _ => rfl)))) pe_int) pa_nil)) pe_int) pe_int) (pv 1)))))))), ?_⟩)
  · obtain ⟨a, many, n, rfl, _⟩ := h
    rfl
  · obtain ⟨a, many, n, rfl, ⟨d, m, c, b, hb, hd, hm, hm2, hc, hc2⟩, h1, h2, hn, q⟩ := h
    have S : SqL K H a [.int d, .bl b, .int m, .int c] := SqL.of hb
    -- the digits' way
    have A1 : b = true → 0 < d → Q (.int (d % many)) (upd H a (.lst [.int (d / many), .bl b, .int m, .int c])) := by
      intro _ _
      refine q _ _ (Int.emod_nonneg _ (by omega)) (Int.emod_lt_of_pos _ h1) Exb.upd ⟨d / many, m, c, b, upd_same, Int.ediv_nonneg hd (by omega), hm, hm2, hc, by omega⟩
    -- the mixed way
    have A2 : ∀ z : Int, Q (.int (z % many)) (upd H a (.lst [.int d, .bl b, .int m, .int (c + 1)])) := by
      intro z
      exact q _ _ (Int.emod_nonneg _ (by omega)) (Int.emod_lt_of_pos _ h1) Exb.upd ⟨d, m, c + 1, b, upd_same, hd, hm, hm2, by omega, by omega⟩
    have S1 : SqL K (upd H a (.lst [.int d, .bl b, .int m, .int (c + 1)])) a [.int d, .bl b, .int m, .int (c + 1)] := SqL.of upd_same
    have k1 : CMulX 15485867 (c + 1) := mulx_ok (a := 30) (b := 30) (by decide) (by show _ < 1073741824; omega) (by decide)
    have k2 : ∀ x : Int, 0 ≤ x → x < 2147483647 → CMulX x 48271 := fun x _ _ => mulx_ok (a := 32) (b := 20) (by show _ < 4294967296; omega) (by decide) (by decide)
    have k3 : CMulX 7919 (c + 1) := mulx_ok (a := 30) (b := 30) (by decide) (by show _ < 1073741824; omega) (by decide)
    have p1 : CPow (m + 15485867 * (c + 1) + 179425033) 5 := ⟨by decide, by decide, by show _ < 18446744073709551616; omega⟩
    have p2 : ∀ x : Int, 0 ≤ x → x < 2147483647 → CPow (x * 48271 + 7919 * (c + 1)) 3 := fun x _ _ => ⟨by decide, by decide, by show _ < 18446744073709551616; omega⟩
    have nz1 : (0 : Int) < 2147483647 := by decide
    have nz2 : (0 : Int) < 2147483587 := by decide
    have cd64 : (0 : Int) < 64 ∧ (64 : Int) < 1073741824 := by decide
    have hx0 : ∀ z : Int, 0 ≤ z % 2147483647 ∧ z % 2147483647 < 2147483647 := by
      intro z
      exact ⟨Int.emod_nonneg _ (by decide), Int.emod_lt_of_pos _ (by decide)⟩
    refine ⟨_, rfl, .inl ⟨a, _, 1, _, rfl, rfl, S, rfl, b, rfl, ?_⟩⟩
    by_cases hbd : b = true ∧ 0 < d
    · obtain ⟨rfl, hd0⟩ := hbd
      refine iteT ⟨_, rfl, .inl ⟨a, _, 0, _, rfl, rfl, S, rfl, _, _, rfl, rfl, _, rfl, ?_⟩⟩
      rw [decide_eq_true hd0]
      refine iteT ⟨_, rfl, .inl ⟨a, _, 0, _, rfl, rfl, S, rfl, .inl ⟨_, rfl, _, rfl, _, _, rfl, rfl, h1, ?_⟩⟩⟩
      refine ⟨_, rfl, .inl ⟨a, _, 0, _, rfl, rfl, S, rfl, _, rfl, _, _, rfl, rfl, ⟨h1, by omega⟩, _, rfl, a, _, _, _, rfl, rfl, hb, rfl, ?_⟩⟩
      exact ⟨_, rfl, A1 rfl hd0⟩
    · apply once
      · intro rest
        cases b with
        | false => exact iteF (iteF rest)
        | true =>
          refine iteT ⟨_, rfl, .inl ⟨a, _, 0, _, rfl, rfl, S, rfl, _, _, rfl, rfl, _, rfl, ?_⟩⟩
          rw [decide_eq_false (fun z => hbd ⟨rfl, z⟩)]
          exact iteF rest
      refine ⟨_, rfl, .inl ⟨a, _, 3, _, rfl, rfl, S, rfl, .inl ⟨_, _, rfl, rfl, _, rfl, a, _, _, _, rfl, rfl, hb, rfl, ?_⟩⟩⟩
      refine ⟨_, rfl, .inl ⟨a, _, 2, _, rfl, rfl, S1, rfl, ?_⟩⟩
      refine ⟨_, rfl, .inl ⟨a, _, 3, _, rfl, rfl, S1, rfl, .inl ⟨_, _, rfl, rfl, k1, .inl ⟨_, _, rfl, rfl, .inl ⟨_, _, rfl, rfl, _, _, rfl, rfl, p1, .inl ⟨_, rfl, _, _, rfl, rfl, nz1, ?_⟩⟩⟩⟩⟩⟩
      refine ⟨_, rfl, .inl ⟨_, _, rfl, rfl, k2 _ (hx0 _).1 (hx0 _).2, ?_⟩⟩
      refine ⟨_, rfl, .inl ⟨a, _, 3, _, rfl, rfl, S1, rfl, .inl ⟨_, _, rfl, rfl, k3, .inl ⟨_, _, rfl, rfl, _, _, rfl, rfl, p2 _ (hx0 _).1 (hx0 _).2, .inl ⟨_, rfl, _, _, rfl, rfl, nz2, ?_⟩⟩⟩⟩⟩
      refine ⟨_, _, rfl, rfl, cd64, _, rfl, _, _, rfl, rfl, h1, ?_⟩
      exact A2 _
/-! ### cells and boxes -/
def spBox : Sp := fun vs H Q _ => ∃ g : Int, vs = [.int g] ∧ ∀ (p : Addr) (H' : Hp), H p = none → Evl.Ex H H' → Box H' p 0 → Q (.ref p) H'
theorem ok_box (T : Txt K mg) (F : FnP K "_law_box" s__law_box f fd) : Fg P w K mg base CX0 1 f fd ["_law_great"] spBox := by
  refine fg_of F sc__law_box (fun vs H Q E h => ?_) (fun cdv A outer s H vs Q E hr h => ⟨_, (PSs.nox (pss_one (ps_ret (pe_lst (pa_cons (pe_callB call_abs (by rfl) T.f_abs (by decide +kernel) (pa_cons (pv 0) pa_nil)) (pa_cons (pe_cmpR op_ge (pe_callB call_abs (by rfl) T.f_abs (by decide +kernel) (pa_cons (pv 0) pa_nil)) (pe_op op_pow pe_int pe_int) (nomark _)) (pa_cons (pe_op u_mod (pe_callTy call_int1 (by rfl) T.f_int (by decide +kernel) (pa_cons (pe_callB call_abs (by rfl) T.f_abs (by decide +kernel) (pa_cons (pv 0) pa_nil)) pa_nil)) pe_int) (pa_cons pe_int pa_nil)))))))), ?_⟩)
  · obtain ⟨g, rfl, _⟩ := h
    rfl
  · obtain ⟨g, rfl, q⟩ := h
    have nz : (0 : Int) < 2147483629 := by decide
    have hp : CPow 10 18 := ⟨by decide, by decide, by decide⟩
    refine ⟨_, rfl, _, rfl, _, rfl, _, rfl, _, _, rfl, rfl, hp, _, _, rfl, rfl, _, rfl, _, rfl, .inl ⟨_, rfl, _, _, rfl, rfl, nz, ?_⟩⟩
    refine ⟨by show 4 ≤ sizeLine; decide, fun p hp => q p _ hp (Evl.Ex.new hp) ⟨_, _, _, _, upd_same, ?_, ?_, ?_, by omega, by omega⟩⟩
    · split <;> omega
    · exact Int.emod_nonneg _ (by decide)
    · exact Int.emod_lt_of_pos _ (by decide)
def spCell (K : PySem.W.Frag) : Sp := fun vs H Q _ => ∃ (a : Addr) (ns : List Int) (k : Int), vs = [.ref a, .int k] ∧ SqL K H a (ns.map V.int) ∧ 0 ≤ k ∧ k ≤ 100 ∧ ns.length ≤ 1000 ∧
  ∀ (g : Int) (H' : Hp), Evl.Ex H H' → Q (.int g) H'
theorem ok_cell (T : Txt K mg) (F : FnP K "_law_cell" s__law_cell f fd) : Fg P w K mg base CX0 1 f fd ["_law_script", "_law_k"] (spCell K) := by
  refine fg_of F sc__law_cell (fun vs H Q E h => ?_) (fun cdv A outer s H vs Q E hr h => ⟨_, (PSs.nox (pss_one (ps_ret (pe_ifExp (pt_cmpR op_lt (pv 1) (pe_callB (u_len (K := K)) (by rfl) T.f_len (by decide +kernel) (pa_cons (pv 0) pa_nil)) (nomark _)) (pe_ix (u_ix (K := K)) (pv 0) (pv 1) (fun _ _ => rfl)) (pe_op (u_add (K := K)) (pe_op (u_mul (K := K)) pe_int (pv 1)) (pe_op u_mod (pe_callB (u_sum (K := K) rfl) (by rfl) T.f_sum (by decide +kernel) (pa_cons (pe_slice (u_sl (K := K)) (pv 0) po_none (po_some pe_int)) pa_nil)) pe_int)))))), ?_⟩)
  · obtain ⟨a, ns, k, rfl, _⟩ := h
    rfl
  · obtain ⟨a, ns, k, rfl, S, k0, k1, hl, q⟩ := h
    have nz : (0 : Int) < 1000003 := by decide
    refine ⟨_, rfl, _, rfl, _, _, rfl, .inl ⟨_, S, rfl⟩, _, _, rfl, rfl, _, rfl, ?_⟩
    rw [List.length_map]
    refine ite2 (fun h => ?_) (fun h => ?_)
    · have h' : k < (ns.length : Int) := by simpa using h
      obtain ⟨j, rfl⟩ : ∃ j : Nat, k = j := ⟨k.toNat, by omega⟩
      have hj : j < ns.length := by omega
      refine ⟨_, rfl, _, rfl, .inl ⟨a, _, _, .int ns[j], rfl, rfl, S, ?_, q _ _ (Evl.Ex.refl _)⟩⟩
      rw [atI_nat]
      simp [hj]
    · have km : CMulX 7919 k := mulx_ok (a := 30) (b := 30) (by decide) (by show _ < 1073741824; omega) (by decide)
      have cut : ∃ ms : List Int, cutV (ns.map V.int) none (some 1) = ms.map V.int := ⟨(ns.drop _).take _, by unfold cutV; rw [← List.map_drop, ← List.map_take]⟩
      obtain ⟨ms, hms⟩ := cut
      refine ⟨_, rfl, .inl ⟨_, _, rfl, rfl, km, _, rfl, _, rfl, .inl ⟨a, _, rfl, S, fun p hp => ⟨p, ms, rfl, ?_, _, _, rfl, rfl, nz, .inl ⟨_, _, rfl, rfl, q _ _ (Evl.Ex.new hp)⟩⟩⟩⟩⟩
      rw [hms]
      exact SqL.of upd_same
end
end K2
/-! repr of an int of any size below the limit of digits, where nothing has set that limit -/
namespace VB
open PySem PySem.Spec PyProof.Rows L2
section
variable {prog : Program} {w : World} {A : Around} {E : Value → Shared → Prop} {s : Shared} {a : Int} {t : Tok}
theorem call_int_repr_big {Q : Value → Shared → Prop} (hn : s.heap.NoDigits) (ha : a.natAbs < 10 ^ 4300) (h : Q (.str (toString a) s.toks) { s with toks := s.toks + 1 }) :
    wpAny (model prog w) A (call (.builtin "int.__repr__") [.int a t]) Q E s := by
  refine wpAny_call_entry F.slot_int_repr (typeIs_int s a t) F.entry_int_repr ?_ (F.args_int_repr_1 _)
  unfold Builtin.«int.__repr__»
  show wpAny _ _ (do let r ← Builtin.overDigitLimit? a; _) _ _ s
  exact wpAny_bind (overDigitLimit_any hn (fun hlt => wpAny_bind (wpAny_mkStr (wpAny_pure ⟨_, rfl, h⟩) (int_text_fits10 hlt))) (fun hge => absurd hge (Nat.not_le.mpr ha)))
theorem repr_of_int_big {Q : Value → Shared → Prop} (hn : s.heap.NoDigits) (ha : a.natAbs < 10 ^ 4300) (h : Q (.str (toString a) s.toks) { s with toks := s.toks + 1 }) :
    wpAny (model prog w) A (call (.builtin "repr") [.int a t]) Q E s := by
  have hT := typeIs_int s a t
  have hv : [Value.int a t].any Value.onHeap = false := rfl
  refine Calls.call_function_entry F.kind_repr F.plain_repr F.entry_repr (F.args_repr1 _) ?_
  unfold Builtin.«repr»
  refine wpAny_bind (m := oneArg "repr" _) (wpAny_pure ?_)
  simp only [cRoomFor, hv, Bool.false_eq_true, if_false, pure_bind]
  refine wpAny_bind (wpAny_specialOf (name := Str.ofString "__repr__") hT F.slot_int_repr.lookup ?_)
  refine wpAny_bind (m := callSpecialIfBound? (.int a t) (Str.ofString "__repr__")) (wpAny_callSpecialIfBound?_slot (name := Str.ofString "__repr__") hT F.slot_int_repr (call_int_repr_big hn ha ?_))
  refine wpAny_bind (wpAny_isInstance (T := "str") (b := true) rfl isSubtype_str_str ?_)
  exact wpAny_pure ⟨_, rfl, h⟩
end
section
variable {X : Cx}
def rReprB : List V → Hp → VK → Prop := fun xs H Q => ∃ i, xs = [.int i] ∧ i.natAbs < 10 ^ 4300 ∧ Q (.str (toString i)) H
theorem call_repr_big (hd : X.base.NoDigits) : CallR X (.builtin "repr") rReprB := by
  intro pins s σ H xs us Q I r h
  obtain ⟨i, rfl, hz, q⟩ := h
  obtain ⟨u, rfl, t, rfl⟩ := vals1 r
  exact repr_of_int_big (hd.keeps I.bk) hz ⟨.str _, H, I.tok _, ⟨_, rfl⟩, q⟩
end
theorem first_callD {P : Program} {w : World} {K : PySem.W.Frag} {mg mb : Str → Option Value} {CX : CXT} {k : Nat}
    {fa a : Addr} {fd : FuncData} {x : Str} {sp : Sp} {s : Shared} {vs : List Value} {ns : List Int}
    (KX : K.In s.heap) (hns : s.heap.Ns mainGlobals mg) (hb : s.heap.Ns builtinsNs mb)
    (hbb : ∀ x : Str, x ≠ "__name__" → mb x = bootBuiltins x) (hlim : s.heap.NoLimit) (hdig : s.heap.NoDigits) (hg : s.gens = #[])
    (ha : s.heap.get? a = some { cls := .type "list", data := .seq vs.toArray }) (hi : IntsAre vs ns)
    (hl : ns.length ≤ sizeLine) (hr : Rm k callerA)
    (F : ∀ base : Heap, K.In base → base.Ns mainGlobals mg → base.NoDigits → Fg P w K mg base CX k fa fd [x] sp)
    (hbind : ∀ (s : Shared) (u : Value), BindsTo s fd ⟨[u], []⟩ [(x, u)])
    (hsp : ∀ H : Hp, Only H → SqL K H a (ns.map V.int) → sp [.ref a] H (fun v _ => v = .bl true) fun _ _ _ => False)
    (hCX : ∀ H e s', CX [] H s (fun _ _ _ => False) e s' → False) :
    codeAny (model P w) callerA (.call (.ref fa) ⟨[.ref a], []⟩)
      (fun r s' => r = .ok (.ret (.bool true)) ∧ OldK s.heap s'.heap ∧ s'.os = s.os ∧ AllBare s'.gens) s := by
  -- what is tracked at first: the script at most
  let o : Obj := { cls := .type "list", data := .seq vs.toArray }
  have main : ∀ H : Hp, (∀ b, H b = none ∨ (b = a ∧ H b = some (.frz o (.lst (ns.map V.int))) ∧ K.lookup a = none)) →
      SqL K H a (ns.map V.int) → HOk P w H s.heap → codeAny (model P w) callerA (.call (.ref fa) ⟨[.ref a], []⟩)
      (fun r s' => r = .ok (.ret (.bool true)) ∧ OldK s.heap s'.heap ∧ s'.os = s.os ∧ AllBare s'.gens) s := by
    intro H hH hS hok
    have dictFree : ∀ {b : Addr} {ob : Obj} {es : Array DictEntry} {ep : Nat}, s.heap.get? b = some ob →
        ob.data = .dict es ep → H b = none := by
      intro b ob es ep e d
      rcases hH b with q | ⟨rfl, q, _⟩
      · exact q
      · rw [ha] at e
        cases e
        exact nomatch d
    have nsB : ∀ {b : Addr} {m : Str → Option Value}, s.heap.Ns b m → (hidT s.heap H).Ns b m := by
      rintro b m ⟨ob, es, ep, e, d, r⟩
      exact ⟨ob, es, ep, hidT_get e (dictFree e d), d, r⟩
    have kB : K.In (hidT s.heap H) := by
      intro b ob e
      refine hidT_get (KX b ob e) ?_
      rcases hH b with q | ⟨rfl, _, q⟩
      · exact q
      · rw [e] at q
        cases q
    have lim' : (hidT s.heap H).NoLimit := by
      obtain ⟨mc, h1, h2⟩ := hlim
      exact ⟨mc, nsB h1, h2⟩
    have dig' : (hidT s.heap H).NoDigits := by
      obtain ⟨mc, h1, h2⟩ := hdig
      exact ⟨mc, nsB h1, h2⟩
    have md : Mod K mg (hidT s.heap H) := ⟨kB, nsB hns, ⟨mb, nsB hb, hbb⟩, lim'⟩
    have nob : ∀ b ∈ frs ([] : List Env), H b = none := fun b hb => by cases hb
    have e0 : Env0 P w K mg (hidT s.heap H) callerA [] s H :=
      ⟨rfl, md, fun b ob e => of_hidT e, Nat.le_of_eq (hidT_size _ _), trivial, nob, hok, .of_eq hg⟩
    have oH : Only H := by
      intro b
      rcases hH b with q | ⟨_, q, _⟩
      · exact .inl q
      · exact .inr ⟨_, _, q⟩
    have run := (F _ kB (nsB hns) dig').go callerA [] s H ⟨[.ref a], []⟩ [.ref a] [.ref a] _ _ hr e0
      (hbind s (.ref a)) (.cons rfl .nil) (hsp H oH hS)
    refine codeAny_mono run ?_
    intro r s' h
    match r, h with
    | .error e, h => exact (hCX H e s' h).elim
    | .ok .next, h => exact False.elim h
    | .ok .brk, h => exact False.elim h
    | .ok .cont, h => exact False.elim h
    | .ok (.ret u), h =>
      obtain ⟨v, H', os, bare, un, hok', rv, q⟩ := h
      have q : v = .bl true := q
      subst q
      have ru : u = Value.bool true := rv
      subst ru
      refine ⟨rfl, OldK.of_keep ?_, os, bare⟩
      intro b ob e
      rcases hH b with q | ⟨_, q, _⟩
      · exact un.keep b ob e q (fun z => by cases z) (fun z => by cases z)
      · obtain ⟨e1, _⟩ := hok b _ q
        obtain ⟨e2, _⟩ := hok' b _ (un.frzs b o _ q)
        rw [e] at e1
        cases e1
        exact e2
  have rv := vals_ints hi
  cases hk : K.lookup a with
  | some ob =>
    have e := KX a ob hk
    rw [ha] at e
    cases e
    refine main (fun _ => none) (fun b => .inl rfl) (.inr ⟨_, vs.toArray, _, hk, rfl, rfl, rfl, ?_, by simpa using rv⟩) (fun b u z => by cases z)
    rw [List.size_toArray, hi.length]
    exact hl
  | none =>
    let H1 : Hp := fun b => if b = a then some (.frz o (.lst (ns.map V.int))) else none
    have at1 : H1 a = some (.frz o (.lst (ns.map V.int))) := if_pos rfl
    refine main H1 ?_ (.inl (.inr ⟨o, at1⟩)) ?_
    · intro b
      by_cases hb : b = a
      · subst hb
        exact .inr ⟨rfl, at1, hk⟩
      · exact .inl (if_neg hb)
    · intro b u z
      by_cases hb : b = a
      · subst hb
        rw [at1] at z
        cases z
        exact ⟨ha, by rw [List.length_map]; exact hl, vs, _, rv, ha⟩
      · have z' : H1 b = none := if_neg hb
        rw [z'] at z
        cases z

/-- law_walk, the heap's digits let be -/
theorem law_walkD {l : PySem.W.OpenLaw} {n k : Nat} {q : Program} {loose : List Str} {XP : (Str → Option Value) → Heap → Prop}
    {YP : World → Heap → Prop} {d : DefRec} {CX : CXT} {x : Str}
    (hn : l.most = some n) (hn2 : n ≤ sizeLine) (hdf : d.params.defaults = []) (hr : Rm k callerA)
    (F : ∀ (w : World) (mg : Str → Option Value) (fa : Addr) (h : Heap), YP w h → h.Ns mainGlobals mg → mg d.name = some (.ref fa) → h.NoDigits →
      ∃ (K : PySem.W.Frag) (fd : FuncData) (sp : Sp), K.In h ∧ (∀ (s : Shared) (u : Value), BindsTo s fd ⟨[u], []⟩ [(x, u)]) ∧
        (∀ (H : Hp) (a : Addr) (ns : List Int), ns.length ≤ n → Only H → SqL K H a (ns.map V.int) →
          sp [.ref a] H (fun v _ => v = .bl true) fun _ _ _ => False) ∧
        ∀ base : Heap, K.In base → base.Ns mainGlobals mg → base.NoDigits → Fg l.prog w K mg base CX k fa fd [x] sp)
    (hCX : ∀ (H : Hp) (s : Shared) (e : Value) (s' : Shared), CX [] H s (fun _ _ _ => False) e s' → False) :
    PySem.W.WalkO q loose XP YP l.row.toRowW d [] (fun f vs => PySem.call f vs) := by
  refine Att.attach_call hn hdf ?_
  intro w s₀ s₁ mg mb fa o pm cd doc a vs ns G Y ho hd hcd hmg hobj hints hlen hg
  obtain ⟨K, fd, sp, KX, hb, hsp, hF⟩ := F w mg fa _ Y G.T.g hmg G.T.nodigits
  exact first_callD KX G.T.g G.T.b G.T.builtins G.T.nolimit G.T.nodigits hg hobj hints (Nat.le_trans hlen hn2) hr hF hb
    (fun H hO hS => hsp H a ns hlen hO hS) (fun H e s' => hCX H s₁ e s')
end VB
/-! repr of a list of flat values, ints of any size below the limit of digits among them -/
namespace VB
open PySem PySem.Spec PyProof.Rows L2
/-- what a flat value is shown as -/
inductive Tx : V → Str → Prop
  | non : Tx .non "None"
  | bl (b : Bool) : Tx (.bl b) (if b then "True" else "False")
  | int (i : Int) (h : i.natAbs < 10 ^ 4300) : Tx (.int i) (toString i)
  | str (x : Str) (h : (reprText x).length ≤ sizeLine) : Tx (.str x) (reprText x)
section
variable {prog : Program} {w : World} {A : Around} {E : Value → Shared → Prop} {s : Shared} {a : Int} {t : Tok}
theorem pyReprObj_big {Q : Value → Shared → Prop} (hn : s.heap.NoDigits) (ha : a.natAbs < 10 ^ 4300) (h : Q (.str (toString a) s.toks) { s with toks := s.toks + 1 }) :
    wpAny (model prog w) A (pyReprObj (.int a t)) Q E s := by
  have hT := typeIs_int s a t
  have hv : [Value.int a t].any Value.onHeap = false := rfl
  unfold pyReprObj
  simp only [cRoomFor, hv, Bool.false_eq_true, if_false, pure_bind]
  refine wpAny_bind (wpAny_specialOf (name := Str.ofString "__repr__") hT F.slot_int_repr.lookup ?_)
  refine wpAny_bind (m := callSpecialIfBound? (.int a t) (Str.ofString "__repr__")) (wpAny_callSpecialIfBound?_slot (name := Str.ofString "__repr__") hT F.slot_int_repr (call_int_repr_big hn ha ?_))
  refine wpAny_bind (wpAny_isInstance (T := "str") (b := true) rfl isSubtype_str_str ?_)
  exact wpAny_pure h
theorem reprK_tx {h₀ : Heap} {y : V} {u : Value} {x : Str} (hd : h₀.NoDigits) (r : RelV y u) (e : Tx y x) : ReprK prog w [] h₀ 0 u x := by
  cases e with
  | non => cases r; exact .of_is ReprIs.none _ _ _
  | bl b => cases r; exact .of_is (ReprIs.bool b) _ _ _
  | str z hz =>
    obtain ⟨k, rfl⟩ := r
    exact .of_is (ReprIs.str z k hz) _ _ _
  | int i hi =>
    obtain ⟨k, rfl⟩ := r
    intro base hb A g E s Q hg hcl hu hk hQ
    rw [pyReprUnder_leaf (v := .int i k) (by omega) (fun _ z => nomatch z)]
    unfold pyRepr
    exact wpAny_bind (pyReprObj_big (hd.keeps hk) hi (wpAny_pure (hQ s.heap _ fun _ _ z => z)))
end
section
variable {X : Cx} {k : Nat}
/-- repr(l), l a list of flat values, not empty -/
def rReprL (K : PySem.W.Frag) : List V → Hp → VK → Prop := fun xs H Q => ∃ (a : Addr) (ys : List V) (ts : List Str), xs = [.ref a] ∧ SqL K H a ys ∧ ys ≠ [] ∧ Paired Tx ys ts ∧ (listText ts).length ≤ sizeLine ∧ Q (.str (listText ts)) H
theorem paired_at {α β : Type} {R : α → β → Prop} : ∀ {xs : List α} {ys : List β}, Paired R xs ys → ∀ {i : Nat} {x : α}, xs[i]? = some x → ∃ y, ys[i]? = some y ∧ R x y
  | _, _, .nil, _, _, h => by cases h
  | _, _, .cons r t, 0, _, h => by cases h; exact ⟨_, rfl, r⟩
  | _, _, .cons r t, i + 1, _, h => paired_at t (i := i) h
theorem paired_len {α β : Type} {R : α → β → Prop} : ∀ {xs : List α} {ys : List β}, Paired R xs ys → xs.length = ys.length
  | _, _, .nil => rfl
  | _, _, .cons _ t => congrArg (· + 1) (paired_len t)
theorem call_reprL (hr : Rm k X.A) (hd : X.base.NoDigits) : CallR X (.builtin "repr") (rReprL X.K) := by
  intro pins s σ H xs us Q I r h
  obtain ⟨a, ys, ts, rfl, hs, ne, pt, hz, q⟩ := h
  obtain ⟨u, rfl, ru⟩ := vals1 r
  cases (show u = Value.ref a from ru)
  obtain ⟨its, rv, ⟨⟨cls, dd, data, sl⟩, n, ho, hc, hdn, hdt⟩, hlen⟩ := I.list hs
  simp only at hc hdt
  subst hc hdt
  have hu := hr.rm.un
  have hD : s.heap.NoDigits := hd.keeps I.bk
  cases its with
  | nil => cases rv; exact absurd rfl ne
  | cons x l =>
    have hl := rv.length
    have hl2 := paired_len pt
    refine call_repr_slot (T := "list") (by omega) ⟨_, ho, rfl⟩ F.slot_list_repr.toG ?_
    refine call_list_reprK (as := []) (d := 0) ho rfl rfl (fun z => nomatch z) (by simpa using (hl2.symm.trans hl)) (fun i y hy => ?_) (A := X.A.in1) (g := []) hr.gd (fun b _ => Clear.nil b) (by show X.A.units + 1 + (0 + 1) < cLine; omega) (fun _ _ z => z) (fun h' u' tk kp => ⟨_, _, rfl, ?_⟩) hz
    · have hy' : (x :: l)[i]? = some y := by simpa using hy
      have hi : i < ys.length := by
        obtain ⟨h1, _⟩ := List.getElem?_eq_some_iff.mp hy'
        rw [hl]
        exact h1
      obtain ⟨t, ht, hT⟩ := paired_at pt (List.getElem?_eq_getElem hi)
      obtain ⟨u2, hu2, ru2⟩ := rv.get (List.getElem?_eq_getElem hi)
      rw [hu2] at hy'
      cases hy'
      exact ⟨t, ht, reprK_tx hD ru2 hT⟩
    · exact ⟨.str (listText ts), H, I.un (Un.kept kp) (I.hok.kept kp), ⟨u', rfl⟩, q⟩
end
end VB
/-! repr of a dict whose keys and values are flat -/
namespace VB
open PySem PySem.Spec PyProof.Rows L2
/-- an entry's text -/
def TxE (p : Key × V) (x : Str) : Prop := ∃ a b : Str, Tx (kV p.1) a ∧ Tx p.2 b ∧ x = a ++ ": " ++ b
theorem key_rel {k : Key} {v : Value} (h : keyIs k v = true) : RelV (kV k) v := by
  rcases keyIs_shape h with ⟨i, t, rfl, rfl⟩ | ⟨x, t, rfl, rfl⟩
  · exact ⟨t, rfl⟩
  · exact ⟨t, rfl⟩
theorem entriesK {prog : Program} {w : World} {h₀ : Heap} (hd : h₀.NoDigits) : ∀ {kvs : List (Key × V)} {vs : List (Key × Value)} {es : List DictEntry} {ps : List Str},
    L2.KV kvs vs → Pairs (mixKind prog w) es vs → Paired TxE kvs ps → ReprEntriesK prog w [] h₀ 0 es ps
  | _, _, _, _, .nil, .nil, .nil => .nil
  | _, _, _, _, .cons r rs, .cons hk hv ts, .cons te tt => by
    obtain ⟨a, b, ta, tb, rfl⟩ := te
    obtain ⟨e1, rv⟩ := r
    refine .cons (reprK_tx hd (key_rel ?_) ta) (reprK_tx hd (hv ▸ rv) tb) (entriesK hd rs ts tt)
    rw [e1]
    exact hk
section
variable {X : Cx} {k : Nat}
def rReprD : List V → Hp → VK → Prop := fun xs H Q => ∃ (a : Addr) (kvs : List (Key × V)) (ps : List Str), xs = [.ref a] ∧ H a = some (.dK kvs) ∧ Paired TxE kvs ps ∧ (dictText ps).length ≤ sizeLine ∧ Q (.str (dictText ps)) H
theorem call_reprD (hr : Rm k X.A) (hd : X.base.NoDigits) : CallR X (.builtin "repr") rReprD := by
  intro pins s σ H xs us Q I r h
  obtain ⟨a, kvs, ps, rfl, ha, pt, hz, q⟩ := h
  obtain ⟨u, rfl, ru⟩ := vals1 r
  cases (show u = Value.ref a from ru)
  have hx : ObjOk X.prog X.w H s.heap a (.dK kvs) := I.hok a _ ha
  obtain ⟨_, hsys, vs, hkv, o, es, ep, ho, hex, hda, _, hp, _⟩ := hx
  have hu := hr.rm.un
  have hD : s.heap.NoDigits := hd.keeps I.bk
  have hc : o.cls = .type "dict" := hex.1
  refine call_repr_slot (T := "dict") (by omega) ⟨o, ho, hc⟩ F.slot_dict_repr ?_
  refine call_dict_reprK (as := []) (d := 0) ho hc hda hsys (fun z => nomatch z) (entriesK hD hkv hp pt) (A := X.A.in1) (g := []) hr.gd (fun b _ => Clear.nil b) (by show X.A.units + 1 + (0 + 1) < cLine; omega) (fun _ _ z => z) (fun h' u' tk kp => ⟨_, _, rfl, ?_⟩) hz
  exact ⟨.str (dictText ps), H, I.un (Un.kept kp) (I.hok.kept kp), ⟨u', rfl⟩, q⟩
end
end VB
/-! repr of lists, tuples and dicts in one another, ints of any size below the limit of digits -/
namespace VB
open PySem PySem.Spec PyProof.Rows L2
mutual
/-- y is shown as t; bs: the lists, tuples and dicts that are opened for it; d: how deep -/
inductive Shw (H : Hp) : V → Str → List Addr → Nat → Prop
  | flat {y : V} {t : Str} : Tx y t → Shw H y t [] 0
  | dct {a : Addr} {kvs : List (Key × V)} {ps : List Str} : H a = some (.dK kvs) → Paired TxE kvs ps → Shw H (.ref a) (dictText ps) [a] 1
  | lst0 {a : Addr} : H a = some (.lst []) → Shw H (.ref a) "[]" [] 0
  | lst {a : Addr} {ys : List V} {ts : List Str} {bs : List Addr} {d : Nat} : H a = some (.lst ys) → ys ≠ [] → ShwAll H ys ts bs d → a ∉ bs → Shw H (.ref a) (listText ts) (a :: bs) (d + 1)
  | tup {a : Addr} {ys : List V} {ts : List Str} {bs : List Addr} {d : Nat} : H a = some (.tup ys) → ShwAll H ys ts bs d → a ∉ bs → Shw H (.ref a) (tupleText ts) (a :: bs) (d + 1)
inductive ShwAll (H : Hp) : List V → List Str → List Addr → Nat → Prop
  | nil {bs : List Addr} {d : Nat} : ShwAll H [] [] bs d
  | cons {y : V} {t : Str} {cs bs : List Addr} {e d : Nat} {ys : List V} {ts : List Str} : Shw H y t cs e → (∀ b ∈ cs, b ∈ bs) → e ≤ d → ShwAll H ys ts bs d → ShwAll H (y :: ys) (t :: ts) bs d
end
section
variable {P : Program} {w : World} {H : Hp} {h₀ : Heap}
theorem all_at {as : List Addr} {d : Nat} : ∀ {us : List Value} {ts : List Str}, ReprAllK P w as h₀ d us ts → ∀ {i : Nat} {u : Value}, us[i]? = some u → ∃ t, ts[i]? = some t ∧ ReprK P w as h₀ d u t
  | _, _, .nil, _, _, h => by cases h
  | _, _, .cons r t, 0, _, h => by cases h; exact ⟨_, rfl, r⟩
  | _, _, .cons r t, i + 1, _, h => all_at t (i := i) h
mutual
theorem shw_K (hok : HOk P w H h₀) (hd : h₀.NoDigits) : ∀ {y : V} {t : Str} {bs : List Addr} {d : Nat} {u : Value}, Shw H y t bs d → RelV y u → ReprK P w bs h₀ d u t
  | _, _, _, _, _, .flat tx, r => reprK_tx hd r tx
  | _, _, _, _, u, .dct (a := a) ha pt, r => by
    cases (show u = Value.ref a from r)
    have hx : ObjOk P w H h₀ a (.dK _) := hok a _ ha
    obtain ⟨_, hsys, vs, hkv, o, es, ep, ho, hex, hda, _, hp, _⟩ := hx
    exact ReprK.dict ho hex.1 hda hsys (fun z => nomatch z) (entriesK hd hkv hp pt)
  | _, _, _, _, u, .lst0 (a := a) ha, r => by
    cases (show u = Value.ref a from r)
    have hx : ObjOk P w H h₀ a (.lst _) := hok a _ ha
    obtain ⟨_, its, n, rv, ho⟩ := hx
    cases rv
    exact ReprK.listEmpty ho rfl rfl
  | _, _, _, _, u, .lst (a := a) ha ne hs na, r => by
    cases (show u = Value.ref a from r)
    have hx : ObjOk P w H h₀ a (.lst _) := hok a _ ha
    obtain ⟨_, its, n, rv, ho⟩ := hx
    have k := shw_all hok hd hs rv
    cases its with
    | nil => cases rv; exact absurd rfl ne
    | cons x l => exact ReprK.list ho rfl rfl na (by simpa using k.length_eq) (fun i y hy => all_at k (by simpa using hy))
  | _, _, _, _, u, .tup (a := a) ha hs na, r => by
    cases (show u = Value.ref a from r)
    have hx : ObjOk P w H h₀ a (.tup _) := hok a _ ha
    obtain ⟨_, its, rv, ho⟩ := hx
    have k := shw_all hok hd hs rv
    obtain ⟨o, e2, hc, n2, hdt⟩ := ho
    exact ReprK.tuple e2 hc hdt na (by simpa using k)
theorem shw_all (hok : HOk P w H h₀) (hd : h₀.NoDigits) : ∀ {ys : List V} {ts : List Str} {bs : List Addr} {d : Nat} {us : List Value}, ShwAll H ys ts bs d → Vals ys us → ReprAllK P w bs h₀ d us ts
  | _, _, _, _, _, .nil, .nil => .nil
  | _, _, _, _, _, .cons s hb he t, .cons r rs => .cons (((shw_K hok hd s r).more hb).level_le he) (shw_all hok hd t rs)
end
end
section
variable {X : Cx} {k : Nat}
/-- repr(y) -/
def rReprS : List V → Hp → VK → Prop := fun xs H Q => ∃ (y : V) (t : Str) (bs : List Addr) (d : Nat), xs = [y] ∧ Shw H y t bs d ∧ d ≤ 60 ∧ t.length ≤ sizeLine ∧ Q (.str t) H
theorem call_reprS (hr : Rm k X.A) (hd : X.base.NoDigits) : CallR X (.builtin "repr") rReprS := by
  intro pins s σ H xs us Q I r h
  obtain ⟨y, t, bs, d, rfl, hs, h60, hz, q⟩ := h
  have hu := hr.rm.un
  have hD : s.heap.NoDigits := hd.keeps I.bk
  have fin : ∀ (h' : Heap) (u' tk : Tok), (∀ b o, s.heap.get? b = some o → h'.get? b = some o) → EP X pins σ Q (.str t u') { s with heap := h', toks := tk } := fun h' u' tk kp => ⟨.str t, H, I.un (Un.kept kp) (I.hok.kept kp), ⟨u', rfl⟩, q⟩
  cases hs with
  | flat tx =>
    cases tx with
    | non => exact call_repr_non pins s σ H _ us Q I r ⟨rfl, q⟩
    | bl b => exact call_repr_bl pins s σ H _ us Q I r ⟨b, rfl, q⟩
    | int i hi => exact call_repr_big hd pins s σ H _ us Q I r ⟨i, rfl, hi, q⟩
    | str x hx => exact call_repr_str pins s σ H _ us Q I r ⟨x, rfl, hx, q⟩
  | dct ha pt => exact call_reprD hr hd pins s σ H _ us Q I r ⟨_, _, _, rfl, ha, pt, hz, q⟩
  | @lst0 a ha =>
    obtain ⟨u, rfl, ru⟩ := vals1 r
    cases (show u = Value.ref a from ru)
    have hx : ObjOk X.prog X.w H s.heap a (.lst _) := I.hok a _ ha
    obtain ⟨_, its, n, rv, ho⟩ := hx
    cases rv
    exact call_repr_slot (T := "list") (by omega) ⟨_, ho, rfl⟩ F.slot_list_repr.toG (call_list_repr_empty ⟨_, ho, rfl⟩ ho rfl ⟨_, _, rfl, fin s.heap _ _ fun _ _ z => z⟩)
  | @lst a ys ts bs d ha ne hs na =>
    obtain ⟨u, rfl, ru⟩ := vals1 r
    cases (show u = Value.ref a from ru)
    have hx : ObjOk X.prog X.w H s.heap a (.lst _) := I.hok a _ ha
    obtain ⟨_, its, n, rv, ho⟩ := hx
    have kk := shw_all (P := X.prog) (w := X.w) I.hok hD hs rv
    cases its with
    | nil => cases rv; exact absurd rfl ne
    | cons x l =>
      refine call_repr_slot (T := "list") (by omega) ⟨_, ho, rfl⟩ F.slot_list_repr.toG ?_
      exact call_list_reprK ho rfl rfl na (by simpa using kk.length_eq) (fun i y hy => all_at kk (by simpa using hy)) (A := X.A.in1) (g := []) hr.gd (fun b _ => Clear.nil b) (by show X.A.units + 1 + (d + 1) < cLine; omega) (fun _ _ z => z) (fun h' u' tk kp => ⟨_, _, rfl, fin h' u' tk kp⟩) hz
  | @tup a ys ts bs d ha hs na =>
    obtain ⟨u, rfl, ru⟩ := vals1 r
    cases (show u = Value.ref a from ru)
    have hx : ObjOk X.prog X.w H s.heap a (.tup _) := I.hok a _ ha
    obtain ⟨_, its, rv, o, e2, hc, n2, hdt⟩ := hx
    have kk := shw_all (P := X.prog) (w := X.w) I.hok hD hs rv
    refine call_repr_slot (T := "tuple") (by omega) ⟨o, e2, hc⟩ F.slot_tuple_repr ?_
    exact call_tuple_reprK e2 hc hdt na (by simpa using kk) (A := X.A.in1) (g := []) hr.gd (fun b _ => Clear.nil b) (by show X.A.units + 1 + (d + 1) < cLine; omega) (fun _ _ z => z) (fun h' u' tk kp => ⟨_, _, rfl, fin h' u' tk kp⟩) hz
end
end VB
namespace K2
open PySem PySem.Spec PyProof.Rows L2 VB BM
/-- a value without parts -/
inductive Fl : V → Prop
  | non : Fl .non
  | bl (b : Bool) : Fl (.bl b)
  | int (i : Int) (h : i.natAbs < 10 ^ 1300) : Fl (.int i)
  | str (x : Str) (h : (PyData.str x).canLay0 = true ∧ (reprText x).length ≤ 60) : Fl (.str x)
/-- any value that the law hands: without parts, a list or a tuple of values, a dict -/
inductive Val (K : PySem.W.Frag) (H : Hp) : V → Prop
  | flat {v : V} : Fl v → Val K H v
  | seq {t : Bool} {a : Addr} {xs : List V} : Sv t K H a xs → Val K H (.ref a)
  | dct {a : Addr} {kvs : List (Key × V)} : H a = some (.dK kvs) → Val K H (.ref a)
theorem Val.ex {K : PySem.W.Frag} {H H' : Hp} {v : V} (h : Val K H v) (e : Evl.Ex H H') : Val K H' v := by
  cases h with
  | flat f => exact .flat f
  | seq S => exact .seq (S.ex e)
  | dct h => exact .dct (e _ _ h)
/-- an integer from lo to hi -/
def isIx : V → Int → Int → Bool
  | .int i, lo, hi => decide (lo ≤ i) && decide (i ≤ hi)
  | _, _, _ => false
theorem isIx_int {i lo hi : Int} (h1 : lo ≤ i) (h2 : i ≤ hi) : isIx (.int i) lo hi = true := by
  show (decide (lo ≤ i) && decide (i ≤ hi)) = true
  rw [decide_eq_true h1, decide_eq_true h2]
  rfl
theorem isIx_of {v : V} {lo hi : Int} (h : isIx v lo hi = true) : ∃ i, v = .int i ∧ lo ≤ i ∧ i ≤ hi := by
  cases v with
  | int i =>
    unfold isIx at h
    rw [Bool.and_eq_true, decide_eq_true_eq, decide_eq_true_eq] at h
    exact ⟨i, rfl, h.1, h.2⟩
  | _ => cases h
section
variable {P : Program} {w : World} {K : PySem.W.Frag} {mg : Str → Option Value} {base : Heap} {f : Addr} {fd : FuncData}
/-- isinstance(v, int) and not isinstance(v, bool) and lo <= v .. hi, as a value -/
theorem ix_te {σ : L2.St} {H : Hp} {Q : VK} {i : Nat} {v : V} {lo hi hx : Int} {g : Int → Int → V} {tl th : TE} (hσ : σ[i]? = some (some v)) (kv : Val K H v) (hl : ∀ Q' : VK, Q' (.int lo) H → tl σ H Q') (hh : ∀ Q' : VK, Q' (.int hx) H → th σ H Q') (hg : ∀ j : Int, g j hx = .bl (decide (j ≤ hi))) (q : Q (.bl (isIx v lo hi)) H) :
    tAndV (tCB (rIsi K) (tCons (tVar i) (tCons (tC (V.ty "int")) tNil))) (tAndV (tNotV (tCB (rIsi K) (tCons (tVar i) (tCons (tC (V.ty "bool")) tNil)))) (tChain (rI0 fun i j => V.bl (decide (i ≤ j))) (rI0 g) tl (tVar i) th)) σ H Q := by
  cases kv with
  | flat fv =>
    cases fv with
    | non => exact ⟨_, hσ, _, _, _, _, false, rfl, .ty _, .base .non, kit_ty (by decide +kernel), false, rfl, iteF q⟩
    | str x _ => exact ⟨_, hσ, _, _, _, _, false, rfl, .ty _, .base (.str x), kit_ty (by decide +kernel), false, rfl, iteF q⟩
    | bl b => exact ⟨_, hσ, _, _, _, _, true, rfl, .ty _, .base (.bl b), kit_ty (by decide +kernel), true, rfl, iteT ⟨_, hσ, _, _, _, _, true, rfl, .ty _, .base (.bl b), kit_ty (by decide +kernel), true, rfl, false, rfl, iteF q⟩⟩
    | int j _ =>
      refine ⟨_, hσ, _, _, _, _, true, rfl, .ty _, ty_int K H j, kit_ty (by decide +kernel), true, rfl, iteT ?_⟩
      refine ⟨_, hσ, _, _, _, _, false, rfl, .ty _, ty_int K H j, kit_ty (by decide +kernel), false, rfl, true, rfl, iteT ?_⟩
      refine hl _ ⟨_, hσ, _, _, rfl, rfl, _, rfl, ?_⟩
      have q' : Q (.bl (decide (lo ≤ j) && decide (j ≤ hi))) H := q
      by_cases c : lo ≤ j
      · rw [decide_eq_true c] at q' ⊢
        refine iteT (hh _ ⟨_, _, rfl, rfl, ?_⟩)
        rw [hg]
        exact q'
      · rw [decide_eq_false c] at q' ⊢
        exact iteF q'
  | @seq t a xs S =>
    cases t with
    | false => exact ⟨_, hσ, _, _, _, _, false, rfl, .ty _, S.ty, kit_ty (by decide +kernel), false, rfl, iteF q⟩
    | true => exact ⟨_, hσ, _, _, _, _, false, rfl, .ty _, S.ty, kit_ty (by decide +kernel), false, rfl, iteF q⟩
  | @dct a kvs h => exact ⟨_, hσ, _, _, _, _, false, rfl, .ty _, .base (.dK h), kit_ty (by decide +kernel), false, rfl, iteF q⟩
def spIntFrom (K : PySem.W.Frag) : Sp := fun vs H Q _ => ∃ (v : V) (l g : Int), vs = [v, .int l, .int g] ∧ Val K H v ∧ Q (.bl (isIx v l g)) H
theorem ok_int_from (T : Txt K mg) (F : FnP K "is_int_from" s_is_int_from f fd) : Fg P w K mg base CX0 2 f fd ["value", "least", "greatest"] (spIntFrom K) := by
  refine fg_of F sc_is_int_from (fun vs H Q E h => ?_) (fun cdv A outer s H vs Q E hr h => ⟨_, (PSs.nox (pss_one (ps_ret (pe_and (pe_callB (u_isi (K := K)) (by rfl) T.f_isinstance (by decide +kernel) (pa_cons (pv 0) (pa_cons (pe_bltn (v := .ty "int") rfl T.f_int (by decide +kernel) rfl) pa_nil))) (pe_and (pe_not (pe_callB (u_isi (K := K)) (by rfl) T.f_isinstance (by decide +kernel) (pa_cons (pv 0) (pa_cons (pe_bltn (v := .ty "bool") rfl T.f_bool (by decide +kernel) rfl) pa_nil)))) (pe_one (pe_chain op_le op_le (pv 1) (pv 0) (pv 2)))))))), ?_⟩)
  · obtain ⟨v, l, g, rfl, _⟩ := h
    rfl
  · obtain ⟨v, l, g, rfl, kv, q⟩ := h
    exact ix_te (i := 0) rfl kv (fun Q' h => ⟨_, rfl, h⟩) (fun Q' h => ⟨_, rfl, h⟩) (fun j => rfl) q
/-- isinstance(v, int) and not isinstance(v, bool) -/
def isI : V → Bool
  | .int _ => true
  | _ => false
def spIsInt (K : PySem.W.Frag) : Sp := fun vs H Q _ => ∃ v : V, vs = [v] ∧ Val K H v ∧ Q (.bl (isI v)) H
theorem ok_is_int (T : Txt K mg) (F : FnP K "is_int" s_is_int f fd) : Fg P w K mg base CX0 1 f fd ["value"] (spIsInt K) := by
  refine fg_of F sc_is_int (fun vs H Q E h => ?_) (fun cdv A outer s H vs Q E hr h => ⟨_, (PSs.nox (pss_one (ps_ret (pe_and (pe_callB (u_isi (K := K)) (by rfl) T.f_isinstance (by decide +kernel) (pa_cons (pv 0) (pa_cons (pe_bltn (v := .ty "int") rfl T.f_int (by decide +kernel) rfl) pa_nil))) (pe_one (pe_not (pe_callB (u_isi (K := K)) (by rfl) T.f_isinstance (by decide +kernel) (pa_cons (pv 0) (pa_cons (pe_bltn (v := .ty "bool") rfl T.f_bool (by decide +kernel) rfl) pa_nil))))))))), ?_⟩)
  · obtain ⟨v, rfl, _⟩ := h
    rfl
  · obtain ⟨v, rfl, kv, q⟩ := h
    cases kv with
    | flat fv =>
      cases fv with
      | non => exact ⟨_, rfl, _, _, _, _, false, rfl, .ty _, .base .non, kit_ty (by decide +kernel), false, rfl, iteF q⟩
      | str x _ => exact ⟨_, rfl, _, _, _, _, false, rfl, .ty _, .base (.str x), kit_ty (by decide +kernel), false, rfl, iteF q⟩
      | bl b => exact ⟨_, rfl, _, _, _, _, true, rfl, .ty _, .base (.bl b), kit_ty (by decide +kernel), true, rfl, iteT ⟨_, rfl, _, _, _, _, true, rfl, .ty _, .base (.bl b), kit_ty (by decide +kernel), true, rfl, q⟩⟩
      | int j _ => exact ⟨_, rfl, _, _, _, _, true, rfl, .ty _, ty_int K H j, kit_ty (by decide +kernel), true, rfl, iteT ⟨_, rfl, _, _, _, _, false, rfl, .ty _, ty_int K H j, kit_ty (by decide +kernel), false, rfl, q⟩⟩
    | @seq t a xs S =>
      cases t with
      | false => exact ⟨_, rfl, _, _, _, _, false, rfl, .ty _, S.ty, kit_ty (by decide +kernel), false, rfl, iteF q⟩
      | true => exact ⟨_, rfl, _, _, _, _, false, rfl, .ty _, S.ty, kit_ty (by decide +kernel), false, rfl, iteF q⟩
    | dct h => exact ⟨_, rfl, _, _, _, _, false, rfl, .ty _, .base (.dK h), kit_ty (by decide +kernel), false, rfl, iteF q⟩
/-- what a value is, for the lists and tuples: its items -/
inductive Dn
  | other
  | sq (t : Bool) (xs : List V)
def Dn.isSq : Dn → Bool
  | .other => false
  | .sq _ _ => true
def Dn.octs : Dn → Bool
  | .other => false
  | .sq _ xs => xs.all fun x => isIx x 0 255
inductive Nq (K : PySem.W.Frag) (H : Hp) : V → Prop
  | flat {v : V} : Fl v → Nq K H v
  | dct {a : Addr} {kvs : List (Key × V)} : H a = some (.dK kvs) → Nq K H (.ref a)
def At (K : PySem.W.Frag) (H : Hp) (v : V) : Dn → Prop
  | .other => Nq K H v
  | .sq t xs => ∃ a, v = .ref a ∧ Sv t K H a xs ∧ (∀ x ∈ xs, Val K H x) ∧ xs.length ≤ 2000
theorem At.val {H : Hp} {v : V} {d : Dn} (h : At K H v d) : Val K H v := by
  cases d with
  | other =>
    have h : Nq K H v := h
    cases h with
    | flat f => exact .flat f
    | dct e => exact .dct e
  | sq t xs =>
    obtain ⟨a, rfl, S, _⟩ := h
    exact .seq S
theorem At.ex {H H' : Hp} {v : V} {d : Dn} (h : At K H v d) (e : Evl.Ex H H') : At K H' v d := by
  cases d with
  | other =>
    have h : Nq K H v := h
    show Nq K H' v
    cases h with
    | flat f => exact .flat f
    | dct z => exact .dct (e _ _ z)
  | sq t xs =>
    obtain ⟨a, rfl, S, g, l⟩ := h
    exact ⟨a, rfl, S.ex e, fun x hx => (g x hx).ex e, l⟩
theorem kit_no {ty : String} (h1 : PySem.W.kitOne K (.type ty) (.type "list") = some false) (h2 : PySem.W.kitOne K (.type ty) (.type "tuple") = some false) : PySem.W.kitAny K (.type ty) [.type "list", .type "tuple"] = some false :=
  kitAny_cons (b := false) h1 (fun _ => kitAny_cons (b := false) h2 (fun _ => rfl) (fun z => nomatch z)) (fun z => nomatch z)
theorem sq_te {σ : L2.St} {H : Hp} {Q : VK} {i : Nat} {v : V} {d : Dn} (hσ : σ[i]? = some (some v)) (h : At K H v d) (q : RV (.bl d.isSq) H Q) :
    tCB (rIsiT K) (tCons (tVar i) (tCons (tTup (tCons (tC (V.ty "list")) (tCons (tC (V.ty "tuple")) tNil))) tNil)) σ H Q := by
  refine ⟨_, hσ, by show 2 ≤ sizeLine; decide, fun tp ht => ?_⟩
  have e0 := Evl.Ex.new (o := .tup [.ty "list", .ty "tuple"]) ht
  cases d with
  | other =>
    have h : Nq K H v := h
    have go : ∀ {ty : String}, TyX K (upd H tp (.tup [.ty "list", .ty "tuple"])) v (.type ty) → PySem.W.kitOne K (.type ty) (.type "list") = some false → PySem.W.kitOne K (.type ty) (.type "tuple") = some false →
        rIsiT K [v, .ref tp] (upd H tp (.tup [.ty "list", .ty "tuple"])) Q := fun tx h1 h2 => ⟨_, tp, _, _, [.type "list", .type "tuple"], false, rfl, upd_same, .cons (.ty _) (.cons (.ty _) .nil), tx, kit_no h1 h2, q _ e0⟩
    cases h with
    | dct e => exact go (.base (.dK (e0 _ _ e))) (kit_ty (by decide +kernel)) (kit_ty (by decide +kernel))
    | flat g =>
      cases g with
      | non => exact go (.base .non) (kit_ty (by decide +kernel)) (kit_ty (by decide +kernel))
      | bl b => exact go (.base (.bl b)) (kit_ty (by decide +kernel)) (kit_ty (by decide +kernel))
      | int j _ => exact go (.base (.int j)) (kit_ty (by decide +kernel)) (kit_ty (by decide +kernel))
      | str x _ => exact go (.base (.str x)) (kit_ty (by decide +kernel)) (kit_ty (by decide +kernel))
  | sq t xs =>
    obtain ⟨a, rfl, S, _⟩ := h
    exact ⟨_, tp, _, _, [.type "list", .type "tuple"], true, rfl, upd_same, .cons (.ty _) (.cons (.ty _) .nil), (S.ex e0).ty, kit_seq K t, q _ e0⟩
def spIsList (K : PySem.W.Frag) : Sp := fun vs H Q _ => ∃ (v : V) (d : Dn), vs = [v] ∧ At K H v d ∧ RV (.bl d.isSq) H Q
theorem ok_is_list (T : Txt K mg) (F : FnP K "is_list" s_is_list f fd) : Fg P w K mg base CX0 1 f fd ["value"] (spIsList K) := by
  refine fg_of F sc_is_list (fun vs H Q E h => ?_) (fun cdv A outer s H vs Q E hr h => ⟨_, (PSs.nox (pss_one (ps_ret (pe_callB (u_isiT (K := K)) (by rfl) T.f_isinstance (by decide +kernel) (pa_cons (pv 0) (pa_cons (pe_tup (pa_cons (pe_bltn (v := .ty "list") rfl T.f_list (by decide +kernel) rfl) (pa_cons (pe_bltn (v := .ty "tuple") rfl T.f_tuple (by decide +kernel) rfl) pa_nil))) pa_nil)))))), ?_⟩)
  · obtain ⟨v, d, rfl, _⟩ := h
    rfl
  · obtain ⟨v, d, rfl, h, q⟩ := h
    exact sq_te (i := 0) rfl h q
def spIsOct (K : PySem.W.Frag) : Sp := fun vs H Q _ => ∃ (v : V) (d : Dn), vs = [v] ∧ At K H v d ∧ RV (.bl d.octs) H Q
theorem ok_is_octets (T : Txt K mg) (F : FnP K "is_octets" s_is_octets f fd) (C_is_list : Cal P w K mg base CX0 1 "is_list" ["value"] (spIsList K)) : Fg P w K mg base CX0 2 f fd ["value"] (spIsOct K) := by
  refine fg_of F sc_is_octets (fun vs H Q E h => ?_) (fun cdv A outer s H vs Q E hr h => ⟨_, (PSs.nox (pss_one (ps_ret (pe_and (pe_cal C_is_list hr.le pass0 (pa_cons (pv 0) pa_nil)) (pe_one (pe_callB (u_all (K := K) rfl) (by rfl) T.f_all (by decide +kernel) (pa_cons (pe_lc (own := [("octet", 1)]) rfl sc_is_octets.nd (pi_seq (K := K) (pv 0)) (blkOk_by (own := [("octet", 1)]) (N := ["value", "octet"]) (sc := defScope s_is_octets) (by decide +kernel)) (fun _ _ _ _ _ => (pg_name (i := 1) sc_is_octets.nd rfl (by first | exact Or.inl rfl | exact Or.inr rfl))) (fun _ _ _ _ _ => pts_nil) (fun _ _ _ _ _ => (pe_and (pe_callB (u_isi (K := K)) (by rfl) T.f_isinstance (by decide +kernel) (pa_cons (pv 1) (pa_cons (pe_bltn (v := .ty "int") rfl T.f_int (by decide +kernel) rfl) pa_nil))) (pe_and (pe_not (pe_callB (u_isi (K := K)) (by rfl) T.f_isinstance (by decide +kernel) (pa_cons (pv 1) (pa_cons (pe_bltn (v := .ty "bool") rfl T.f_bool (by decide +kernel) rfl) pa_nil)))) (pe_one (pe_chain op_le op_le pe_int (pv 1) pe_int)))))) pa_nil))))))), ?_⟩)
  · obtain ⟨v, d, rfl, _⟩ := h
    rfl
  · obtain ⟨v, d, rfl, h, q⟩ := h
    refine ⟨_, rfl, v, d, rfl, h, fun H0 e0 => ⟨_, rfl, ?_⟩⟩
    cases d with
    | other => exact iteF (q _ e0)
    | sq t xs =>
      obtain ⟨a, rfl, S, g, l⟩ := h
      refine iteT ?_
      refine seq_var (t := t) rfl (S.ex e0) fun J wk D hD => ?_
      refine lc_pureVS (us := xs.map fun x => V.bl (isIx x 0 255)) wk (fun H' ex => (S.ex e0).ex ex) (by simp) (by omega) hD (fun _ => rfl) ?_ ?_
      · intro i x u H' Q' hx hu ex k
        rw [List.getElem?_map, hx] at hu
        cases hu
        exact ix_te (i := 1) rfl ((g x (List.mem_of_getElem? hx)).ex (e0.trans ex)) (fun Q' h => h) (fun Q' h => h) (fun j => rfl) (k H' (Evl.Ex.refl _))
      · intro H' ex h3
        refine ⟨D, xs.map fun x => isIx x 0 255, rfl, SqL.of (by rw [h3, List.map_map]; rfl), ?_⟩
        have e : (xs.map fun x => isIx x 0 255).all id = xs.all fun x => isIx x 0 255 := by
          rw [List.all_map]
          rfl
        rw [e]
        exact q _ (e0.trans ex)
end
end K2
namespace K2
open PySem PySem.Spec PyProof.Rows L2 VB BM
abbrev Er (K : PySem.W.Frag) (x : Str) : Addr := He.ga K x
/-- an error of the class x with a value is what comes -/
def Rz (K : PySem.W.Frag) (x : Str) (v : V) (H : Hp) (E : XK) : Prop := ∀ (d : Addr) (H' : Hp), Evl.Ex H H' → H' d = none → E (.ref (Er K x)) (some d) (upd H' d (.xd [("given", v)]))
theorem Rz.ex {K : PySem.W.Frag} {x : Str} {v : V} {H H' : Hp} {E : XK} (h : Rz K x v H E) (e : Evl.Ex H H') : Rz K x v H' E := fun d H2 e2 nd => h d H2 (e.trans e2) nd
section
variable {P : Program} {w : World} {K : PySem.W.Frag} {mg : Str → Option Value} {base : Heap} {f : Addr} {fd : FuncData}
def spChk (K : PySem.W.Frag) : Sp := fun vs H Q E => ∃ (v : V) (d : Dn), vs = [v] ∧ At K H v d ∧ (d.octs = true → RV .non H Q) ∧ (d.octs = false → Rz K "InvalidOctets" v H E)
theorem ok_chk {fO : Addr} (T : Txt K mg) (F : FnP K "_check_octets" s__check_octets f fd) (E_InvalidOctets : MkE P w K mg base "InvalidOctets" "given" (Er K "InvalidOctets") fO) (C_is_octets : Cal P w K mg base CX0 2 "is_octets" ["value"] (spIsOct K)) : Fg P w K mg base (CX P w) 4 f fd ["octets"] (spChk K) := by
  refine fg_of F sc__check_octets (fun vs H Q E h => ?_) (fun cdv A outer s H vs Q E hr h => ⟨_, ((pss_one (ps_if (pt_not (pt_tru (K := K) (pe_cal C_is_octets hr.le pass0 (pa_cons (pv 0) pa_nil)) (by intro _; rfl)))
  (pss_one (ps_raiseE E_InvalidOctets hr (takes_of rfl rfl rfl rfl) rfl (pa_cons (pv 0) pa_nil))) pss_nil))), ?_⟩)
  · obtain ⟨v, d, rfl, _⟩ := h
    rfl
  · obtain ⟨v, d, rfl, h, q, qE⟩ := h
    refine ⟨_, rfl, v, d, rfl, h, fun H1 e1 => ⟨_, rfl, ?_⟩⟩
    cases ho : d.octs with
    | true => exact iteF (q ho _ e1)
    | false => exact iteT ⟨_, rfl, made E_InvalidOctets.err.oex E_InvalidOctets.err.noG fun x nd => qE ho x _ e1 nd⟩
def Dn.len : Dn → Nat
  | .other => 0
  | .sq _ xs => xs.length
def spPair (K : PySem.W.Frag) : Sp := fun vs H Q E => ∃ (v u : V) (d e : Dn), vs = [v, u] ∧ At K H v d ∧ At K H u e ∧ (d.octs = false → Rz K "InvalidOctets" v H E) ∧ (d.octs = true → e.octs = false → Rz K "InvalidOctets" u H E) ∧
  (d.octs = true → e.octs = true → d.len ≠ e.len → Rz K "InvalidOctets" u H E) ∧ (d.octs = true → e.octs = true → d.len = e.len → RV .non H Q)
theorem octs_sq {H : Hp} {v : V} {d : Dn} (h : At K H v d) (o : d.octs = true) : ∃ t a xs, d = .sq t xs ∧ v = .ref a ∧ Sv t K H a xs := by
  cases d with
  | other => cases o
  | sq t xs =>
    obtain ⟨a, rfl, S, _⟩ := h
    exact ⟨t, a, xs, rfl, rfl, S⟩
theorem ok_pair {fO : Addr} (T : Txt K mg) (F : FnP K "_check_pair" s__check_pair f fd) (E_InvalidOctets : MkE P w K mg base "InvalidOctets" "given" (Er K "InvalidOctets") fO) (C__check_octets : Cal P w K mg base (CX P w) 4 "_check_octets" ["octets"] (spChk K)) : Fg P w K mg base (CX P w) 5 f fd ["old", "new"] (spPair K) := by
  refine fg_of F sc__check_pair (fun vs H Q E h => ?_) (fun cdv A outer s H vs Q E hr h => ⟨_, ((pss_cons (ps_expr (pe_cal C__check_octets hr.le (passes_call (takes_of rfl rfl rfl rfl) (fun _ _ _ _ h => h)) (pa_cons (pv 0) pa_nil)))
  (pss_cons (ps_expr (pe_cal C__check_octets hr.le (passes_call (takes_of rfl rfl rfl rfl) (fun _ _ _ _ h => h)) (pa_cons (pv 1) pa_nil)))
  (pss_one (ps_if (pt_cmpR (u_ne (K := K) hr) (pe_callB (u_len (K := K)) (by rfl) T.f_len (by decide +kernel) (pa_cons (pv 0) pa_nil)) (pe_callB (u_len (K := K)) (by rfl) T.f_len (by decide +kernel) (pa_cons (pv 1) pa_nil)) (nomark _))
  (pss_one (ps_raiseE E_InvalidOctets hr (takes_of rfl rfl rfl rfl) rfl (pa_cons (pv 1) pa_nil))) pss_nil))))), ?_⟩)
  · obtain ⟨v, u, d, e, rfl, _⟩ := h
    rfl
  · obtain ⟨v, u, d, e, rfl, hv, hu, q1, q2, q3, q4⟩ := h
    refine ⟨_, rfl, v, d, rfl, hv, fun o1 H1 e1 => ?_, q1⟩
    refine ⟨_, rfl, u, e, rfl, hu.ex e1, fun o2 H2 e2 => ?_, fun o2 => (q2 o1 o2).ex e1⟩
    obtain ⟨t, a, xs, rfl, rfl, S⟩ := octs_sq hv o1
    obtain ⟨t', b, ys, rfl, rfl, S'⟩ := octs_sq hu o2
    have E2 := e1.trans e2
    refine ⟨_, rfl, _, _, rfl, (S.ex E2).len, _, rfl, _, _, rfl, (S'.ex E2).len, .inl ⟨rfl, _, rfl, ?_⟩⟩
    by_cases c : xs.length = ys.length
    · rw [c]
      exact same_ne (q4 o1 o2 c _ E2)
    · have ne : V.int (xs.length : Int) ≠ V.int (ys.length : Int) := fun z => c (by have := V.int.inj z; omega)
      rw [decide_eq_false ne]
      exact iteT ⟨_, rfl, made E_InvalidOctets.err.oex E_InvalidOctets.err.noG fun x nd => q3 o1 o2 c x _ E2 nd⟩
end
end K2
namespace K2
open PySem PySem.Spec PyProof.Rows L2 VB BM
theorem numO_snoc (os : List Int) (o : Int) : (os ++ [o]).foldl (fun n o => n * 256 + o) (0 : Int) = os.foldl (fun n o => n * 256 + o) 0 * 256 + o := by
  rw [List.foldl_append]
  rfl
/-- the number that octets tell -/
def numO (os : List Int) : Int := os.foldl (fun n o => n * 256 + o) 0
theorem numO_bound : ∀ (n : Nat) (os : List Int), os.length = n → Oct os → 0 ≤ numO os ∧ numO os < 256 ^ n
  | 0, [], _, _ => by decide
  | 0, _ :: _, h, _ => by cases h
  | n + 1, os, h, oo => by
    obtain ⟨ys, y, rfl⟩ : ∃ ys y, os = ys ++ [y] := by
      have := List.dropLast_concat_getLast (l := os) (by intro z; rw [z] at h; cases h)
      exact ⟨_, _, this.symm⟩
    rw [List.length_append] at h
    have r := numO_bound n ys (by simpa using h) (fun z hz => oo z (List.mem_append_left _ hz))
    have b := oo y (List.mem_append_right _ (by simp))
    have e : numO (ys ++ [y]) = numO ys * 256 + y := numO_snoc ys y
    rw [e, Int.pow_succ]
    omega
theorem octs_iv {t : Bool} {xs : List V} (h : (Dn.sq t xs).octs = true) : ∃ os : List Int, xs = IV os ∧ Oct os := by
  replace h : xs.all (fun x => isIx x 0 255) = true := h
  induction xs with
  | nil => exact ⟨[], rfl, fun _ z => by cases z⟩
  | cons x xs ih =>
    rw [List.all_cons, Bool.and_eq_true] at h
    obtain ⟨i, rfl, i0, i1⟩ := isIx_of h.1
    obtain ⟨os, rfl, oo⟩ := ih h.2
    refine ⟨i :: os, rfl, fun o ho => ?_⟩
    rcases List.mem_cons.mp ho with rfl | ho
    · exact ⟨i0, i1⟩
    · exact oo o ho
section
variable {P : Program} {w : World} {K : PySem.W.Frag} {mg : Str → Option Value} {base : Heap} {f : Addr} {fd : FuncData}
def spNum (K : PySem.W.Frag) : Sp := fun vs H Q _ => ∃ (a : Addr) (os : List Int) (t : Bool), vs = [.ref a] ∧ Sv t K H a (IV os) ∧ Oct os ∧ os.length ≤ 2000 ∧ RV (.int (numO os)) H Q
theorem ok_told (T : Txt K mg) (F : FnP K "number_told_by" s_number_told_by f fd) : Fg P w K mg base CX0 1 f fd ["octets"] (spNum K) := by
  refine fg_of F sc_number_told_by (fun vs H Q E h => ?_) (fun cdv A outer s H vs Q E hr h => ⟨_, (PSs.nox (pss_cons (ps_set (i := 1) sc_number_told_by.nd rfl (by first | exact Or.inl rfl | exact Or.inr rfl) pe_int)
  (pss_cons (ps_for PassesOwn.never rfl (pi_seq (K := K) (pv 0)) (pg_name (i := 2) sc_number_told_by.nd rfl (by first | exact Or.inl rfl | exact Or.inr rfl))
  (pss_one (ps_set (i := 1) sc_number_told_by.nd rfl (by first | exact Or.inl rfl | exact Or.inr rfl) (pe_op (u_add (K := K)) (pe_op (u_mul (K := K)) (pv 1) pe_int) (pv 2)))))
  (pss_one (ps_ret (pv 1)))))), ?_⟩)
  · obtain ⟨a, os, t, rfl, _⟩ := h
    rfl
  · obtain ⟨a, os, t, rfl, S, oo, hl, q⟩ := h
    refine seq_var (t := t) rfl S fun J wk => ?_
    rw [iv_len] at wk
    refine for_it wk (fun i σ H' => ∃ v2 : Option V, σ = [some (.ref a), some (.int (numO (os.take i))), v2] ∧ Evl.Ex H H') ⟨_, rfl, Evl.Ex.refl _⟩ (fun i σ H' _ h => S.ex h.choose_spec.2) ?_ ?_
    · rintro i x σ H2 H2' hi ⟨v2, rfl, e2⟩ ⟨rfl, hx⟩
      obtain ⟨o, ho, rfl⟩ := iv_get hx
      have b := numO_bound i (os.take i) (by rw [List.length_take]; omega) (fun z hz => oo z (List.mem_of_mem_take hz))
      have p : (256 : Int) ^ i ≤ 2 ^ 16000 := by
        rw [show (256 : Int) = 2 ^ 8 by decide, ← Int.pow_mul]
        exact_mod_cast Nat.pow_le_pow_right (by decide : 0 < 2) (show 8 * i ≤ 16000 by omega)
      have lt : (numO (os.take i)).natAbs < 2 ^ 16000 := by
        have z : numO (os.take i) < 2 ^ 16000 := Int.lt_of_lt_of_le b.2 p
        have z2 : ((numO (os.take i)).natAbs : Int) < ((2 ^ 16000 : Nat) : Int) := by
          rw [Int.natAbs_of_nonneg b.1]
          exact_mod_cast z
        exact_mod_cast z2
      refine ⟨_, rfl, .inl ⟨_, _, rfl, rfl, mulx_ok (a := 16000) (b := 20) lt (by decide) (by decide), _, rfl, .inl ⟨_, _, rfl, rfl, some (.int o), ?_, e2⟩⟩⟩
      have e : numO (os.take (i + 1)) = numO (os.take i) * 256 + o := by
        rw [take_snoc ho]
        exact numO_snoc _ _
      rw [e]
      rfl
    · rintro σ H2 ⟨v2, rfl, e2⟩
      rw [List.take_length]
      exact ⟨_, rfl, q _ e2⟩
/-- number_in of any value -/
def spNumIn (K : PySem.W.Frag) : Sp := fun vs H Q E => ∃ (v : V) (d : Dn), vs = [v] ∧ At K H v d ∧ (d.octs = false → Rz K "InvalidOctets" v H E) ∧ ∀ (t : Bool) (os : List Int), d = .sq t (IV os) → Oct os → RV (.int (numO os)) H Q
theorem ok_num (T : Txt K mg) (F : FnP K "number_in" s_number_in f fd) (C__check_octets : Cal P w K mg base (CX P w) 4 "_check_octets" ["octets"] (spChk K)) (C_number_told_by : Cal P w K mg base CX0 1 "number_told_by" ["octets"] (spNum K)) : Fg P w K mg base (CX P w) 5 f fd ["octets"] (spNumIn K) := by
  refine fg_of F sc_number_in (fun vs H Q E h => ?_) (fun cdv A outer s H vs Q E hr h => ⟨_, ((pss_cons (ps_expr (pe_cal C__check_octets hr.le (passes_call (takes_of rfl rfl rfl rfl) (fun _ _ _ _ h => h)) (pa_cons (pv 0) pa_nil)))
  (pss_one (ps_ret (pe_cal C_number_told_by hr.le pass0 (pa_cons (pv 0) pa_nil)))))), ?_⟩)
  · obtain ⟨v, d, rfl, _⟩ := h
    rfl
  · obtain ⟨v, d, rfl, h, qE, q⟩ := h
    refine ⟨_, rfl, v, d, rfl, h, fun o1 H1 e1 => ?_, qE⟩
    cases d with
    | other => cases o1
    | sq t xs =>
      obtain ⟨os, rfl, oo⟩ := octs_iv o1
      obtain ⟨a, rfl, S, _, l⟩ := h
      rw [iv_len] at l
      exact ⟨_, rfl, a, os, t, rfl, S.ex e1, oo, l, fun H2 e2 => q t os rfl oo H2 (e1.trans e2)⟩
end
end K2
namespace K2
open PySem PySem.Spec PyProof.Rows L2 VB BM
/-- the zeros of each half of an octet -/
def zh : List Int := [4, 3, 3, 2, 3, 2, 2, 1, 3, 2, 2, 1, 2, 1, 1, 0]
theorem zh_eq : ∀ n : Nat, n < 256 → zh.getD (n / 16) 0 + zh.getD (n % 16) 0 = (((bitsOf (n : Int)).count 0 : Nat) : Int) := by decide +kernel
def zN (n : Nat) : Int := zh.getD (n / 16) 0 + zh.getD (n % 16) 0
theorem zN_sum : ∀ os : List Int, Oct os → (os.map fun o => zN o.toNat).sum = zc (bitsL os)
  | [], _ => rfl
  | o :: os, h => by
    have r := zN_sum os fun x hx => h x (List.mem_cons_of_mem _ hx)
    have ho := h o (List.mem_cons_self ..)
    obtain ⟨n, rfl⟩ : ∃ n : Nat, o = n := ⟨o.toNat, by omega⟩
    rw [List.map_cons, List.sum_cons, r, Int.toNat_natCast, zN, zh_eq n (by omega)]
    show _ = zc (bitsOf (n : Int) ++ bitsL os)
    unfold zc
    rw [List.count_append]
    omega
theorem and15 : ∀ n : Nat, n < 256 → n &&& 15 = n % 16 := by decide +kernel
theorem zh_at {j : Nat} (h : j < 16) : atI (IV zh) (j : Int) = some (.int (zh.getD j 0)) := by
  have e : zh[j]? = some (zh.getD j 0) := by
    rw [List.getD_eq_getElem?_getD]
    have : j < zh.length := h
    simp [this]
  exact iv_at e
section
variable {P : Program} {w : World} {K : PySem.W.Frag} {mg : Str → Option Value} {base : Heap} {f : Addr} {fd : FuncData}
def spZB (K : PySem.W.Frag) : Sp := fun vs H Q _ => ∃ (a : Addr) (os : List Int) (t : Bool), vs = [.ref a] ∧ Sv t K H a (IV os) ∧ Oct os ∧ os.length ≤ 20000 ∧ RV (.int (zc (bitsL os))) H Q
theorem ok_zero_bits (T : Txt K mg) (F : FnP K "zero_bits" s_zero_bits f fd) : Fg P w K mg base CX0 1 f fd ["octets"] (spZB K) := by
  refine fg_of F sc_zero_bits (fun vs H Q E h => ?_) (fun cdv A outer s H vs Q E hr h => ⟨_, (PSs.nox (pss_one (ps_ret (pe_callB (u_sum (K := K) rfl) (by rfl) T.f_sum (by decide +kernel) (pa_cons (pe_lc (own := [("octet", 1)]) rfl sc_zero_bits.nd (pi_seq (K := K) (pv 0)) (blkOk_by (own := [("octet", 1)]) (N := ["octets", "octet"]) (sc := defScope s_zero_bits) (by decide +kernel)) (fun _ _ _ _ _ => (pg_name (i := 1) sc_zero_bits.nd rfl (by first | exact Or.inl rfl | exact Or.inr rfl))) (fun _ _ _ _ _ => pts_nil) (fun _ _ _ _ _ => (pe_op (u_add (K := K)) (pe_ix (u_ix (K := K)) (pe_glob (v := .ref (He.ga K "ZEROS_OF_HALF")) rfl T.g_ZEROS_OF_HALF rfl) (pe_op op_shrN (pv 1) pe_int) (fun _ _ => rfl)) (pe_ix (u_ix (K := K)) (pe_glob (v := .ref (He.ga K "ZEROS_OF_HALF")) rfl T.g_ZEROS_OF_HALF rfl) (pe_op op_and (pv 1) pe_int) (fun _ _ => rfl))))) pa_nil))))), ?_⟩)
  · obtain ⟨a, os, t, rfl, _⟩ := h
    rfl
  · obtain ⟨a, os, t, rfl, S, ho, hl, q⟩ := h
    refine seq_var (t := t) rfl S fun J wk D hD => ?_
    rw [iv_len] at wk
    refine lc_pureVS (us := IV (os.map fun o => zN o.toNat)) wk (fun H' ex => S.ex ex) (by simp) (by omega) hD (fun _ => rfl) ?_ ?_
    · intro i x u H' Q' hx hu ex k
      obtain ⟨o, hoi, rfl⟩ := iv_get hx
      have hm := ho o (List.mem_of_getElem? hoi)
      obtain ⟨n, rfl⟩ : ∃ n : Nat, o = n := ⟨o.toNat, by omega⟩
      rw [List.getElem?_map, List.getElem?_map, hoi] at hu
      cases hu
      have hz := T.t_ZEROS_OF_HALF H'
      have a15 : Builtin.bitAnd (n : Int) 15 = ((n % 16 : Nat) : Int) := by
        rw [PyProof.Rows.bitAnd_pp (by omega) (by omega)]
        have e := and15 n (by omega)
        exact congrArg Nat.cast e
      have d16 : (n : Int) / 2 ^ 4 = ((n / 16 : Nat) : Int) := by omega
      refine ⟨_, rfl, n, 4, rfl, rfl, Sv.ix (x := .non) (show Sv true K H' _ (IV zh) from hz) (i := (n : Int) / 2 ^ 4) (by rw [d16]; exact zh_at (by omega)) ⟨_, rfl, _, _, rfl, rfl, Sv.ix (x := .non) (show Sv true K H' _ (IV zh) from hz) (i := Builtin.bitAnd (n : Int) 15) (by rw [a15]; exact zh_at (by omega)) ?_⟩⟩
      refine .inl ⟨_, _, rfl, rfl, ?_⟩
      have kk := k H' (Evl.Ex.refl _)
      exact kk
    · intro H' ex h3
      refine ⟨D, os.map fun o => zN o.toNat, rfl, SqL.of h3, ?_⟩
      rw [zN_sum os ho]
      exact q _ ex
end
end K2
namespace K2
open PySem PySem.Spec PyProof.Rows L2 VB BM
section
variable {P : Program} {w : World} {K : PySem.W.Frag} {mg : Str → Option Value} {base : Heap} {f : Addr} {fd : FuncData}
def spWorth : Sp := fun vs H Q _ => ∃ n : Nat, vs = [.int (n : Int)] ∧ Q (.int (128 / 2 ^ (n % 8))) H
theorem ok_worth (T : Txt K mg) (F : FnP K "_worth" s__worth f fd) : Fg P w K mg base CX0 1 f fd ["bit"] spWorth := by
  refine fg_of F sc__worth (fun vs H Q E h => ?_) (fun cdv A outer s H vs Q E hr h => ⟨_, (PSs.nox (pss_one (ps_ret (pe_op op_shrN pe_int (pe_op u_mod (pv 0) pe_int))))), ?_⟩)
  · obtain ⟨n, rfl, _⟩ := h
    rfl
  · obtain ⟨n, rfl, q⟩ := h
    have n8 : (0 : Int) < 8 := by decide
    exact ⟨_, rfl, _, _, rfl, rfl, n8, 128, n % 8, rfl, rfl, q⟩
theorem bitAnd_nn' (a b : Nat) : Builtin.bitAnd (a : Int) (b : Int) = ((a &&& b : Nat) : Int) := by
  rw [PyProof.Rows.bitAnd_pp (by omega) (by omega)]
  rfl
theorem worth_nat (j : Nat) : (128 : Int) / 2 ^ j = ((128 / 2 ^ j : Nat) : Int) := by
  simp
/-- at bit n of octets -/
theorem at_bit {xs : List Int} {n : Nat} (ox : Oct xs) (h : n < 8 * xs.length) : ∃ o : Nat, o < 256 ∧ xs[n / 8]? = some (o : Int) ∧ (bitsL xs)[n]? = (bitsOf (o : Int))[n % 8]? := by
  obtain ⟨x, hx⟩ := get_lt (l := xs) (i := n / 8) (by omega)
  have hm := ox x (List.mem_of_getElem? hx)
  obtain ⟨o, rfl⟩ := nat_of hm.1
  refine ⟨o, by omega, hx, ?_⟩
  have e := bitsL_get xs (n / 8) (n % 8) (by omega)
  rw [hx] at e
  have e2 : 8 * (n / 8) + n % 8 = n := by omega
  rw [e2] at e
  exact e
def spOnes (K : PySem.W.Frag) : Sp := fun vs H Q _ => ∃ (a : Addr) (os : List Int), vs = [.ref a] ∧ SqL K H a (IV os) ∧ Oct os ∧ os.length ≤ 700 ∧ RL (IV (onesL 0 (bitsL os))) H Q
theorem ok_ones (T : Txt K mg) (F : FnP K "_ones" s__ones f fd) (C__worth : Cal P w K mg base CX0 1 "_worth" ["bit"] spWorth) : Fg P w K mg base CX0 2 f fd ["octets"] (spOnes K) := by
  refine fg_of F sc__ones (fun vs H Q E h => ?_) (fun cdv A outer s H vs Q E hr h => ⟨_, (PSs.nox (pss_one (ps_ret (pe_lc (own := [("bit", 1)]) rfl sc__ones.nd (pi_range1 rfl T.f_range (pa_cons (pe_op (u_mul (K := K)) pe_int (pe_callB (u_len (K := K)) (by rfl) T.f_len (by decide +kernel) (pa_cons (pv 0) pa_nil))) pa_nil)) (blkOk_by (own := [("bit", 1)]) (N := ["octets", "bit"]) (sc := defScope s__ones) (by decide +kernel)) (fun _ _ _ _ _ => (pg_name (i := 1) sc__ones.nd rfl (by first | exact Or.inl rfl | exact Or.inr rfl))) (fun _ _ _ _ _ => (pts_one (pt_tru (K := K) (pe_op op_and (pe_ix (u_ix (K := K)) (pv 0) (pe_op u_fdiv (pv 1) pe_int) (fun _ _ => rfl)) (pe_cal C__worth hr.le pass0 (pa_cons (pv 1) pa_nil))) (by intro _; rfl)))) (fun _ _ _ _ _ => (pv 1)))))), ?_⟩)
  · obtain ⟨a, os, rfl, _⟩ := h
    rfl
  · obtain ⟨a, os, rfl, S, ho, hl, q⟩ := h
    have lb := bitsL_len os
    have n8 : (0 : Int) < 8 ∧ (8 : Int) < 1073741824 := by decide
    have cm : CMulX 8 ((IV os).length : Int) := mulx_ok (a := 4) (b := 10) (by decide) (by rw [iv_len]; omega) (by decide)
    have il := iv_len os
    refine ⟨_, rfl, _, _, rfl, .inl ⟨_, S, rfl⟩, .inl ⟨_, _, rfl, rfl, cm, _, rfl, by omega, by omega, fun D hD => ?_⟩⟩
    have nn : (8 * ((IV os).length : Int)).toNat = 8 * os.length := by omega
    rw [nn]
    refine lc_range (lo := 0) (n := 8 * os.length) (fun i H' => Evl.Ex H H' ∧ i ≤ 8 * os.length ∧ H' D = some (.lst (IV (onesL 0 ((bitsL os).take i))))) ⟨Evl.Ex.new hD, Nat.zero_le _, upd_same⟩ ?_ ?_
    · rintro i H1 hi ⟨e1, hi2, h1⟩
      obtain ⟨o, ho2, hx, hb⟩ := at_bit ho hi
      have e0 : (0 : Int) + (i : Int) = (i : Int) := Int.zero_add _
      rw [e0]
      have S1 := Evl.ex_l e1 S
      obtain ⟨b, hbi⟩ := get_lt (l := bitsL os) (i := i) (by omega)
      have len : ((bitsL os).take i).length = i := by rw [List.length_take]; omega
      have sn := onesL_snoc ((bitsL os).take i) b
      rw [len, ← take_snoc hbi] at sn
      have on := bit_on o ho2 (i % 8) (by omega)
      rw [← hb, hbi] at on
      refine ⟨rfl, _, rfl, _, rfl, _, _, rfl, rfl, n8, .inl ⟨a, _, _, _, rfl, rfl, S1, iv_at hx, _, rfl, i, rfl, _, _, rfl, rfl, ?_⟩⟩
      refine ⟨_, rfl, ?_⟩
      rw [worth_nat, bitAnd_nn']
      by_cases z : o &&& 128 / 2 ^ (i % 8) = 0
      · have b1 : ¬ b = 1 := fun y => (on.mpr (by rw [y])) z
        rw [z]
        refine iteF ⟨e1, hi, ?_⟩
        rw [sn, if_neg b1, List.append_nil]
        exact h1
      · have b1 : b = 1 := Option.some.inj (on.mp z)
        have nz : (((o &&& 128 / 2 ^ (i % 8) : Nat) : Int) != 0) = true := by
          have : ((o &&& 128 / 2 ^ (i % 8) : Nat) : Int) ≠ 0 := by omega
          simpa using this
        rw [nz]
        refine iteT ⟨_, rfl, _, h1, ?_, Evl.Ex.mut e1 hD, hi, ?_⟩
        · rw [iv_len]
          have := onesL_len ((bitsL os).take i) 0
          exact Evl.sz_lt (by omega)
        · rw [upd_same, sn, if_pos b1, iv_snoc]
    · rintro H1 ⟨e1, _, h1⟩
      rw [← lb, List.take_length] at h1
      exact q D H1 hD e1 h1
theorem both_at {g : Int → Int → Int} {xs ys : List Int} {i : Nat} {x y u : V} (hx : (IV xs)[i]? = some x) (hy : (IV ys)[i]? = some y) (hu : (IV (both g xs ys))[i]? = some u) : ∃ m n : Int, x = .int m ∧ y = .int n ∧ u = .int (g m n) := by
  obtain ⟨m, hm, rfl⟩ := iv_get hx
  obtain ⟨n, hn, rfl⟩ := iv_get hy
  obtain ⟨k, hk, rfl⟩ := iv_get hu
  obtain ⟨m', n', hm', hn', rfl⟩ := both_get hk
  rw [hm] at hm'
  rw [hn] at hn'
  cases hm'
  cases hn'
  exact ⟨_, _, rfl, rfl, rfl⟩
/-- zeros of any value -/
def spZeros (K : PySem.W.Frag) : Sp := fun vs H Q E => ∃ (v : V) (d : Dn), vs = [v] ∧ At K H v d ∧ (d.octs = false → Rz K "InvalidOctets" v H E) ∧ (d.octs = true → ∀ (n : Int) (H' : Hp), Evl.Ex H H' → Q (.int n) H')
theorem ok_zeros (T : Txt K mg) (F : FnP K "zeros" s_zeros f fd) (C__check_octets : Cal P w K mg base (CX P w) 4 "_check_octets" ["octets"] (spChk K)) (C_zero_bits : Cal P w K mg base CX0 1 "zero_bits" ["octets"] (spZB K)) : Fg P w K mg base (CX P w) 6 f fd ["octets"] (spZeros K) := by
  refine fg_of F sc_zeros (fun vs H Q E h => ?_) (fun cdv A outer s H vs Q E hr h => ⟨_, ((pss_cons (ps_expr (pe_cal C__check_octets hr.le (passes_call (takes_of rfl rfl rfl rfl) (fun _ _ _ _ h => h)) (pa_cons (pv 0) pa_nil)))
  (pss_one (ps_ret (pe_cal C_zero_bits hr.le pass0 (pa_cons (pv 0) pa_nil)))))), ?_⟩)
  · obtain ⟨v, d, rfl, _⟩ := h
    rfl
  · obtain ⟨v, d, rfl, h, qE, q⟩ := h
    refine ⟨_, rfl, v, d, rfl, h, fun o1 H1 e1 => ?_, qE⟩
    cases d with
    | other => cases o1
    | sq t xs =>
      obtain ⟨os, rfl, oo⟩ := octs_iv o1
      obtain ⟨a, rfl, S, _, l⟩ := h
      rw [iv_len] at l
      exact ⟨_, rfl, a, os, t, rfl, S.ex e1, oo, by omega, fun H2 e2 => q o1 _ _ (e1.trans e2)⟩
/-- falls, rises of any values -/
def spTurns (K : PySem.W.Frag) : Sp := fun vs H Q E => ∃ (v u : V) (d e : Dn), vs = [v, u] ∧ At K H v d ∧ At K H u e ∧ d.len ≤ 600 ∧ (d.octs = false → Rz K "InvalidOctets" v H E) ∧ (d.octs = true → e.octs = false → Rz K "InvalidOctets" u H E) ∧
  (d.octs = true → e.octs = true → d.len ≠ e.len → Rz K "InvalidOctets" u H E) ∧ (d.octs = true → e.octs = true → d.len = e.len → ∀ (p : Addr) (xs : List V) (H' : Hp), H p = none → Evl.Ex H H' → H' p = some (.lst xs) → Q (.ref p) H')
theorem ok_falls (T : Txt K mg) (F : FnP K "falls" s_falls f fd) (C__check_pair : Cal P w K mg base (CX P w) 5 "_check_pair" ["old", "new"] (spPair K)) (C__ones : Cal P w K mg base CX0 2 "_ones" ["octets"] (spOnes K)) : Fg P w K mg base (CX P w) 6 f fd ["old", "new"] (spTurns K) := by
  refine fg_of F sc_falls (fun vs H Q E h => ?_) (fun cdv A outer s H vs Q E hr h => ⟨_, ((pss_cons (ps_expr (pe_cal C__check_pair hr.le (passes_call (takes_of rfl rfl rfl rfl) (fun _ _ _ _ h => h)) (pa_cons (pv 0) (pa_cons (pv 1) pa_nil))))
  (pss_one (ps_ret (pe_cal C__ones hr.le pass0 (pa_cons (pe_lc (own := [("was", 2), ("now", 3)]) rfl sc_falls.nd (pi_zm (K := K) rfl T.f_zip (pa_cons (pv 0) (pa_cons (pv 1) pa_nil))) (blkOk_by (own := [("was", 2), ("now", 3)]) (N := ["old", "new", "was", "now"]) (sc := defScope s_falls) (by decide +kernel)) (fun _ _ _ _ _ => (pg_tupU (K := K) (n := 2) rfl (pgs_cons (pg_name (i := 2) sc_falls.nd rfl (by first | exact Or.inl rfl | exact Or.inr rfl)) (pgs_cons (pg_name (i := 3) sc_falls.nd rfl (by first | exact Or.inl rfl | exact Or.inr rfl)) pgs_nil)))) (fun _ _ _ _ _ => pts_nil) (fun _ _ _ _ _ => (pe_op op_and (pv 2) (pe_op op_xor (pv 2) (pv 3))))) pa_nil)))))), ?_⟩)
  · obtain ⟨v, u, d, e, rfl, _⟩ := h
    rfl
  · obtain ⟨v, u, d, e, rfl, hv, hu, hl, q1, q2, q3, q4⟩ := h
    refine ⟨_, rfl, _, rfl, v, u, d, e, rfl, hv, hu, q1, q2, q3, fun o1 o2 c H1 e1 => ?_⟩
    cases d with
    | other => cases o1
    | sq t xs =>
    cases e with
    | other => cases o2
    | sq t' ys =>
    obtain ⟨a, rfl, Sa, _, l⟩ := hv
    obtain ⟨b, rfl, Sb, _, l'⟩ := hu
    obtain ⟨xs, rfl, ox⟩ := octs_iv o1
    obtain ⟨ys, rfl, oy⟩ := octs_iv o2
    have hl : (IV xs).length ≤ 600 := hl
    have c : (IV xs).length = (IV ys).length := c
    have q4 := q4 o1 o2 c
    rw [iv_len] at hl l l' c
    rw [iv_len] at c
    have L := both_len (f := fallO) (xs := xs) (ys := ys) c
    have wk := walk_zm (t := t) (u := t') (K := K) (a := a) (b := b) (xs := IV xs) (ys := IV ys) (n := xs.length) (by rw [iv_len, iv_len]; omega)
    refine ⟨_, rfl, _, rfl, t, t', a, b, _, _, rfl, Sa.ex e1, Sb.ex e1, fun D hD => ?_⟩
    refine lc_pureVZ (us := IV (both fallO xs ys)) wk (fun H' ex => ⟨(Sa.ex e1).ex ex, (Sb.ex e1).ex ex⟩) (by rw [iv_len]; exact L) (by omega) hD (fun _ _ => rfl) ?_ ?_
    · intro i x y v H' Q' hx hy hv ex k
      obtain ⟨m, n, rfl, rfl, rfl⟩ := both_at hx hy hv
      exact ⟨_, rfl, _, rfl, _, rfl, _, _, rfl, rfl, _, _, rfl, rfl, k H' (Evl.Ex.refl _)⟩
    · intro H' ex h3
      refine ⟨D, both fallO xs ys, rfl, SqL.of h3, both_oct ox oy (fun _ _ => fallO_range), by omega, fun p H2 np e2 hp => ?_⟩
      exact q4 p _ H2 (Evl.fresh_back (e1.trans ex) np) ((e1.trans ex).trans e2) hp
theorem ok_rises (T : Txt K mg) (F : FnP K "rises" s_rises f fd) (C__check_pair : Cal P w K mg base (CX P w) 5 "_check_pair" ["old", "new"] (spPair K)) (C__ones : Cal P w K mg base CX0 2 "_ones" ["octets"] (spOnes K)) : Fg P w K mg base (CX P w) 6 f fd ["old", "new"] (spTurns K) := by
  refine fg_of F sc_rises (fun vs H Q E h => ?_) (fun cdv A outer s H vs Q E hr h => ⟨_, ((pss_cons (ps_expr (pe_cal C__check_pair hr.le (passes_call (takes_of rfl rfl rfl rfl) (fun _ _ _ _ h => h)) (pa_cons (pv 0) (pa_cons (pv 1) pa_nil))))
  (pss_one (ps_ret (pe_cal C__ones hr.le pass0 (pa_cons (pe_lc (own := [("was", 2), ("now", 3)]) rfl sc_rises.nd (pi_zm (K := K) rfl T.f_zip (pa_cons (pv 0) (pa_cons (pv 1) pa_nil))) (blkOk_by (own := [("was", 2), ("now", 3)]) (N := ["old", "new", "was", "now"]) (sc := defScope s_rises) (by decide +kernel)) (fun _ _ _ _ _ => (pg_tupU (K := K) (n := 2) rfl (pgs_cons (pg_name (i := 2) sc_rises.nd rfl (by first | exact Or.inl rfl | exact Or.inr rfl)) (pgs_cons (pg_name (i := 3) sc_rises.nd rfl (by first | exact Or.inl rfl | exact Or.inr rfl)) pgs_nil)))) (fun _ _ _ _ _ => pts_nil) (fun _ _ _ _ _ => (pe_op op_and (pv 3) (pe_op op_xor (pv 2) (pv 3))))) pa_nil)))))), ?_⟩)
  · obtain ⟨v, u, d, e, rfl, _⟩ := h
    rfl
  · obtain ⟨v, u, d, e, rfl, hv, hu, hl, q1, q2, q3, q4⟩ := h
    refine ⟨_, rfl, _, rfl, v, u, d, e, rfl, hv, hu, q1, q2, q3, fun o1 o2 c H1 e1 => ?_⟩
    cases d with
    | other => cases o1
    | sq t xs =>
    cases e with
    | other => cases o2
    | sq t' ys =>
    obtain ⟨a, rfl, Sa, _, l⟩ := hv
    obtain ⟨b, rfl, Sb, _, l'⟩ := hu
    obtain ⟨xs, rfl, ox⟩ := octs_iv o1
    obtain ⟨ys, rfl, oy⟩ := octs_iv o2
    have hl : (IV xs).length ≤ 600 := hl
    have c : (IV xs).length = (IV ys).length := c
    have q4 := q4 o1 o2 c
    rw [iv_len] at hl l l' c
    rw [iv_len] at c
    have L := both_len (f := riseO) (xs := xs) (ys := ys) c
    have wk := walk_zm (t := t) (u := t') (K := K) (a := a) (b := b) (xs := IV xs) (ys := IV ys) (n := xs.length) (by rw [iv_len, iv_len]; omega)
    refine ⟨_, rfl, _, rfl, t, t', a, b, _, _, rfl, Sa.ex e1, Sb.ex e1, fun D hD => ?_⟩
    refine lc_pureVZ (us := IV (both riseO xs ys)) wk (fun H' ex => ⟨(Sa.ex e1).ex ex, (Sb.ex e1).ex ex⟩) (by rw [iv_len]; exact L) (by omega) hD (fun _ _ => rfl) ?_ ?_
    · intro i x y v H' Q' hx hy hv ex k
      obtain ⟨m, n, rfl, rfl, rfl⟩ := both_at hx hy hv
      exact ⟨_, rfl, _, rfl, _, rfl, _, _, rfl, rfl, _, _, rfl, rfl, k H' (Evl.Ex.refl _)⟩
    · intro H' ex h3
      refine ⟨D, both riseO xs ys, rfl, SqL.of h3, both_oct ox oy (fun _ _ => riseO_range), by omega, fun p H2 np e2 hp => ?_⟩
      exact q4 p _ H2 (Evl.fresh_back (e1.trans ex) np) ((e1.trans ex).trans e2) hp
end
end K2
namespace K2
open PySem PySem.Spec PyProof.Rows L2 VB BM
theorem and_mod (m : Nat) : Builtin.bitAnd (m : Int) 255 = ((m % 256 : Nat) : Int) := by
  show Builtin.bitAnd (m : Int) ((255 : Nat) : Int) = _
  rw [VB.bitAnd_nn]
  congr 1
  exact Nat.and_two_pow_sub_one_eq_mod m 8
/-- c octets that tell n -/
def octO (n c : Nat) : List Int := (List.range c).map fun i => ((n / 2 ^ (8 * (c - 1 - i)) % 256 : Nat) : Int)
theorem octO_len (n c : Nat) : (octO n c).length = c := by simp [octO]
theorem octO_at {n c i : Nat} (h : i < c) : (octO n c)[i]? = some ((n / 2 ^ (8 * (c - 1 - i)) % 256 : Nat) : Int) := by
  unfold octO
  rw [List.getElem?_map, List.getElem?_range h]
  rfl
theorem bits_gt {n : Int} {k : Nat} (h : 2 ^ k ≤ n.natAbs) : k < Builtin.Int.intBits n := by
  have hp : 0 < 2 ^ k := Nat.pow_pos (by decide)
  have h0 : n ≠ 0 := by
    rintro rfl
    have : (0 : Int).natAbs = 0 := rfl
    omega
  unfold Builtin.Int.intBits
  have hb : (n == 0) = false := by simpa using h0
  rw [hb]
  show k < n.natAbs.log2 + 1
  exact Nat.lt_succ_of_le ((Nat.le_log2 (by omega)).mpr h)
section
variable {P : Program} {w : World} {K : PySem.W.Frag} {mg : Str → Option Value} {base : Heap} {f : Addr} {fd : FuncData}
def spTell : Sp := fun vs H Q _ => ∃ n c : Nat, vs = [.int (n : Int), .int (c : Int)] ∧ c ≤ 8 ∧ RT (IV (octO n c)) H Q
theorem ok_tell (T : Txt K mg) (F : FnP K "octets_telling" s_octets_telling f fd) : Fg P w K mg base CX0 1 f fd ["number", "count"] spTell := by
  refine fg_of F sc_octets_telling (fun vs H Q E h => ?_) (fun cdv A outer s H vs Q E hr h => ⟨_, (PSs.nox (pss_one (ps_ret (pe_callTy (u_tup (K := K)) (by rfl) T.f_tuple (by decide +kernel) (pa_cons (pe_lc (own := [("k", 2)]) rfl sc_octets_telling.nd (pi_revR rfl T.f_reversed (prg_1 rfl T.f_range (pv 1))) (blkOk_by (own := [("k", 2)]) (N := ["number", "count", "k"]) (sc := defScope s_octets_telling) (by decide +kernel)) (fun _ _ _ _ _ => (pg_name (i := 2) sc_octets_telling.nd rfl (by first | exact Or.inl rfl | exact Or.inr rfl))) (fun _ _ _ _ _ => pts_nil) (fun _ _ _ _ _ => (pe_op op_and (pe_op op_shrN (pv 0) (pe_op (u_mul (K := K)) pe_int (pv 2))) pe_int))) pa_nil))))), ?_⟩)
  · obtain ⟨n, c, rfl, _⟩ := h
    rfl
  · obtain ⟨n, c, rfl, hc, q⟩ := h
    refine ⟨_, rfl, (c : Int), rfl, by omega, by omega, by omega, by omega, fun D hD => ?_⟩
    have cn : ((c : Int) - 0).toNat = c := by omega
    have c0 : (0 : Int) + (c : Int) - 1 = (c : Int) - 1 := by omega
    rw [cn, c0]
    refine lc_it (walk_rangeC (lo := (c : Int) - 1) (c := -1) (n := c)) (fun i H' => i ≤ c ∧ Evl.Ex H H' ∧ H' D = some (.lst (IV ((octO n c).take i)))) ⟨by omega, Evl.Ex.new hD, upd_same⟩ (fun _ _ _ _ => trivial) ?_ ?_
    · rintro i x H1 H1' hi ⟨_, e1, h1⟩ ⟨rfl, rfl⟩
      refine ⟨rfl, ?_⟩
      have ek : (c : Int) - 1 + (i : Int) * -1 = ((c - 1 - i : Nat) : Int) := by omega
      dsimp only
      rw [ek]
      have mx : CMulX 8 ((c - 1 - i : Nat) : Int) := mulx_ok (a := 30) (b := 30) (by decide) (by rw [Int.natAbs_natCast]; show _ < 1073741824; omega) (by decide)
      have e8 : (8 : Int) * ((c - 1 - i : Nat) : Int) = ((8 * (c - 1 - i) : Nat) : Int) := by omega
      refine ⟨_, rfl, _, rfl, .inl ⟨_, _, rfl, rfl, mx, (n : Int), 8 * (c - 1 - i), rfl, congrArg V.int e8, _, _, rfl, rfl, ?_⟩⟩
      have ev : Builtin.bitAnd ((n : Int) / 2 ^ (8 * (c - 1 - i))) 255 = ((n / 2 ^ (8 * (c - 1 - i)) % 256 : Nat) : Int) := by
        have z : (n : Int) / 2 ^ (8 * (c - 1 - i)) = ((n / 2 ^ (8 * (c - 1 - i)) : Nat) : Int) := by simp
        rw [z]
        exact and_mod _
      refine ⟨_, h1, by rw [iv_len, List.length_take]; exact Evl.sz_lt (by omega), by omega, Evl.Ex.mut e1 hD, ?_⟩
      rw [upd_same]
      show some (HO.lst (IV ((octO n c).take i) ++ [V.int (Builtin.bitAnd ((n : Int) / 2 ^ (8 * (c - 1 - i))) 255)])) = _
      rw [ev, take_snoc (octO_at hi), ← iv_snoc]
    · rintro H1 ⟨_, e1, h1⟩
      have e4 : (octO n c).take c = octO n c := by
        have := List.take_length (l := octO n c)
        rw [octO_len] at this
        exact this
      rw [e4] at h1
      exact ⟨D, _, rfl, .inl ⟨SqL.of h1, fun l nl => q l _ (Evl.fresh_back e1 nl) (e1.trans (Evl.Ex.new nl)) upd_same⟩⟩
/-- in_octets of any values -/
def spIn (K : PySem.W.Frag) : Sp := fun vs H Q E => ∃ v u : V, vs = [v, u] ∧ Val K H v ∧ Val K H u ∧ (isIx u 0 8 = false → Rz K "InvalidCount" u H E) ∧ (isIx u 0 8 = true → (∀ c n : Nat, u = .int (c : Int) → v = .int (n : Int) → 2 ^ (8 * c) ≤ n) → Rz K "InvalidNumber" v H E) ∧
  ∀ c n : Nat, u = .int (c : Int) → v = .int (n : Int) → c ≤ 8 → n < 2 ^ (8 * c) → RT (IV (octO n c)) H Q
theorem ok_in {fC fN : Addr} (T : Txt K mg) (F : FnP K "in_octets" s_in_octets f fd) (E_InvalidCount : MkE P w K mg base "InvalidCount" "given" (Er K "InvalidCount") fC) (E_InvalidNumber : MkE P w K mg base "InvalidNumber" "given" (Er K "InvalidNumber") fN)
    (C_is_int : Cal P w K mg base CX0 1 "is_int" ["value"] (spIsInt K)) (C_is_int_from : Cal P w K mg base CX0 2 "is_int_from" ["value", "least", "greatest"] (spIntFrom K)) (C_octets_telling : Cal P w K mg base CX0 1 "octets_telling" ["number", "count"] spTell) : Fg P w K mg base (CX P w) 4 f fd ["number", "count"] (spIn K) := by
  refine fg_of F sc_in_octets (fun vs H Q E h => ?_) (fun cdv A outer s H vs Q E hr h => ⟨_, ((pss_cons (ps_if (pt_not (pt_tru (K := K) (pe_cal C_is_int_from hr.le pass0 (pa_cons (pv 1) (pa_cons pe_int (pa_cons (pe_globI rfl T.g_MOST_OCTETS_OF_A_NUMBER) pa_nil)))) (by intro _; rfl)))
  (pss_one (ps_raiseE E_InvalidCount hr (takes_of rfl rfl rfl rfl) rfl (pa_cons (pv 1) pa_nil))) pss_nil)
  (pss_cons (ps_if (PW.pt (pw_or (pt_not (pt_tru (K := K) (pe_cal C_is_int hr.le pass0 (pa_cons (pv 0) pa_nil)) (by intro _; rfl))) (pw_or (pt_cmpR op_lt (pv 0) pe_int (nomark _)) (pw_or1 (pt_cmpR op_gt (pe_bits (pv 0)) (pe_op (u_mul (K := K)) pe_int (pv 1)) (nomark _))))))
  (pss_one (ps_raiseE E_InvalidNumber hr (takes_of rfl rfl rfl rfl) rfl (pa_cons (pv 0) pa_nil))) pss_nil)
  (pss_one (ps_ret (pe_cal C_octets_telling hr.le pass0 (pa_cons (pv 0) (pa_cons (pv 1) pa_nil)))))))), ?_⟩)
  · obtain ⟨v, u, rfl, _⟩ := h
    rfl
  · obtain ⟨v, u, rfl, hv, hu, q1, q2, q3⟩ := h
    refine ⟨_, rfl, u, 0, 8, rfl, hu, _, rfl, ?_⟩
    cases ho : isIx u 0 8 with
    | false => exact iteT ⟨_, rfl, made E_InvalidCount.err.oex E_InvalidCount.err.noG fun x nd => q1 ho x _ (Evl.Ex.refl _) nd⟩
    | true =>
    obtain ⟨c, rfl, c0, c8⟩ := isIx_of ho
    obtain ⟨c, rfl⟩ : ∃ m : Nat, c = m := ⟨c.toNat, by omega⟩
    have raise : (∀ c' n : Nat, V.int (c : Int) = .int (c' : Int) → v = .int (n : Int) → 2 ^ (8 * c') ≤ n) → Rz K "InvalidNumber" v H E := q2 ho
    refine iteF ⟨_, rfl, v, rfl, hv, _, rfl, ?_⟩
    cases hi : isI v with
    | false => exact iteT ⟨_, rfl, made E_InvalidNumber.err.oex E_InvalidNumber.err.noG fun x nd => raise (fun c' n _ e => by rw [e] at hi; cases hi) x _ (Evl.Ex.refl _) nd⟩
    | true =>
    obtain ⟨i, rfl⟩ : ∃ i, v = .int i := by
      cases v with
      | int i => exact ⟨i, rfl⟩
      | _ => cases hi
    refine iteF ⟨_, rfl, _, _, rfl, rfl, _, rfl, ?_⟩
    by_cases neg : i < 0
    · rw [decide_eq_true neg]
      exact iteT (iteT ⟨_, rfl, made E_InvalidNumber.err.oex E_InvalidNumber.err.noG fun x nd => raise (fun c' n _ e => by have := V.int.inj e; omega) x _ (Evl.Ex.refl _) nd⟩)
    · obtain ⟨n, rfl⟩ : ∃ m : Nat, i = m := ⟨i.toNat, by omega⟩
      rw [decide_eq_false neg]
      have mx : CMulX 8 (c : Int) := mulx_ok (a := 30) (b := 30) (by decide) (by rw [Int.natAbs_natCast]; show _ < 1073741824; omega) (by decide)
      refine iteF ⟨_, rfl, (n : Int), rfl, _, rfl, .inl ⟨_, _, rfl, rfl, mx, _, _, rfl, rfl, _, rfl, ?_⟩⟩
      dsimp only
      by_cases big : 2 ^ (8 * c) ≤ n
      · have := bits_gt (n := (n : Int)) (k := 8 * c) (by rw [Int.natAbs_natCast]; exact big)
        rw [decide_eq_true (show ((8 : Int) * (c : Int) < ((Builtin.Int.intBits (n : Int) : Nat) : Int)) by omega)]
        exact iteT ⟨_, rfl, made E_InvalidNumber.err.oex E_InvalidNumber.err.noG fun x nd => raise (fun c' n' e e' => by
          have a := V.int.inj e
          have b := V.int.inj e'
          obtain rfl : c = c' := by omega
          obtain rfl : n = n' := by omega
          exact big) x _ (Evl.Ex.refl _) nd⟩
      · have lt : n < 2 ^ (8 * c) := Nat.lt_of_not_le big
        have b := PyProof.Rows.intBits_le (a := (n : Int)) (k := 8 * c) (by rw [Int.natAbs_natCast]; exact lt)
        rw [decide_eq_false (show ¬ ((8 : Int) * (c : Int) < ((Builtin.Int.intBits (n : Int) : Nat) : Int)) by omega)]
        exact iteF ⟨_, rfl, _, rfl, n, c, rfl, by omega, q3 c n rfl rfl (by omega) lt⟩
end
end K2
set_option exponentiation.threshold 20000
namespace K2
open PySem PySem.Spec PyProof.Rows L2 VB BM
theorem bitXor_nn' (a b : Nat) : Builtin.bitXor (a : Int) (b : Int) = ((a ^^^ b : Nat) : Int) := by
  rw [Bits.bitXor_pp (by omega) (by omega)]
  rfl
/-- one unlike bit on -/
theorem one_turn {os done as' bs' U : List Int} {m : Int} {i : Nat} {p : Int} {rest : List Int} (ho : Oct os) (hb : bitsL os = done ++ as') (bb : Bit bs') (hl : as'.length = bs'.length) (hu : diffL (done.length : Int) as' bs' = p :: rest) :
    ∃ (n o : Nat) (x y : Int) (pre as2 bs2 : List Int), p = (n : Int) ∧ o < 256 ∧ os[n / 8]? = some (o : Int) ∧ n / 8 < os.length ∧ as'.length = pre.length + 1 + as2.length ∧ as2.length = bs2.length ∧ Bit bs2 ∧
      (∀ m, turned as' bs' m = pre ++ (if m % 2 = 1 then y else x) :: turned as2 bs2 (m / 2)) ∧ rest = diffL ((done.length + pre.length + 1 : Nat) : Int) as2 bs2 ∧ bitsL os = (done ++ pre ++ [x]) ++ as2 ∧
      Oct (os.set (n / 8) ((o ^^^ (128 / 2 ^ (n % 8)) : Nat) : Int)) ∧ bitsL (os.set (n / 8) ((o ^^^ (128 / 2 ^ (n % 8)) : Nat) : Int)) = (done ++ pre ++ [y]) ++ as2 := by
  obtain ⟨pre, x, y, as2, bs2, h1, h2, h3, h4, h5, h6, h7⟩ := diff_at as' bs' _ p rest hl hu
  have lb := bitsL_len os
  have hn : done.length + pre.length < 8 * os.length := by
    rw [← lb, hb, h1]
    simp
  obtain ⟨o, o1, o2, o3⟩ := at_bit ho hn
  have bx : (bitsL os)[done.length + pre.length]? = some x := by
    rw [hb, h1, List.getElem?_append_right (by omega), Nat.add_sub_cancel_left, List.getElem?_append_right (by omega)]
    simp
  have bx2 : (bitsOf (o : Int))[(done.length + pre.length) % 8]? = some x := by rw [← o3]; exact bx
  have hx : x = 0 ∨ x = 1 := bitsL_bit os x (List.mem_of_getElem? bx)
  have hy : y = 0 ∨ y = 1 := bb y (by rw [h2]; simp)
  have yx : y = 1 - x := by omega
  obtain ⟨t1, t2⟩ := bit_turn o o1 ((done.length + pre.length) % 8) (by omega)
  have gd : (bitsOf (o : Int)).getD ((done.length + pre.length) % 8) 0 = x := by rw [List.getD_eq_getElem?_getD, bx2]; rfl
  rw [gd, ← yx] at t2
  have st := bitsL_set os ((done.length + pre.length) / 8) ((done.length + pre.length) % 8) _ _ _ (by omega) o2 t2
  have e8 : 8 * ((done.length + pre.length) / 8) + (done.length + pre.length) % 8 = done.length + pre.length := by omega
  rw [e8] at st
  refine ⟨done.length + pre.length, o, x, y, pre, as2, bs2, by rw [h4]; simp, o1, o2, by omega, by rw [h1]; simp; omega, h6, fun b hbm => bb b (by rw [h2]; simp [hbm]), h7, by rw [h5, h4]; congr 1, ?_, ?_, ?_⟩
  · rw [hb, h1]
    simp
  · intro z hz
    rcases List.mem_or_eq_of_mem_set hz with z1 | z1
    · exact ho z z1
    · omega
  · rw [st, hb, h1, List.append_assoc, List.append_assoc, List.set_append_right _ _ (by omega), Nat.add_sub_cancel_left]
    congr 1
    rw [List.set_append_right _ _ (Nat.le_refl _), Nat.sub_self]
    rfl
section
variable {P : Program} {w : World} {K : PySem.W.Frag} {mg : Str → Option Value} {base : Heap} {f : Addr} {fd : FuncData}
/-- a mask -/
def isM : V → Bool
  | .int m => decide (0 ≤ m) && decide (m < MM)
  | _ => false
def spIsMask (K : PySem.W.Frag) : Sp := fun vs H Q _ => ∃ v : V, vs = [v] ∧ Val K H v ∧ Q (.bl (isM v)) H
theorem ok_is_mask (T : Txt K mg) (F : FnP K "is_mask" s_is_mask f fd) (C_is_int : Cal P w K mg base CX0 1 "is_int" ["value"] (spIsInt K)) : Fg P w K mg base CX0 2 f fd ["value"] (spIsMask K) := by
  refine fg_of F sc_is_mask (fun vs H Q E h => ?_) (fun cdv A outer s H vs Q E hr h => ⟨_, (PSs.nox (pss_one (ps_ret (pe_and (pe_cal C_is_int hr.le pass0 (pa_cons (pv 0) pa_nil)) (pe_and (pe_cmpR op_ge (pv 0) pe_int (nomark _)) (pe_one (pe_cmpR op_le (pe_bits (pv 0)) (pe_globI rfl T.g_MASK_BITS) (nomark _)))))))), ?_⟩)
  · obtain ⟨v, rfl, _⟩ := h
    rfl
  · obtain ⟨v, rfl, hv, q⟩ := h
    refine ⟨_, rfl, v, rfl, hv, _, rfl, ?_⟩
    cases hi : isI v with
    | false =>
      have e : isM v = false := by
        cases v with
        | int i => cases hi
        | _ => rfl
      rw [e] at q
      exact iteF q
    | true =>
      obtain ⟨m, rfl⟩ : ∃ i, v = .int i := by
        cases v with
        | int i => exact ⟨i, rfl⟩
        | _ => cases hi
      have q : Q (.bl (decide (0 ≤ m) && decide (m < MM))) H := q
      refine iteT ⟨_, rfl, _, _, rfl, rfl, _, rfl, ?_⟩
      by_cases m0 : 0 ≤ m
      · rw [decide_eq_true (show m ≥ 0 from m0)]
        rw [decide_eq_true m0, Bool.true_and] at q
        refine iteT ⟨_, rfl, m, rfl, _, _, rfl, rfl, ?_⟩
        dsimp only
        by_cases m1 : m < MM
        · have b := PyProof.Rows.intBits_le (lt_natAbs (n := 4096) m0 m1)
          rw [decide_eq_true (show ((Builtin.Int.intBits m : Nat) : Int) ≤ 4096 by omega)]
          rw [decide_eq_true m1] at q
          exact q
        · have hk : 2 ^ 4096 ≤ m.natAbs := Nat.le_of_not_lt fun z => m1 (by
            have e : (m.natAbs : Int) = m := Int.natAbs_of_nonneg m0
            have z' : (m.natAbs : Int) < ((2 ^ 4096 : Nat) : Int) := by exact_mod_cast z
            rw [e] at z'
            exact z')
          have b := bits_gt hk
          rw [decide_eq_false (show ¬ ((Builtin.Int.intBits m : Nat) : Int) ≤ 4096 by omega)]
          rw [decide_eq_false m1] at q
          exact q
      · rw [decide_eq_false (show ¬ m ≥ 0 from m0)]
        rw [decide_eq_false m0, Bool.false_and] at q
        exact iteF q
/-- changed of any values -/
def spChg (K : PySem.W.Frag) : Sp := fun vs H Q E => ∃ (v u z : V) (d e : Dn), vs = [v, u, z] ∧ At K H v d ∧ At K H u e ∧ Val K H z ∧ d.len ≤ 600 ∧ (d.octs = false → Rz K "InvalidOctets" v H E) ∧ (d.octs = true → e.octs = false → Rz K "InvalidOctets" u H E) ∧
  (d.octs = true → e.octs = true → d.len ≠ e.len → Rz K "InvalidOctets" u H E) ∧ (d.octs = true → e.octs = true → d.len = e.len → isM z = false → Rz K "InvalidMask" z H E) ∧
  ∀ (t u' : Bool) (xs ys : List Int) (m : Int), d = .sq t (IV xs) → e = .sq u' (IV ys) → Oct xs → Oct ys → xs.length = ys.length → z = .int m → 0 ≤ m → m < MM → RT (IV (octetsL (turned (bitsL xs) (bitsL ys) m))) H Q
theorem ok_changed {fM : Addr} (T : Txt K mg) (F : FnP K "changed" s_changed f fd) (E_InvalidMask : MkE P w K mg base "InvalidMask" "given" (Er K "InvalidMask") fM) (C__check_pair : Cal P w K mg base (CX P w) 5 "_check_pair" ["old", "new"] (spPair K)) (C__ones : Cal P w K mg base CX0 2 "_ones" ["octets"] (spOnes K))
    (C_is_mask : Cal P w K mg base CX0 2 "is_mask" ["value"] (spIsMask K)) (C__worth : Cal P w K mg base CX0 1 "_worth" ["bit"] spWorth) : Fg P w K mg base (CX P w) 6 f fd ["old", "new", "mask"] (spChg K) := by
  refine fg_of F sc_changed (fun vs H Q E h => ?_) (fun cdv A outer s H vs Q E hr h => ⟨_, ((pss_cons (ps_expr (pe_cal C__check_pair hr.le (passes_call (takes_of rfl rfl rfl rfl) (fun _ _ _ _ h => h)) (pa_cons (pv 0) (pa_cons (pv 1) pa_nil))))
  (pss_cons (ps_if (pt_not (pt_tru (K := K) (pe_cal C_is_mask hr.le pass0 (pa_cons (pv 2) pa_nil)) (by intro _; rfl)))
  (pss_one (ps_raiseE E_InvalidMask hr (takes_of rfl rfl rfl rfl) rfl (pa_cons (pv 2) pa_nil))) pss_nil)
  (pss_cons (ps_set (i := 3) sc_changed.nd rfl (by first | exact Or.inl rfl | exact Or.inr rfl) (pe_cal C__ones hr.le pass0 (pa_cons (pe_lc (own := [("was", 7), ("now", 8)]) rfl sc_changed.nd (pi_zm (K := K) rfl T.f_zip (pa_cons (pv 0) (pa_cons (pv 1) pa_nil))) (blkOk_by (own := [("was", 7), ("now", 8)]) (N := ["old", "new", "mask", "unlike", "octets", "k", "bit", "was", "now"]) (sc := defScope s_changed) (by decide +kernel)) (fun _ _ _ _ _ => (pg_tupU (K := K) (n := 2) rfl (pgs_cons (pg_name (i := 7) sc_changed.nd rfl (by first | exact Or.inl rfl | exact Or.inr rfl)) (pgs_cons (pg_name (i := 8) sc_changed.nd rfl (by first | exact Or.inl rfl | exact Or.inr rfl)) pgs_nil)))) (fun _ _ _ _ _ => pts_nil) (fun _ _ _ _ _ => (pe_op op_xor (pv 7) (pv 8)))) pa_nil)))
  (pss_cons (ps_set (i := 4) sc_changed.nd rfl (by first | exact Or.inl rfl | exact Or.inr rfl) (pe_callTy (u_list (K := K)) (by rfl) T.f_list (by decide +kernel) (pa_cons (pv 0) pa_nil)))
  (pss_cons (ps_for (passes_of rfl) rfl (pi_enu (K := K) rfl T.f_enumerate (pa_cons (pv 3) pa_nil)) (pg_tupU (K := K) (n := 2) rfl (pgs_cons (pg_name (i := 5) sc_changed.nd rfl (by first | exact Or.inl rfl | exact Or.inr rfl)) (pgs_cons (pg_name (i := 6) sc_changed.nd rfl (by first | exact Or.inl rfl | exact Or.inr rfl)) pgs_nil)))
  (pss_one (ps_if (pt_tru (K := K) (pe_op op_and (pe_op op_shrN (pv 2) (pv 5)) pe_int) (by intro _; rfl))
  (pss_one (ps_asg (pe_op op_xor (pe_ix (u_ix (K := K)) (pv 4) (pe_op u_fdiv (pv 6) pe_int) (fun _ _ => rfl)) (pe_cal C__worth hr.le pass0 (pa_cons (pv 6) pa_nil))) (pg_sub (pv 4) (pe_op u_fdiv (pv 6) pe_int) set_list))) pss_nil)))
  (pss_one (ps_ret (pe_callTy (u_tup (K := K)) (by rfl) T.f_tuple (by decide +kernel) (pa_cons (pv 4) pa_nil)))))))))), ?_⟩)
  · obtain ⟨v, u, z, d, e, rfl, _⟩ := h
    rfl
  · obtain ⟨v, u, z, d, e, rfl, hv, hu, hz, hm, q1, q2, q3, qM, q⟩ := h
    refine ⟨_, rfl, _, rfl, v, u, d, e, rfl, hv, hu, q1, q2, q3, fun o1' o2' c H1 e1 => ?_⟩
    refine ⟨_, rfl, z, rfl, hz.ex e1, _, rfl, ?_⟩
    cases hM : isM z with
    | false => exact iteT ⟨_, rfl, made E_InvalidMask.err.oex E_InvalidMask.err.noG fun x nd => qM o1' o2' c hM x _ e1 nd⟩
    | true =>
    obtain ⟨m, rfl⟩ : ∃ i, z = .int i := by
      cases z with
      | int i => exact ⟨i, rfl⟩
      | _ => cases hM
    have hM : (decide (0 ≤ m) && decide (m < MM)) = true := hM
    rw [Bool.and_eq_true, decide_eq_true_eq, decide_eq_true_eq] at hM
    obtain ⟨m0, m1⟩ := hM
    refine iteF ?_
    cases d with
    | other => cases o1'
    | sq t xs =>
    cases e with
    | other => cases o2'
    | sq u ys =>
    obtain ⟨a, rfl, Sa, _, la⟩ := hv
    obtain ⟨b, rfl, Sb, _, lb'⟩ := hu
    obtain ⟨xs, rfl, ox⟩ := octs_iv o1'
    obtain ⟨ys, rfl, oy⟩ := octs_iv o2'
    have hm : (IV xs).length ≤ 600 := hm
    have hl : (IV xs).length = (IV ys).length := c
    rw [iv_len] at hm la lb' hl
    rw [iv_len] at hl
    have q := q t u xs ys m rfl rfl ox oy hl rfl m0 m1
    have lx := bitsL_len xs
    have ly := bitsL_len ys
    have L := both_len (f := Builtin.bitXor) (xs := xs) (ys := ys) hl
    have wk := walk_zm (t := t) (u := u) (K := K) (a := a) (b := b) (xs := IV xs) (ys := IV ys) (n := xs.length) (by rw [iv_len, iv_len]; omega)
    refine ⟨_, rfl, _, rfl, t, u, a, b, _, _, rfl, Sa.ex e1, Sb.ex e1, fun D hD => ?_⟩
    refine lc_pureVZ (us := IV (both Builtin.bitXor xs ys)) wk (fun H' ex => ⟨(Sa.ex e1).ex ex, (Sb.ex e1).ex ex⟩) (by rw [iv_len]; exact L) (by omega) hD (fun _ _ => rfl) ?_ ?_
    · intro i x y v H' Q' hx hy hv ex k
      obtain ⟨m, n, rfl, rfl, rfl⟩ := both_at hx hy hv
      exact ⟨_, rfl, _, rfl, _, _, rfl, rfl, k H' (Evl.Ex.refl _)⟩
    · intro H2 ex h3
      refine ⟨D, both Builtin.bitXor xs ys, rfl, SqL.of h3, both_oct ox oy (fun _ _ => xor_range), by omega, fun pu H3 np e3 hp => ?_⟩
      rw [ones_diff ox oy hl] at hp
      have E3 := (e1.trans ex).trans e3
      refine ⟨_, rfl, a, _, rfl, (Sa.ex E3).either, fun l nl => ?_⟩
      have El := E3.trans (Evl.Ex.new (o := .lst (IV xs)) nl)
      have nlH := Evl.fresh_back E3 nl
      generalize hU : diffL 0 (bitsL xs) (bitsL ys) = U at hp
      have hp4 := Evl.Ex.new (o := .lst (IV xs)) nl _ _ hp
      have pul : pu ≠ l := by
        rintro rfl
        rw [nl] at hp
        cases hp
      refine ⟨_, rfl, pu, _, rfl, SqL.of hp4, ?_⟩
      refine for_it (walk_enum (K := K) (a := pu) (xs := IV U)) (fun i σ H' => ∃ (v5 v6 : Option V) (os done as' bs' : List Int), σ = [some (.ref a), some (.ref b), some (.int m), some (.ref pu), some (.ref l), v5, v6, none, none] ∧ Evl.Ex H H' ∧ H' pu = some (.lst (IV U)) ∧ i ≤ U.length ∧
        Oct os ∧ os.length = xs.length ∧ H' l = some (.lst (IV os)) ∧ bitsL os = done ++ as' ∧ Bit bs' ∧ as'.length = bs'.length ∧ U.drop i = diffL (done.length : Int) as' bs' ∧ turned (bitsL xs) (bitsL ys) m = done ++ turned as' bs' (m / 2 ^ i))
        ⟨none, none, xs, [], bitsL xs, bitsL ys, rfl, El, hp4, Nat.zero_le _, ox, rfl, upd_same, rfl, bitsL_bit ys, by omega, hU.symm, by simp⟩ ?_ ?_ ?_
      · rintro i σ H' _ ⟨v5, v6, os, done, as', bs', rfl, _, h, _⟩
        exact SqL.of h
      · rintro i x σ H4 H5 hi ⟨v5, v6, os, done, as', bs', rfl, e4, hp5, hiU, oo, lo, hos, hb, bb, ll, hd, ht⟩ ⟨Tp, x1, y1, rfl, nT, rfl, hx1, hy1⟩
        cases hx1
        obtain ⟨p, hpi, rfl⟩ := iv_get hy1
        have eT := Evl.Ex.new (o := .tup [V.int (i : Int), V.int p]) nT
        refine ⟨Tp, _, rfl, SqT.of upd_same, rfl, _, _, rfl, _, _, rfl, rfl, ?_⟩
        rw [drop_get hpi] at hd
        obtain ⟨n, o, x, y, pre, as2, bs2, rfl, o1, o2, o3, l1, l2, b2, tt, hr2, hb1, oo2, hb2⟩ := one_turn (U := U) (m := m) (i := i) oo hb bb ll hd.symm
        have hos5 := eT _ _ hos
        have hp6 := eT _ _ hp5
        have E5 := e4.trans eT
        have lT : l ≠ Tp := by
          rintro rfl
          rw [nT] at hos
          cases hos
        have dv : m / 2 ^ i / 2 = m / 2 ^ (i + 1) := by
          rw [Int.pow_succ, Int.ediv_ediv_of_nonneg (Int.le_of_lt (pow_nn i))]
        have n8 : (0 : Int) < 8 ∧ (8 : Int) < 1073741824 := by decide
        refine ⟨_, rfl, _, rfl, m, i, rfl, rfl, _, _, rfl, rfl, _, rfl, ?_⟩
        rw [bitAnd_m1]
        rw [tt] at ht
        by_cases od : m / 2 ^ i % 2 = 1
        · rw [if_pos od] at ht
          rw [od]
          refine iteT ⟨_, rfl, _, rfl, _, _, rfl, rfl, n8, .inl ⟨l, _, _, _, rfl, rfl, SqL.of hos5, iv_at o2, _, rfl, n, rfl, _, _, rfl, rfl, ?_⟩⟩
          refine ⟨_, rfl, _, rfl, _, _, rfl, rfl, n8, l, _, _, n / 8, rfl, rfl, hos5, Evl.ixN_nat (by rw [iv_len]; exact o3), ?_⟩
          dsimp only
          rw [worth_nat, bitXor_nn', ← List.map_set]
          refine ⟨_, _, _, done ++ pre ++ [y], as2, bs2, rfl, Evl.Ex.mut E5 nlH, ?_, ?_, oo2, ?_, upd_same, hb2, b2, l2, ?_, ?_⟩
          · rw [upd_ne pul]
            exact hp6
          · have := (List.getElem?_eq_some_iff.mp hpi).1
            omega
          · rw [List.length_set]
            exact lo
          · rw [hr2]
            congr 1
            simp
            omega
          · rw [ht, dv]
            simp
        · rw [if_neg od] at ht
          have ez : m / 2 ^ i % 2 = 0 := by omega
          rw [ez]
          refine iteF ⟨_, _, os, done ++ pre ++ [x], as2, bs2, rfl, E5, hp6, by have := (List.getElem?_eq_some_iff.mp hpi).1; omega, oo, lo, hos5, hb1, b2, l2, ?_, ?_⟩
          · rw [hr2]
            congr 1
            simp
            omega
          · rw [ht, dv]
            simp
      · rintro σ H4 ⟨v5, v6, os, done, as', bs', rfl, e4, hp5, hiU, oo, lo, hos, hb, bb, ll, hd, ht⟩
        rw [iv_len, List.drop_length] at hd
        have e := diff_nil _ _ _ ll hd.symm
        subst e
        rw [turned_same, ← hb] at ht
        rw [ht, octetsL_bitsL oo] at q
        exact ⟨_, rfl, l, _, rfl, .inl ⟨SqL.of hos, fun p np => q p _ (Evl.fresh_back e4 np) (e4.trans (Evl.Ex.new np)) upd_same⟩⟩
end
end K2
namespace K2
open PySem PySem.Spec PyProof.Rows L2 VB BM
theorem bmut {H : Hp} {a D : Addr} {n : Int} {o : HO} (B : Box H a n) (h : D ≠ a) : Box (upd H D o) a n := by
  obtain ⟨d, m, c, b, hb, r⟩ := B
  exact ⟨d, m, c, b, by rw [upd_ne (Ne.symm h)]; exact hb, r⟩
theorem efresh {H H' : Hp} {a y : Addr} (e : Exb a H H') (h : H' y = none) (n : y ≠ a) : H y = none := by
  cases hy : H y with
  | none => rfl
  | some u =>
    have := e y u n hy
    rw [h] at this
    cases this
theorem menu_v {K : PySem.W.Frag} {H : Hp} {l : Addr} {xs : List V} {r : Int} {Q : VK} (h : H l = some (.lst xs)) (r0 : 0 ≤ r) (r1 : r < (xs.length : Int)) (q : ∀ v ∈ xs, Q v H) : rIx K (.ref l) (.int r) H Q := by
  obtain ⟨j, rfl⟩ : ∃ j : Nat, r = j := ⟨r.toNat, by omega⟩
  have hj : j < xs.length := by omega
  exact Sv.ix (x := .non) (Sv.lst h) (i := (j : Int)) (atI_nat (List.getElem?_eq_getElem hj)) (q _ (List.getElem_mem hj))
theorem menu_i {K : PySem.W.Frag} {H : Hp} {l : Addr} {xs : List Int} {r : Int} {Q : VK} (h : H l = some (.lst (IV xs))) (r0 : 0 ≤ r) (r1 : r < (xs.length : Int)) (q : ∀ v ∈ xs, Q (.int v) H) : rIx K (.ref l) (.int r) H Q := by
  refine menu_v h r0 (by rw [iv_len]; exact r1) fun v hv => ?_
  obtain ⟨i, hi, rfl⟩ := List.mem_map.mp hv
  exact q i hi
theorem pow_lt {i : Nat} (h : i ≤ 2000) {os : List Int} (l : os.length = i) (oo : Oct os) : (numO os).natAbs < 2 ^ 16000 := by
  have b := numO_bound i os l oo
  have p : (256 : Int) ^ i ≤ 2 ^ 16000 := by
    rw [show (256 : Int) = 2 ^ 8 by decide, ← Int.pow_mul]
    exact_mod_cast Nat.pow_le_pow_right (by decide : 0 < 2) (show 8 * i ≤ 16000 by omega)
  have z : numO os < 2 ^ 16000 := Int.lt_of_lt_of_le b.2 p
  have z2 : ((numO os).natAbs : Int) < ((2 ^ 16000 : Nat) : Int) := by
    rw [Int.natAbs_of_nonneg b.1]
    exact_mod_cast z
  exact_mod_cast z2
section
variable {P : Program} {w : World} {K : PySem.W.Frag} {mg : Str → Option Value} {base : Heap} {f : Addr} {fd : FuncData}
theorem ok_sum (T : Txt K mg) (F : FnP K "_law_sum" s__law_sum f fd) : Fg P w K mg base CX0 1 f fd ["_law_octets_here"] (spNum K) := by
  refine fg_of F sc__law_sum (fun vs H Q E h => ?_) (fun cdv A outer s H vs Q E hr h => ⟨_, (PSs.nox (pss_cons (ps_set (i := 1) sc__law_sum.nd rfl (by first | exact Or.inl rfl | exact Or.inr rfl) pe_int)
  (pss_cons (ps_for PassesOwn.never rfl (pi_seq (K := K) (pv 0)) (pg_name (i := 2) sc__law_sum.nd rfl (by first | exact Or.inl rfl | exact Or.inr rfl))
  (pss_one (ps_set (i := 1) sc__law_sum.nd rfl (by first | exact Or.inl rfl | exact Or.inr rfl) (pe_op (u_add (K := K)) (pe_op (u_mul (K := K)) (pv 1) pe_int) (pv 2)))))
  (pss_one (ps_ret (pv 1)))))), ?_⟩)
  · obtain ⟨a, os, t, rfl, _⟩ := h
    rfl
  · obtain ⟨a, os, t, rfl, S, oo, hl, q⟩ := h
    refine seq_var (t := t) rfl S fun J wk => ?_
    rw [iv_len] at wk
    refine for_it wk (fun i σ H' => ∃ v2 : Option V, σ = [some (.ref a), some (.int (numO (os.take i))), v2] ∧ Evl.Ex H H') ⟨_, rfl, Evl.Ex.refl _⟩ (fun i σ H' _ h => S.ex h.choose_spec.2) ?_ ?_
    · rintro i x σ H2 H2' hi ⟨v2, rfl, e2⟩ ⟨rfl, hx⟩
      obtain ⟨o, ho, rfl⟩ := iv_get hx
      have lt := pow_lt (i := i) (by omega) (os := os.take i) (by rw [List.length_take]; omega) (fun z hz => oo z (List.mem_of_mem_take hz))
      refine ⟨_, rfl, .inl ⟨_, _, rfl, rfl, mulx_ok (a := 16000) (b := 20) lt (by decide) (by decide), _, rfl, .inl ⟨_, _, rfl, rfl, some (.int o), ?_, e2⟩⟩⟩
      have e : numO (os.take (i + 1)) = numO (os.take i) * 256 + o := by
        rw [take_snoc ho]
        exact numO_snoc _ _
      rw [e]
      rfl
    · rintro σ H2 ⟨v2, rfl, e2⟩
      rw [List.take_length]
      exact ⟨_, rfl, q _ e2⟩
def spIs (K : PySem.W.Frag) : Sp := fun vs H Q _ => ∃ (m n : Int) (b : Bool), vs = [.int m, .int n] ∧ decide (m = n) = b ∧ Q (.bl b) H
theorem ok_is (T : Txt K mg) (F : FnP K "_law_is" s__law_is f fd) : Fg P w K mg base CX0 1 f fd ["_law_value", "_law_due"] (spIs K) := by
  refine fg_of F sc__law_is (fun vs H Q E h => ?_) (fun cdv A outer s H vs Q E hr h => ⟨_, (PSs.nox (pss_one (ps_ret (pe_and (pe_callB (u_isi (K := K)) (by rfl) T.f_isinstance (by decide +kernel) (pa_cons (pv 0) (pa_cons (pe_bltn (v := .ty "int") rfl T.f_int (by decide +kernel) rfl) pa_nil))) (pe_and (pe_not (pe_callB (u_isi (K := K)) (by rfl) T.f_isinstance (by decide +kernel) (pa_cons (pv 0) (pa_cons (pe_bltn (v := .ty "bool") rfl T.f_bool (by decide +kernel) rfl) pa_nil)))) (pe_one (pe_cmpR (u_eq (K := K) hr) (pv 0) (pv 1) (nomark _)))))))), ?_⟩)
  · obtain ⟨m, n, b, rfl, _⟩ := h
    rfl
  · obtain ⟨m, n, b, rfl, rfl, q⟩ := h
    refine ⟨_, rfl, _, _, _, _, true, rfl, .ty _, ty_int K H m, kit_ty (by decide +kernel), true, rfl, iteT ?_⟩
    refine ⟨_, rfl, _, _, _, _, false, rfl, .ty _, ty_int K H m, kit_ty (by decide +kernel), false, rfl, true, rfl, iteT ?_⟩
    refine ⟨_, rfl, _, rfl, .inl ⟨rfl, ?_⟩⟩
    have e : decide (V.int m = V.int n) = decide (m = n) := by
      by_cases c : m = n
      · subst c
        rw [decide_eq_true rfl, decide_eq_true rfl]
      · rw [decide_eq_false c, decide_eq_false fun z => c (V.int.inj z)]
    rw [e]
    exact q
def spOcts : Sp := fun vs H Q _ => ∃ (bx : Addr) (c : Int) (n : Nat), vs = [.ref bx, .int (n : Int)] ∧ Box H bx c ∧ c < 60000000 ∧ n ≤ 40 ∧ ∀ (os : List Int) (p : Addr) (H' : Hp), Oct os → os.length = n → H p = none → p ≠ bx → Exb bx H H' → Box H' bx (c + 100) → H' p = some (.lst (IV os)) → Q (.ref p) H'
theorem ok_octs (T : Txt K mg) (F : FnP K "_law_octets" s__law_octets f fd) (C__law_take : Cal P w K mg base CX0 1 "_law_take" ["_law_box_here", "_law_many"] spTake) : Fg P w K mg base CX0 2 f fd ["_law_box_here", "_law_size"] spOcts := by
  refine fg_of F sc__law_octets (fun vs H Q E h => ?_) (fun cdv A outer s H vs Q E hr h => ⟨_, (PSs.nox (pss_cons (ps_set (i := 2) sc__law_octets.nd rfl (by first | exact Or.inl rfl | exact Or.inr rfl) (pe_ix (u_ix (K := K)) (pe_lst (pa_cons pe_int (pa_cons pe_int (pa_cons pe_int (pa_cons pe_int pa_nil))))) (pe_cal C__law_take hr.le pass0 (pa_cons (pv 0) (pa_cons pe_int pa_nil))) (fun _ _ => rfl)))
  (pss_one (ps_ret (pe_lc (own := [("_law_k", 3)]) rfl sc__law_octets.nd (pi_range1 rfl T.f_range (pa_cons (pv 1) pa_nil)) (blkOk_by (own := [("_law_k", 3)]) (N := ["_law_box_here", "_law_size", "_law_front", "_law_k"]) (sc := defScope s__law_octets) (by decide +kernel)) (fun _ _ _ _ _ => (pg_name (i := 3) sc__law_octets.nd rfl (by first | exact Or.inl rfl | exact Or.inr rfl))) (fun _ _ _ _ _ => pts_nil) (fun _ _ _ _ _ => (pe_ifExp (pt_cmpR op_lt (pv 3) (pv 2) (nomark _)) pe_int (pe_ix (u_ix (K := K)) (pe_lst (pa_cons pe_int (pa_cons pe_int (pa_cons pe_int (pa_cons pe_int (pa_cons (pe_cal C__law_take hr.le pass0 (pa_cons (pv 0) (pa_cons pe_int pa_nil))) pa_nil)))))) (pe_cal C__law_take hr.le pass0 (pa_cons (pv 0) (pa_cons pe_int pa_nil))) (fun _ _ => rfl))))))))), ?_⟩)
  · obtain ⟨bx, c, n, rfl, _⟩ := h
    rfl
  · obtain ⟨bx, c, n, rfl, B, hc, hn, q⟩ := h
    refine ⟨by show 4 ≤ sizeLine; decide, fun l nl => ⟨_, rfl, bx, 4, c, rfl, B.ex (Evl.Ex.new nl), by omega, by omega, by omega, fun r H1 r0 r1 e1 B1 => menu_i (e1 _ _ (B.at nl) (upd_same (H := H) (a := l) (o := .lst (IV [0, 0, 1, 3])))) r0 r1 fun fr _ => ?_⟩⟩
    have E1 := (Exb.of (Evl.Ex.new (o := .lst (IV [0, 0, 1, 3])) nl)).trans e1
    refine ⟨_, rfl, (n : Int), rfl, by omega, by omega, fun D hD => ?_⟩
    have nn : ((n : Int)).toNat = n := by omega
    rw [nn]
    have Db := B1.at hD
    refine lc_range (lo := 0) (n := n) (fun i H' => i ≤ n ∧ Box H' bx (c + 1 + 2 * i) ∧ Exb bx H H' ∧ ∃ os : List Int, Oct os ∧ os.length = i ∧ H' D = some (.lst (IV os))) ⟨by omega, Box.le (bmut B1 Db) (by omega), E1.trans (Exb.new hD), [], (fun _ z => by cases z), rfl, upd_same⟩ ?_ ?_
    · rintro i H2 hi ⟨_, B2, E2, os, oo, lo, hos⟩
      have ez : (0 : Int) + (i : Int) = (i : Int) := Int.zero_add _
      rw [ez]
      have fin : ∀ (o : Int) (H3 : Hp), 0 ≤ o → o ≤ 255 → Exb bx H2 H3 → Box H3 bx (c + 1 + 2 * i + 2) → ∃ acc, H3 D = some (.lst acc) ∧ acc.length < sizeLine ∧ (i + 1 ≤ n ∧ Box (upd H3 D (.lst (acc ++ [V.int o]))) bx (c + 1 + 2 * ((i + 1 : Nat) : Int)) ∧ Exb bx H (upd H3 D (.lst (acc ++ [V.int o]))) ∧ ∃ os : List Int, Oct os ∧ os.length = i + 1 ∧ upd H3 D (.lst (acc ++ [V.int o])) D = some (.lst (IV os))) := by
        intro o H3 o0 o1 e3 B3
        refine ⟨_, e3 _ _ Db hos, by rw [iv_len]; exact Evl.sz_lt (by omega), by omega, Box.le (bmut B3 Db) (by omega), fun y u hy h0 => ?_, os ++ [o], fun z hz => ?_, by simp [lo], by rw [upd_same, ← iv_snoc]⟩
        · have hD0 : H D = none := efresh E1 hD Db
          have yD : y ≠ D := fun z => by rw [z, hD0] at h0; cases h0
          rw [upd_ne yD]
          exact (E2.trans e3) y u hy h0
        · rcases List.mem_append.mp hz with hz | hz
          · exact oo z hz
          · have : z = o := by simpa using hz
            omega
      refine ⟨rfl, ?_⟩
      refine ⟨_, rfl, _, rfl, _, _, rfl, rfl, _, rfl, ?_⟩
      by_cases cf : (i : Int) < fr
      · rw [decide_eq_true cf]
        exact iteT (fin 0 H2 (by decide) (by decide) (fun _ _ _ z => z) (B2.le (by omega)))
      · rw [decide_eq_false cf]
        refine iteF ⟨_, rfl, bx, 256, _, rfl, B2, by omega, by omega, by omega, fun x H3 x0 x1 e3 B3 => ⟨by show 5 ≤ sizeLine; decide, fun l2 nl2 => ?_⟩⟩
        have y2 := Evl.Ex.new (o := .lst (IV [0, 255, 1, 128, x])) nl2
        refine ⟨_, rfl, bx, 5, _, rfl, B3.ex y2, by omega, by omega, by omega, fun r2 H4 r20 r21 e4 B4 => menu_i (e4 _ _ (B3.at nl2) (upd_same (H := H3) (a := l2) (o := .lst (IV [0, 255, 1, 128, x])))) r20 r21 fun v hv => ?_⟩
        simp only [List.mem_cons, List.not_mem_nil, or_false] at hv
        exact fin v H4 (by omega) (by omega) ((e3.trans (Exb.of y2)).trans e4) (B4.le (by omega))
    · rintro H2 ⟨_, B2, E2, os, oo, lo, hos⟩
      exact q os D H2 oo lo (efresh E1 hD Db) Db E2 (B2.le (by omega)) hos
end
end K2
namespace K2
open PySem PySem.Spec PyProof.Rows L2 VB BM
theorem octO_succ (n c : Nat) : octO n (c + 1) = ((n / 2 ^ (8 * c) % 256 : Nat) : Int) :: octO n c := by
  refine List.ext_getElem? fun i => ?_
  cases i with
  | zero =>
    rw [octO_at (by omega)]
    rfl
  | succ i =>
    rw [List.getElem?_cons_succ]
    by_cases h : i < c
    · rw [octO_at (by omega), octO_at h]
      have e : c + 1 - 1 - (i + 1) = c - 1 - i := by omega
      rw [e]
    · rw [List.getElem?_eq_none (by rw [octO_len]; omega), List.getElem?_eq_none (by rw [octO_len]; omega)]
section
variable {P : Program} {w : World} {K : PySem.W.Frag} {mg : Str → Option Value} {base : Heap} {f : Addr} {fd : FuncData}
def spParts : Sp := fun vs H Q _ => ∃ n c : Nat, vs = [.int (n : Int), .int (c : Int)] ∧ c ≤ 8 ∧ RT (IV (octO n c)) H Q
theorem ok_parts (T : Txt K mg) (F : FnP K "_law_parts" s__law_parts f fd) : Fg P w K mg base CX0 1 f fd ["_law_number", "_law_count"] spParts := by
  refine fg_of F sc__law_parts (fun vs H Q E h => ?_) (fun cdv A outer s H vs Q E hr h => ⟨_, (PSs.nox (pss_cons (ps_par (i := 2) (j := 3) rfl sc__law_parts.nd rfl rfl (by decide) rfl rfl (pa_cons (pe_lst pa_nil) (pa_cons (pv 0) pa_nil)) (by rfl))
  (pss_cons (ps_for PassesOwn.never rfl (pi_range1 rfl T.f_range (pa_cons (pv 1) pa_nil)) (pg_name (i := 4) sc__law_parts.nd rfl (by first | exact Or.inl rfl | exact Or.inr rfl))
  (pss_cons (ps_expr (pe_bm PySem.F.plainAttrs_list PySem.F.slot_list_insert PySem.F.type_list_insert mt_insert (pv 2) (pa_cons pe_int (pa_cons (pe_op u_mod (pe_callTy call_int1 (by rfl) T.f_int (by decide +kernel) (pa_cons (pv 3) pa_nil)) pe_int) pa_nil))))
  (pss_one (ps_set (i := 3) sc__law_parts.nd rfl (by first | exact Or.inl rfl | exact Or.inr rfl) (pe_op u_fdiv (pv 3) pe_int)))))
  (pss_one (ps_ret (pe_callTy (u_tup (K := K)) (by rfl) T.f_tuple (by decide +kernel) (pa_cons (pv 2) pa_nil))))))), ?_⟩)
  · obtain ⟨n, c, rfl, _⟩ := h
    rfl
  · obtain ⟨n, c, rfl, hc, q⟩ := h
    refine ⟨by show 0 ≤ sizeLine; decide, fun L nL => ⟨_, rfl, _, _, rfl, ?_⟩⟩
    refine ⟨_, rfl, (c : Int), rfl, by omega, by omega, ?_⟩
    have cn : ((c : Int)).toNat = c := by omega
    rw [cn]
    refine for_range (lo := 0) (n := c) (fun i σ H' => i ≤ c ∧ Evl.Ex H H' ∧ H' L = some (.lst (IV (octO n i))) ∧ ∃ v4 : Option V, σ = [some (.int (n : Int)), some (.int (c : Int)), some (.ref L), some (.int ((n / 2 ^ (8 * i) : Nat) : Int)), v4]) ⟨by omega, Evl.Ex.new nL, upd_same, none, by simp; rfl⟩ ?_ ?_
    · rintro i σ H1 hi ⟨_, e1, hL, v4, rfl⟩
      have p256 : (0 : Int) < 256 := by decide
      have q256 : (0 : Int) < 256 ∧ (256 : Int) < 1073741824 := by decide
      refine ⟨_, rfl, .inl ⟨rfl, _, SqL.of hL⟩, _, rfl, .inl ⟨_, rfl, _, _, rfl, rfl, p256, L, _, 0, _, rfl, rfl, hL, by rw [iv_len, octO_len]; exact Evl.sz_lt (by omega), by decide, by decide, ?_⟩⟩
      have ev : (((n / 2 ^ (8 * i) : Nat) : Int) % 256) = ((n / 2 ^ (8 * i) % 256 : Nat) : Int) := by omega
      have el : (IV (octO n i)).take (0 : Int).toNat ++ [V.int (((n / 2 ^ (8 * i) : Nat) : Int) % 256)] ++ (IV (octO n i)).drop (0 : Int).toNat = IV (octO n (i + 1)) := by
        rw [octO_succ, ev]
        rfl
      refine ⟨_, rfl, _, _, rfl, rfl, q256, by omega, Evl.Ex.mut e1 nL, upd_same.trans (congrArg (fun z => some (HO.lst z)) el), some (.int (0 + (i : Int))), ?_⟩
      have ed : (((n / 2 ^ (8 * i) : Nat) : Int) / 256) = ((n / 2 ^ (8 * (i + 1)) : Nat) : Int) := by
        have z : n / 2 ^ (8 * (i + 1)) = n / 2 ^ (8 * i) / 256 := by
          rw [Nat.div_div_eq_div_mul, show 8 * (i + 1) = 8 * i + 8 by omega, Nat.pow_add]
        rw [z]
        omega
      show [some (V.int (n : Int)), some (V.int (c : Int)), some (V.ref L), some (V.int (((n / 2 ^ (8 * i) : Nat) : Int) / 256)), some (V.int (0 + (i : Int)))] = _
      rw [ed]
    · rintro σ H1 ⟨_, e1, hL, v4, rfl⟩
      exact ⟨_, rfl, L, _, rfl, .inl ⟨SqL.of hL, fun l nl => q l _ (Evl.fresh_back e1 nl) (e1.trans (Evl.Ex.new nl)) upd_same⟩⟩
end
end K2
namespace K2
open PySem PySem.Spec PyProof.Rows L2 VB BM
section
variable {P : Program} {w : World} {K : PySem.W.Frag} {mg : Str → Option Value} {base : Heap} {f : Addr} {fd : FuncData}
theorem sh_s {x : Str} (h : (PyData.str x).canLay0 = true ∧ (reprText x).length ≤ 60) : Fl (.str x) ∧ Tx (.str x) (reprText x) := ⟨.str x h, .str x (by have := h.2; rw [sizeLine_eq]; omega)⟩
/-- one of the odd values -/
structure Odd (K : PySem.W.Frag) (H0 H : Hp) (v : V) : Prop where
  at_ : ∃ d : Dn, At K H v d ∧ d.octs = false
  shw : ∃ t bs d, Shw H v t bs d ∧ d ≤ 3 ∧ t.length ≤ 1000
  nat : ∀ lo hi, isIx v lo hi = false
  int : isI v = false
  new : ∀ a, v = .ref a → H0 a = none
theorem Odd.flat {H0 H : Hp} {v : V} {t : Str} (f : Fl v) (tx : Tx v t) (l : t.length ≤ 1000) (n : ∀ lo hi, isIx v lo hi = false) (i : isI v = false) : Odd K H0 H v :=
  ⟨⟨.other, .flat f, rfl⟩, ⟨t, [], 0, .flat tx, by decide, l⟩, n, i, fun a z => by subst z; cases f⟩
/-- a list of one flat value that is no octet -/
theorem Odd.one {H0 H : Hp} {a : Addr} {x : V} {t : Str} (h : H a = some (.lst [x])) (h0 : H0 a = none) (f : Fl x) (tx : Tx x t) (l : t.length ≤ 100) (n : isIx x 0 255 = false) : Odd K H0 H (.ref a) :=
  ⟨⟨.sq false [x], ⟨a, rfl, Sv.lst h, fun y hy => by
      have : y = x := by simpa using hy
      subst this
      exact .flat f, by show 1 ≤ 2000; decide⟩, by show ([x].all fun x => isIx x 0 255) = false; simp [n]⟩,
    ⟨listText [t], [a], 1, .lst h (fun z => by cases z) (.cons (.flat tx) (fun _ z => by cases z) (Nat.le_refl 0) .nil) (fun z => by cases z), by decide, by
      show (("[" : Str) ++ t ++ "]").length ≤ 1000
      simp only [Str.length_append]
      show 1 + t.length + 1 ≤ 1000
      omega⟩, fun _ _ => rfl, rfl, fun b z => by cases z; exact h0⟩
def spOdd (K : PySem.W.Frag) : Sp := fun vs H Q _ => ∃ k : Nat, vs = [.int (k : Int)] ∧ k < 14 ∧ ∀ (v : V) (H' : Hp), Evl.Ex H H' → Odd K H H' v → Q v H'
theorem ok_odd (T : Txt K mg) (F : FnP K "_law_odd" s__law_odd f fd) : Fg P w K mg base CX0 1 f fd ["_law_kind"] (spOdd K) := by
  refine fg_of F sc__law_odd (fun vs H Q E h => ?_) (fun cdv A outer s H vs Q E hr h => ⟨_, (PSs.nox (pss_cons (ps_if (pt_cmpR op_lt (pv 0) pe_int (nomark _))
  (pss_one (ps_ret (pe_ix (u_ix (K := K)) (pe_lst (pa_cons pe_non (pa_cons pe_bl (pa_cons pe_bl (pa_cons pe_str (pa_cons pe_str (pa_cons pe_str (pa_cons pe_dnewK pa_nil)))))))) (pv 0) (fun _ _ => rfl)))) pss_nil)
  (pss_one (ps_ret (pe_ix (u_ix (K := K)) (pe_lst (pa_cons (pe_lst (pa_cons pe_non pa_nil)) (pa_cons (pe_lst (pa_cons pe_bl pa_nil)) (pa_cons (pe_lst (pa_cons pe_str pa_nil)) (pa_cons (pe_lst (pa_cons (pe_lst pa_nil) pa_nil)) (pa_cons (pe_lst (pa_cons pe_int pa_nil)) (pa_cons (pe_lst (pa_cons (pe_un un_neg pe_int) pa_nil)) (pa_cons (pe_callTy (call_dictP rfl) (by rfl) T.f_dict (by decide +kernel) (pa_cons (pe_lst (pa_cons (pe_tup (pa_cons pe_str (pa_cons pe_int pa_nil))) pa_nil)) pa_nil)) pa_nil)))))))) (pe_op op_sub (pv 0) pe_int) (fun _ _ => rfl)))))), ?_⟩)
  · obtain ⟨k, rfl, _⟩ := h
    rfl
  · obtain ⟨k, rfl, hk, q⟩ := h
    refine ⟨_, rfl, _, _, rfl, rfl, _, rfl, ?_⟩
    by_cases c : (k : Int) < 7
    · rw [decide_eq_true c]
      refine iteT (fun e ne => ⟨by show 7 ≤ sizeLine; decide, fun L nL => ⟨_, rfl, menu_v upd_same (by omega) (by show (k : Int) < 7; exact c) fun v hv => ?_⟩⟩)
      have y1 := Evl.Ex.new (o := .dK []) ne
      have y2 := Evl.Ex.new (o := .lst [V.non, .bl true, .bl false, .str "", .str "7", .str "ab", .ref e]) nL
      have he := y2 _ _ (upd_same (H := H) (a := e) (o := .dK []))
      refine q v _ (y1.trans y2) ?_
      simp only [List.mem_cons, List.not_mem_nil, or_false] at hv
      rcases hv with rfl | rfl | rfl | rfl | rfl | rfl | rfl
      · exact .flat .non .non (by decide +kernel) (fun _ _ => rfl) rfl
      · exact .flat (.bl true) (.bl true) (by decide +kernel) (fun _ _ => rfl) rfl
      · exact .flat (.bl false) (.bl false) (by decide +kernel) (fun _ _ => rfl) rfl
      · exact .flat (sh_s ⟨by decide +kernel, by decide +kernel⟩).1 (sh_s ⟨by decide +kernel, by decide +kernel⟩).2 (by decide +kernel) (fun _ _ => rfl) rfl
      · exact .flat (sh_s ⟨by decide +kernel, by decide +kernel⟩).1 (sh_s ⟨by decide +kernel, by decide +kernel⟩).2 (by decide +kernel) (fun _ _ => rfl) rfl
      · exact .flat (sh_s ⟨by decide +kernel, by decide +kernel⟩).1 (sh_s ⟨by decide +kernel, by decide +kernel⟩).2 (by decide +kernel) (fun _ _ => rfl) rfl
      · exact ⟨⟨.other, .dct he, rfl⟩, ⟨_, _, _, .dct he .nil, by decide, by decide +kernel⟩, fun _ _ => rfl, rfl, fun a z => by cases z; exact ne⟩
    · rw [decide_eq_false c]
      refine iteF ⟨by show 1 ≤ sizeLine; decide, fun a1 n1 => ⟨by show 1 ≤ sizeLine; decide, fun a2 n2 => ⟨by show 1 ≤ sizeLine; decide, fun a3 n3 => ⟨by show 0 ≤ sizeLine; decide, fun e0 n0 => ⟨by show 1 ≤ sizeLine; decide, fun a4 n4 => ⟨by show 1 ≤ sizeLine; decide, fun a5 n5 => ⟨_, rfl, by show 1 ≤ sizeLine; decide, fun a6 n6 => ⟨by show 2 ≤ sizeLine; decide, fun tp n7 => ⟨by show 1 ≤ sizeLine; decide, fun lp n8 => ?_⟩⟩⟩⟩⟩⟩⟩⟩⟩
      have y1 := Evl.Ex.new (o := .lst [V.non]) n1
      have y2 := Evl.Ex.new (o := .lst [V.bl true]) n2
      have y3 := Evl.Ex.new (o := .lst [V.str "7"]) n3
      have y0 := Evl.Ex.new (o := .lst []) n0
      have y4 := Evl.Ex.new (o := .lst [V.ref e0]) n4
      have y5 := Evl.Ex.new (o := .lst [V.int 256]) n5
      have y6 := Evl.Ex.new (o := .lst [V.int (-1)]) n6
      have y7 := Evl.Ex.new (o := .tup [V.str "a", .int 1]) n7
      have y8 := Evl.Ex.new (o := .lst [V.ref tp]) n8
      refine ⟨lp, [tp], [(.inr "a", .int 1)], rfl, SqL.of upd_same, .cons (SqT.of (y8 _ _ upd_same)) .nil, fun d n9 => ⟨by show 7 ≤ sizeLine; decide, fun L nL => ⟨_, rfl, _, _, rfl, rfl, menu_v upd_same (by omega) (by show (k : Int) - 7 < 7; omega) fun v hv => ?_⟩⟩⟩
      have y9 := Evl.Ex.new (o := .dK (mergeK [] [((.inr "a" : Key), V.int 1)])) n9
      have yL := Evl.Ex.new (o := .lst [V.ref a1, .ref a2, .ref a3, .ref a4, .ref a5, .ref a6, .ref d]) nL
      have w9 := y9.trans yL
      have w8 := y8.trans w9
      have w7 := y7.trans w8
      have w6 := y6.trans w7
      have w5 := y5.trans w6
      have w4 := y4.trans w5
      have w0 := y0.trans w4
      have w3 := y3.trans w0
      have w2 := y2.trans w3
      have W := y1.trans w2
      have f2 := Evl.fresh_back y1 n2
      have f3 := Evl.fresh_back (y1.trans y2) n3
      have b0 := (y1.trans y2).trans y3
      have f4 := Evl.fresh_back (b0.trans y0) n4
      have b4 := (b0.trans y0).trans y4
      have f5 := Evl.fresh_back b4 n5
      have f6 := Evl.fresh_back (b4.trans y5) n6
      have f9 := Evl.fresh_back ((((b4.trans y5).trans y6).trans y7).trans y8) n9
      have h1 := w2 _ _ (upd_same (H := H) (a := a1) (o := .lst [V.non]))
      have h2 := w3 _ _ (upd_same (H := _) (a := a2) (o := .lst [V.bl true]))
      have h3 := w0 _ _ (upd_same (H := _) (a := a3) (o := .lst [V.str "7"]))
      have h0 := w4 _ _ (upd_same (H := _) (a := e0) (o := .lst []))
      have h4 := w5 _ _ (upd_same (H := _) (a := a4) (o := .lst [V.ref e0]))
      have h5 := w6 _ _ (upd_same (H := _) (a := a5) (o := .lst [V.int 256]))
      have h6 := w7 _ _ (upd_same (H := _) (a := a6) (o := .lst [V.int (-1)]))
      have h9 := yL _ _ (upd_same (H := _) (a := d) (o := .dK (mergeK [] [((.inr "a" : Key), V.int 1)])))
      refine q v _ W ?_
      simp only [List.mem_cons, List.not_mem_nil, or_false] at hv
      rcases hv with rfl | rfl | rfl | rfl | rfl | rfl | rfl
      · exact .one h1 n1 .non .non (by decide +kernel) rfl
      · exact .one h2 f2 (.bl true) (.bl true) (by decide +kernel) rfl
      · exact .one h3 f3 (sh_s ⟨by decide +kernel, by decide +kernel⟩).1 (sh_s ⟨by decide +kernel, by decide +kernel⟩).2 (by decide +kernel) rfl
      · exact ⟨⟨.sq false [.ref e0], ⟨a4, rfl, Sv.lst h4, fun y hy => by
            have : y = .ref e0 := by simpa using hy
            subst this
            exact .seq (t := false) (Sv.lst h0), by show 1 ≤ 2000; decide⟩, rfl⟩,
          ⟨listText ["[]"], [a4], 1, .lst h4 (fun z => by cases z) (.cons (.lst0 h0) (fun _ z => by cases z) (Nat.le_refl 0) .nil) (fun z => by cases z), by decide, by decide +kernel⟩, fun _ _ => rfl, rfl, fun b z => by cases z; exact f4⟩
      · exact .one h5 f5 (.int 256 (by decide +kernel)) (.int 256 (by decide +kernel)) (by decide +kernel) rfl
      · exact .one h6 f6 (.int (-1) (by decide +kernel)) (.int (-1) (by decide +kernel)) (by decide +kernel) rfl
      · exact ⟨⟨.other, .dct h9, rfl⟩, ⟨dictText [reprText "a" ++ ": " ++ toString (1 : Int)], [d], 1, .dct h9 (.cons ⟨_, _, .str "a" (by decide +kernel), .int 1 (by decide +kernel), rfl⟩ .nil), by decide, by decide +kernel⟩, fun _ _ => rfl, rfl, fun a z => by cases z; exact f9⟩
end
end K2
/-! what is shown stays when the heap grows, and when a list of it grows -/
namespace VB
open PySem PySem.Spec PyProof.Rows L2
mutual
theorem Shw.ex {H H' : Hp} (e : Evl.Ex H H') : ∀ {y : V} {t : Str} {bs : List Addr} {d : Nat}, Shw H y t bs d → Shw H' y t bs d
  | _, _, _, _, .flat x => .flat x
  | _, _, _, _, .dct h p => .dct (e _ _ h) p
  | _, _, _, _, .lst0 h => .lst0 (e _ _ h)
  | _, _, _, _, .lst h n s m => .lst (e _ _ h) n (ShwAll.ex e s) m
  | _, _, _, _, .tup h s m => .tup (e _ _ h) (ShwAll.ex e s) m
theorem ShwAll.ex {H H' : Hp} (e : Evl.Ex H H') : ∀ {ys : List V} {ts : List Str} {bs : List Addr} {d : Nat}, ShwAll H ys ts bs d → ShwAll H' ys ts bs d
  | _, _, _, _, .nil => .nil
  | _, _, _, _, .cons s b l t => .cons (Shw.ex e s) b l (ShwAll.ex e t)
end
mutual
theorem Shw.mut {H : Hp} {a : Addr} {o u : HO} (ha : H a = some o) (n0 : o ≠ .lst []) : ∀ {y : V} {t : Str} {bs : List Addr} {d : Nat}, Shw H y t bs d → a ∉ bs → Shw (upd H a u) y t bs d
  | _, _, _, _, .flat x, _ => .flat x
  | _, _, _, _, .dct h p, m => .dct (by rw [upd_ne (fun z => m (by simp [z]))]; exact h) p
  | _, _, _, _, .lst0 h, m => .lst0 (by rw [upd_ne (fun z => by rw [z, ha] at h; exact n0 (Option.some.inj h))]; exact h)
  | _, _, _, _, .lst h n s k, m => .lst (by rw [upd_ne (fun z => m (by simp [z]))]; exact h) n (ShwAll.mut ha n0 s (fun z => m (by simp [z]))) k
  | _, _, _, _, .tup h s k, m => .tup (by rw [upd_ne (fun z => m (by simp [z]))]; exact h) (ShwAll.mut ha n0 s (fun z => m (by simp [z]))) k
theorem ShwAll.mut {H : Hp} {a : Addr} {o u : HO} (ha : H a = some o) (n0 : o ≠ .lst []) : ∀ {ys : List V} {ts : List Str} {bs : List Addr} {d : Nat}, ShwAll H ys ts bs d → a ∉ bs → ShwAll (upd H a u) ys ts bs d
  | _, _, _, _, .nil, _ => .nil
  | _, _, _, _, .cons s b l t, m => .cons (Shw.mut ha n0 s (fun z => m (b _ z))) b l (ShwAll.mut ha n0 t m)
end
theorem ShwAll.app {H : Hp} {bs : List Addr} {d : Nat} : ∀ {xs ys : List V} {ts us : List Str}, ShwAll H xs ts bs d → ShwAll H ys us bs d → ShwAll H (xs ++ ys) (ts ++ us) bs d
  | _, _, _, _, .nil, h => h
  | _, _, _, _, .cons s b l t, h => .cons s b l (ShwAll.app t h)
theorem ShwAll.flat {H : Hp} {bs : List Addr} {d : Nat} : ∀ {xs : List V} {ts : List Str}, Paired Tx xs ts → ShwAll H xs ts bs d
  | _, _, .nil => .nil
  | _, _, .cons s t => .cons (.flat s) (fun _ z => nomatch z) (Nat.zero_le _) (ShwAll.flat t)
abbrev txI (i : Int) : Str := toString i
theorem ShwAll.iv {H : Hp} {bs : List Addr} {d : Nat} : ∀ {xs : List Int}, (∀ x ∈ xs, x.natAbs < 10 ^ 4300) → ShwAll H (IV xs) (xs.map txI) bs d
  | [], _ => .nil
  | x :: xs, h => .cons (.flat (.int x (h x (List.mem_cons_self ..)))) (fun _ z => nomatch z) (Nat.zero_le _) (ShwAll.iv fun y hy => h y (List.mem_cons_of_mem _ hy))
theorem lt_len (t : Str) (ts : List Str) : (listText (t :: ts)).length = piled (t :: ts) := by
  have h := textFrom_length_pos ts 1 (("[" : Str) ++ (if (0 : Nat) > 0 then ", " else "" : String) ++ t) (Nat.succ_pos 0)
  have hY : (textFrom 0 "[" (t :: ts)).length = (textFrom 1 (("[" : Str) ++ (if (0 : Nat) > 0 then ", " else "" : String) ++ t) ts).length := rfl
  show (textFrom 0 "[" (t :: ts) ++ "]").length = _
  have e : (("[" : Str) ++ (if (0 : Nat) > 0 then ", " else "" : String) ++ t).length = 1 + t.length := by
    rw [strLen_append, strLen_append]
    rfl
  rw [strLen_append, hY, h, e, piled_cons]
  show 1 + t.length + piled ts + 1 = _
  omega
theorem listText_len {ts : List Str} (h : ts ≠ []) : (listText ts).length = piled ts := by
  cases ts with
  | nil => exact absurd rfl h
  | cons t ts => exact lt_len t ts
theorem listText_le {b : Nat} (ts : List Str) (h : ∀ t ∈ ts, t.length ≤ b) : (listText ts).length ≤ (b + 2) * ts.length + 2 := by
  have := piled_le ts h
  by_cases z : ts = []
  · subst z
    show 2 ≤ _
    omega
  · rw [listText_len z]
    omega
theorem Shw.grow {H : Hp} {a : Addr} {ys : List V} {t : Str} {bs : List Addr} {d : Nat} (h : Shw H (.ref a) t bs d) (ha : H a = some (.lst ys)) {x : V} {u : Str} (hx : Tx x u) :
    ∃ t' bs' d', Shw (upd H a (.lst (ys ++ [x]))) (.ref a) t' bs' d' ∧ d' ≤ d + 1 ∧ t'.length ≤ t.length + u.length + 2 := by
  cases h with
  | flat tx => cases tx
  | dct hb => rw [ha] at hb; cases hb
  | tup hb => rw [ha] at hb; cases hb
  | lst0 hb =>
    rw [ha] at hb
    cases hb
    refine ⟨listText [u], [a], 1, .lst upd_same (by simp) (.cons (.flat hx) (fun _ z => by cases z) (Nat.le_refl 0) .nil) (fun z => by cases z), by omega, ?_⟩
    have := listText_le (b := u.length) [u] (by simp)
    simp only [List.length_cons, List.length_nil] at this
    have l2 : ("[]" : Str).length = 2 := by decide
    omega
  | @lst _ zs ts bs d hb n s m =>
    rw [ha] at hb
    cases hb
    refine ⟨listText (ts ++ [u]), a :: bs, d + 1, .lst upd_same (by simp) (ShwAll.app (ShwAll.mut ha (fun z => n (HO.lst.inj z)) s m) (.cons (.flat hx) (fun _ z => by cases z) (Nat.zero_le _) .nil)) m, by omega, ?_⟩
    have ne : ts ++ [u] ≠ [] := by simp
    rw [listText_len ne, piled_append, piled_cons, piled_nil]
    by_cases z : ts = []
    · subst z
      show 0 + _ ≤ _
      omega
    · rw [listText_len z]
      omega
end VB
namespace VB
open PySem PySem.Spec PyProof.Rows L2
theorem sum_le {b : Nat} : ∀ ts : List Str, (∀ t ∈ ts, t.length ≤ b) → (ts.map (·.length)).sum ≤ b * ts.length
  | [], _ => Nat.zero_le _
  | t :: ts, h => by
    have a := h t (List.mem_cons_self ..)
    have c := sum_le ts fun u hu => h u (List.mem_cons_of_mem _ hu)
    rw [List.map_cons, List.sum_cons, List.length_cons, Nat.mul_succ]
    omega
theorem tupleText_le {b : Nat} (ts : List Str) (h : ∀ t ∈ ts, t.length ≤ b) : (tupleText ts).length ≤ (b + 2) * ts.length + 3 := by
  have := tupleText_len_le ts
  have s := sum_le ts h
  rw [Nat.add_mul]
  omega
theorem Sv.mut {K : PySem.W.Frag} {H : Hp} {a b : Addr} {u : HO} {t : Bool} {xs : List V} (S : Sv t K H b xs) (n : b ≠ a) : Sv t K (upd H a u) b xs := by
  cases t with
  | false =>
    rcases S with (h | ⟨o, h⟩) | h
    · exact .inl (.inl (by rw [upd_ne n]; exact h))
    · exact .inl (.inr ⟨o, by rw [upd_ne n]; exact h⟩)
    · exact .inr h
  | true =>
    rcases S with (h | ⟨o, h⟩) | h
    · exact .inl (.inl (by rw [upd_ne n]; exact h))
    · exact .inl (.inr ⟨o, by rw [upd_ne n]; exact h⟩)
    · exact .inr h
end VB
namespace K2
open PySem PySem.Spec PyProof.Rows L2 VB BM
abbrev g1 : List Value → List Value → List Value := fun _ ws => [ws.getD 0 .none]
abbrev g1V : List V → List V → List V := fun _ ws => [ws.getD 0 .non]
abbrev g21 : List Value → List Value → List Value := fun _ ws => [ws.getD 1 .none, ws.getD 0 .none]
abbrev g21V : List V → List V → List V := fun _ ws => [ws.getD 1 .non, ws.getD 0 .non]
theorem iv_inj {xs ys : List Int} (h : IV xs = IV ys) : xs = ys := by
  have := congrArg (List.map fun v => match v with | V.int i => i | _ => 0) h
  simpa [List.map_map, Function.comp_def] using this
theorem oct_fl {o : Int} (h : 0 ≤ o ∧ o ≤ 255) : Fl (.int o) := .int o (Nat.lt_of_le_of_lt (m := 255) (by omega) (by decide +kernel))
theorem octs_t {t : Bool} {os : List Int} (oo : Oct os) : (Dn.sq t (IV os)).octs = true := by
  show (IV os).all (fun x => isIx x 0 255) = true
  rw [List.all_eq_true]
  intro x hx
  obtain ⟨i, hi, rfl⟩ := List.mem_map.mp hx
  exact isIx_int (oo i hi).1 (oo i hi).2
theorem at_oct {K : PySem.W.Frag} {H : Hp} {a : Addr} {t : Bool} {os : List Int} (S : Sv t K H a (IV os)) (oo : Oct os) (l : os.length ≤ 2000) : At K H (.ref a) (.sq t (IV os)) :=
  ⟨a, rfl, S, fun x hx => by
    obtain ⟨i, hi, rfl⟩ := List.mem_map.mp hx
    exact .flat (oct_fl (oo i hi)), by rw [iv_len]; exact l⟩
theorem octO_snoc (n c : Nat) : octO n (c + 1) = octO (n / 256) c ++ [((n % 256 : Nat) : Int)] := by
  refine List.ext_getElem? fun i => ?_
  by_cases h : i < c
  · rw [List.getElem?_append_left (by rw [octO_len]; exact h), octO_at (by omega), octO_at h, Nat.div_div_eq_div_mul]
    have e : 256 * 2 ^ (8 * (c - 1 - i)) = 2 ^ (8 * (c + 1 - 1 - i)) := by
      rw [show c + 1 - 1 - i = (c - 1 - i) + 1 by omega, Nat.mul_add, Nat.pow_add, Nat.mul_comm]
    rw [e]
  · by_cases h2 : i = c
    · subst h2
      rw [octO_at (by omega), List.getElem?_append_right (by rw [octO_len]; omega), octO_len]
      simp
    · rw [List.getElem?_eq_none (by rw [octO_len]; omega), List.getElem?_eq_none (by rw [List.length_append, octO_len]; simp; omega)]
/-- there and back -/
theorem octO_num : ∀ (n : Nat) (os : List Int), os.length = n → Oct os → octO (numO os).toNat n = os
  | 0, [], _, _ => rfl
  | 0, _ :: _, h, _ => by cases h
  | n + 1, os, h, oo => by
    obtain ⟨ys, y, rfl⟩ : ∃ ys y, os = ys ++ [y] := by
      have := List.dropLast_concat_getLast (l := os) (by intro z; rw [z] at h; cases h)
      exact ⟨_, _, this.symm⟩
    rw [List.length_append] at h
    have hl : ys.length = n := by simpa using h
    have oy : Oct ys := fun z hz => oo z (List.mem_append_left _ hz)
    have b := oo y (List.mem_append_right _ (by simp))
    have b2 := (numO_bound n ys hl oy).1
    have e : numO (ys ++ [y]) = numO ys * 256 + y := numO_snoc ys y
    rw [e, octO_snoc]
    have e1 : (numO ys * 256 + y).toNat / 256 = (numO ys).toNat := by omega
    have e2 : (((numO ys * 256 + y).toNat % 256 : Nat) : Int) = y := by omega
    rw [e1, e2, octO_num n ys hl oy]
theorem numO_zeros (n : Nat) (os : List Int) : numO (List.replicate n 0 ++ os) = numO os := by
  induction n with
  | zero => rfl
  | succ n ih =>
    rw [List.replicate_succ]
    exact ih
theorem oct_sm {os : List Int} (oo : Oct os) : Sm os := fun n hn => ⟨(oo n hn).1, by have := (oo n hn).2; omega⟩
theorem Exb.mutn {b a : Addr} {H H' : Hp} {o : HO} (e : Exb b H H') (h : H a = none) : Exb b H (upd H' a o) := fun x u n hx => by
  have : x ≠ a := fun z => by rw [z, h] at hx; cases hx
  rw [upd_ne this]
  exact e x u n hx
/-- number_in of octets -/
theorem num_iv {K : PySem.W.Frag} {H : Hp} {a : Addr} {t : Bool} {os : List Int} {Q : VK} {E : XK} (S : Sv t K H a (IV os)) (oo : Oct os) (l : os.length ≤ 2000) (q : RV (.int (numO os)) H Q) : spNumIn K [.ref a] H Q E :=
  ⟨_, _, rfl, at_oct S oo l, fun o => (by rw [octs_t oo] at o; cases o), fun t' os' e _ => by
    have e' : IV os = IV os' := by injection e
    rw [← iv_inj e']
    exact q⟩
theorem pow_le_1300 {n : Nat} {x : Int} (h0 : 0 ≤ x) (hn : n ≤ 40) (h : x < 256 ^ n) : x.natAbs < 10 ^ 1300 := by
  have p : (256 : Nat) ^ n ≤ 256 ^ 40 := Nat.pow_le_pow_right (by decide) hn
  have p2 : (256 : Nat) ^ 40 < 10 ^ 1300 := by decide +kernel
  have e : ((x.natAbs : Nat) : Int) = x := by omega
  have h2 : ((x.natAbs : Nat) : Int) < ((256 ^ n : Nat) : Int) := by rw [e]; exact_mod_cast h
  have h3 : x.natAbs < 256 ^ n := by exact_mod_cast h2
  exact Nat.lt_trans (Nat.lt_of_lt_of_le h3 p) p2
theorem in_iv {K : PySem.W.Frag} {H : Hp} {n : Nat} {os : List Int} {Q : VK} {E : XK} (lo : os.length = n) (oo : Oct os) (hn : n ≤ 8) (q : RT (IV os) H Q) : spIn K [.int (numO os), .int (n : Int)] H Q E := by
  have b := numO_bound n os lo oo
  have e : numO os = ((numO os).toNat : Int) := by omega
  have lt : (numO os).toNat < 2 ^ (8 * n) := by
    have z : ((numO os).toNat : Int) < ((256 ^ n : Nat) : Int) := by
      rw [← e]
      exact_mod_cast b.2
    have z2 : (numO os).toNat < 256 ^ n := by exact_mod_cast z
    rw [Nat.pow_mul]
    exact z2
  refine ⟨_, _, rfl, .flat (.int _ (pow_le_1300 (n := n) b.1 (by omega) b.2)), .flat (.int _ (Nat.lt_of_le_of_lt (m := 255) (by omega) (by decide +kernel))), fun z => ?_, fun _ z => ?_, fun c n' e1 e2 c8 l => ?_⟩
  · rw [isIx_int (by omega) (by omega)] at z
    cases z
  · have := z n (numO os).toNat rfl (by rw [← e])
    omega
  · have e1 := V.int.inj e1
    have e2 := V.int.inj e2
    obtain rfl : n = c := by omega
    obtain rfl : (numO os).toNat = n' := by omega
    rw [octO_num n os lo oo]
    exact q
theorem asg_via {te : TE} {tg : TG} {rest : TS} {D : Ends} {σ : L2.St} {H : Hp} {R : V → Hp → Prop} (h : ∀ Q' : VK, (∀ v H', R v H' → Q' v H') → te σ H Q') (q : ∀ v H', R v H' → tg v σ H' fun σ' H' => rest D σ' H') : tSeq (tAsg te tg) rest D σ H := h _ q
section
variable {P : Program} {w : World} {K : PySem.W.Frag} {mg : Str → Option Value} {base : Heap} {f : Addr} {fd : FuncData}
def spNR : Sp := fun vs H Q _ => ∃ (bx : Addr) (c : Int), vs = [.ref bx] ∧ Box H bx c ∧ c < 50000000 ∧ ∀ H', Exb bx H H' → Box H' bx (c + 200) → Q (.bl true) H'
theorem ok_numbers_right (T : Txt K mg) (F : FnP K "_law_numbers_right" s__law_numbers_right f fd) (C__law_take : Cal P w K mg base CX0 1 "_law_take" ["_law_box_here", "_law_many"] spTake) (C__law_octets : Cal P w K mg base CX0 2 "_law_octets" ["_law_box_here", "_law_size"] spOcts) (C__law_sum : Cal P w K mg base CX0 1 "_law_sum" ["_law_octets_here"] (spNum K)) (C__law_is : Cal P w K mg base CX0 1 "_law_is" ["_law_value", "_law_due"] (spIs K))
    (C_number_in : Cal P w K mg base (CX P w) 5 "number_in" ["octets"] (spNumIn K)) (CK_number_in_0_octets : CalK P w K mg base (CX P w) 5 "number_in" ["octets"] 0 ["octets"] g1 g1V (spNumIn K))
    (C_in_octets : Cal P w K mg base (CX P w) 4 "in_octets" ["number", "count"] (spIn K)) (CK_in_octets_0_count_number : CalK P w K mg base (CX P w) 4 "in_octets" ["number", "count"] 0 ["count", "number"] g21 g21V (spIn K)) : Fg P w K mg base CX0 6 f fd ["_law_box_here"] spNR := by
  refine fg_of F sc__law_numbers_right (fun vs H Q E h => ?_) (fun cdv A outer s H vs Q E hr h => ⟨_, (PSs.nox (pss_cons (ps_set (i := 1) sc__law_numbers_right.nd rfl (by first | exact Or.inl rfl | exact Or.inr rfl) (pe_ix (u_ix (K := K)) (pe_lst (pa_cons pe_int (pa_cons pe_int (pa_cons pe_int (pa_cons pe_int (pa_cons pe_int (pa_cons pe_int (pa_cons pe_int (pa_cons pe_int pa_nil))))))))) (pe_cal C__law_take hr.le pass0 (pa_cons (pv 0) (pa_cons pe_int pa_nil))) (fun _ _ => rfl)))
  (pss_cons (ps_set (i := 2) sc__law_numbers_right.nd rfl (by first | exact Or.inl rfl | exact Or.inr rfl) (pe_cal C__law_octets hr.le pass0 (pa_cons (pv 0) (pa_cons (pv 1) pa_nil))))
  (pss_cons (ps_set (i := 3) sc__law_numbers_right.nd rfl (by first | exact Or.inl rfl | exact Or.inr rfl) (pe_callTy (u_listI (K := K)) (by rfl) T.f_list (by decide +kernel) (pa_cons (pv 2) pa_nil)))
  (pss_cons (ps_set (i := 4) sc__law_numbers_right.nd rfl (by first | exact Or.inl rfl | exact Or.inr rfl) (pe_cal C__law_sum hr.le pass0 (pa_cons (pv 2) pa_nil)))
  (pss_cons (ps_for PassesOwn.never rfl (pi_range1 rfl T.f_range (pa_cons pe_int pa_nil)) (pg_name (i := 5) sc__law_numbers_right.nd rfl (by first | exact Or.inl rfl | exact Or.inr rfl))
  (pss_cons (ps_if (PW.pt (pw_or (pt_not (pt_tru (K := K) (pe_cal C__law_is hr.le pass0 (pa_cons (pe_cal C_number_in hr.le (passes_call takes_no (fun _ _ _ _ h => h)) (pa_cons (pv 3) pa_nil)) (pa_cons (pv 4) pa_nil))) (by intro _; rfl))) (pw_or1 (pt_not (pt_tru (K := K) (pe_cal C__law_is hr.le pass0 (pa_cons (pe_calk CK_number_in_0_octets hr.le (passes_call takes_no (fun _ _ _ _ h => h)) (pk_cons (pe_callTy (u_tupI (K := K)) (by rfl) T.f_tuple (by decide +kernel) (pa_cons (pv 2) pa_nil)) pk_nil)) (pa_cons (pv 4) pa_nil))) (by intro _; rfl))))))
  (pss_one (ps_ret pe_bl)) pss_nil)
  (pss_one (ps_if (pt_cmpR op_lt (pv 1) pe_int (nomark _))
  (pss_cons (ps_set (i := 6) sc__law_numbers_right.nd rfl (by first | exact Or.inl rfl | exact Or.inr rfl) (pe_ifExp (pt_cmpR (u_eq (K := K) hr) (pv 5) pe_int (nomark _)) (pe_cal C_in_octets hr.le (passes_call takes_no (fun _ _ _ _ h => h)) (pa_cons (pv 4) (pa_cons (pv 1) pa_nil))) (pe_calk CK_in_octets_0_count_number hr.le (passes_call takes_no (fun _ _ _ _ h => h)) (pk_cons (pv 1) (pk_cons (pv 4) pk_nil)))))
  (pss_one (ps_if (PW.pt (pw_or (pt_cmpR (u_ne (K := K) hr) (pe_callB (u_repr (K := K) hr) (by rfl) T.f_repr (by decide +kernel) (pa_cons (pv 6) pa_nil)) (pe_callB (u_repr (K := K) hr) (by rfl) T.f_repr (by decide +kernel) (pa_cons (pe_callTy (u_tupI (K := K)) (by rfl) T.f_tuple (by decide +kernel) (pa_cons (pv 2) pa_nil)) pa_nil)) (nomark _)) (pw_or1 (pt_not (pt_tru (K := K) (pe_cal C__law_is hr.le pass0 (pa_cons (pe_cal C_number_in hr.le (passes_call takes_no (fun _ _ _ _ h => h)) (pa_cons (pv 6) pa_nil)) (pa_cons (pv 4) pa_nil))) (by intro _; rfl))))))
  (pss_one (ps_ret pe_bl)) pss_nil))) pss_nil))))
  (pss_cons (ps_if (PW.pt (pw_or (pt_cmpR (u_ne (K := K) hr) (pv 3) (pv 2) (nomark _)) (pw_or1 (pt_not (pt_tru (K := K) (pe_cal C__law_is hr.le pass0 (pa_cons (pe_cal C_number_in hr.le (passes_call takes_no (fun _ _ _ _ h => h)) (pa_cons (pe_op (u_add (K := K)) (pe_op (u_mul (K := K)) (pe_lst (pa_cons pe_int pa_nil)) pe_int) (pv 2)) pa_nil)) (pa_cons (pv 4) pa_nil))) (by intro _; rfl))))))
  (pss_one (ps_ret pe_bl)) pss_nil)
  (pss_cons (ps_expr (pe_bm PySem.F.plainAttrs_list PySem.F.slot_list_append PySem.F.type_list_append mt_append (pv 3) (pa_cons pe_int pa_nil)))
  (pss_one (ps_ret (pe_and (pe_cal C__law_is hr.le pass0 (pa_cons (pe_cal C_number_in hr.le (passes_call takes_no (fun _ _ _ _ h => h)) (pa_cons (pv 3) pa_nil)) (pa_cons (pe_op (u_add (K := K)) (pe_op (u_mul (K := K)) (pv 4) pe_int) pe_int) pa_nil))) (pe_one (pe_cal C__law_is hr.le pass0 (pa_cons (pe_cal C_number_in hr.le (passes_call takes_no (fun _ _ _ _ h => h)) (pa_cons (pe_op (u_add (K := K)) (pe_lst (pa_cons pe_int pa_nil)) (pv 3)) pa_nil)) (pa_cons (pe_op (u_add (K := K)) (pe_op (u_mul (K := K)) (pv 4) pe_int) pe_int) pa_nil))))))))))))))), ?_⟩)
  · obtain ⟨bx, c, rfl, _⟩ := h
    rfl
  · obtain ⟨bx, c, rfl, B, hc, q⟩ := h
    refine ⟨by show 8 ≤ sizeLine; decide, fun l0 nl0 => ⟨_, rfl, bx, 8, c, rfl, B.ex (Evl.Ex.new nl0), by omega, by omega, by omega, fun r H1 r0 r1 e1 B1 => menu_i (e1 _ _ (B.at nl0) (upd_same (H := H) (a := l0) (o := .lst (IV [0, 1, 2, 4, 8, 8, 12, 40])))) r0 r1 fun sz hsz => ?_⟩⟩
    have E1 := (Exb.of (Evl.Ex.new (o := .lst (IV [0, 1, 2, 4, 8, 8, 12, 40])) nl0)).trans e1
    obtain ⟨n, rfl, n40⟩ : ∃ n : Nat, sz = (n : Int) ∧ n ≤ 40 := by
      simp only [List.mem_cons, List.not_mem_nil, or_false] at hsz
      exact ⟨sz.toNat, by omega, by omega⟩
    refine ⟨_, rfl, _, rfl, bx, _, n, rfl, B1, by omega, n40, fun os p H2 oo lo np pb e2 B2 hp => ?_⟩
    have E2 := E1.trans e2
    refine ⟨_, rfl, Sv.listOf (Sv.lst (K := K) hp) fun hd nh => ?_⟩
    have y3 := Evl.Ex.new (o := .lst (IV os)) nh
    have hp3 := y3 _ _ hp
    have B3 := B2.ex y3
    have hh3 : upd H2 hd (.lst (IV os)) hd = some (.lst (IV os)) := upd_same
    have E3 := E2.trans (Exb.of y3)
    have hdb := B2.at nh
    have nhH : H hd = none := efresh E2 nh hdb
    obtain ⟨H3, e3⟩ : ∃ X, X = upd H2 hd (.lst (IV os)) := ⟨_, rfl⟩
    rw [← e3] at hp3 B3 hh3 E3 ⊢
    refine ⟨_, rfl, p, os, false, rfl, Sv.lst hp3, oo, by omega, fun H4 e4 => ?_⟩
    have b0 := numO_bound n os lo oo
    have lt0 := pow_lt (i := n) (by omega) lo oo
    refine ⟨(2 : Int), rfl, by decide, by decide, ?_⟩
    refine for_range (lo := 0) (n := 2) (fun i σ H' => Evl.Ex H3 H' ∧ ∃ v5 v6 : Option V, σ = [some (.ref bx), some (.int (n : Int)), some (.ref p), some (.ref hd), some (.int (numO os)), v5, v6]) ⟨e4, none, none, rfl⟩ ?_ ?_
    · rintro i σ H5 hi ⟨e5, v5, v6, rfl⟩
      refine ⟨_, rfl, num_iv (Sv.lst (e5 _ _ hh3)) oo (by omega) fun H6 e6 => ⟨_, rfl, _, _, true, rfl, decide_eq_true rfl, true, rfl, iteF ?_⟩⟩
      have E6 := e5.trans e6
      refine ⟨_, rfl, Sv.tupOf (Sv.lst (E6 _ _ hp3)) fun p2 H7 e7 T7 => ⟨rfl, rfl, num_iv (t := true) T7 oo (by omega) fun H8 e8 => ⟨_, rfl, _, _, true, rfl, decide_eq_true rfl, true, rfl, iteF ?_⟩⟩⟩
      have E8 := (E6.trans e7).trans e8
      refine ⟨_, rfl, _, _, rfl, rfl, _, rfl, ?_⟩
      by_cases sm : (n : Int) < 9
      · rw [decide_eq_true sm]
        refine iteT ?_
        have n8 : n ≤ 8 := by omega
        refine asg_via (R := fun v H' => ∃ tp, v = .ref tp ∧ Evl.Ex H8 H' ∧ H' tp = some (.tup (IV os))) (fun Q' q' => ?_) ?_
        · have fin : RT (IV os) H8 Q' := fun l H' _ e9 h9 => q' _ _ ⟨l, rfl, e9, h9⟩
          refine ⟨_, rfl, .inl ⟨rfl, _, rfl, ?_⟩⟩
          by_cases z : i = 0
          · subst z
            exact iteT ⟨_, rfl, _, rfl, in_iv lo oo n8 fin⟩
          · rw [decide_eq_false (show ¬ V.int (0 + (i : Int)) = V.int 0 from fun h => z (by have := V.int.inj h; omega))]
            exact iteF ⟨_, rfl, _, rfl, rfl, rfl, in_iv lo oo n8 fin⟩
        · rintro v H9 ⟨tp, rfl, e9, h9⟩
          have E9 := E8.trans e9
          have S9 : SqT K H9 tp (IV os) := SqT.of h9
          refine ⟨_, rfl, rp_t S9 (oct_sm oo) (by omega) ⟨_, rfl, Sv.tupOf (Sv.lst (E9 _ _ hp3)) fun p3 H10 e10 T10 => rp_t T10 (oct_sm oo) (by omega) (.inl ⟨rfl, _, rfl, same_ne ?_⟩)⟩⟩
          refine ⟨_, rfl, num_iv (t := true) (Evl.ex_t e10 S9) oo (by omega) fun H11 e11 => ⟨_, rfl, _, _, true, rfl, decide_eq_true rfl, true, rfl, iteF ?_⟩⟩
          exact ⟨(E9.trans e10).trans e11, _, _, rfl⟩
      · rw [decide_eq_false sm]
        exact iteF ⟨E8, _, _, rfl⟩
    · rintro σ H5 ⟨e5, v5, v6, rfl⟩
      refine ⟨_, rfl, _, rfl, .inr (rne_l (SqL.of (e5 _ _ hh3)) (SqL.of (e5 _ _ hp3)) ?_)⟩
      rw [decide_eq_true rfl]
      refine ⟨_, rfl, iteF ⟨by show 1 ≤ sizeLine; decide, fun z1 nz1 => ?_⟩⟩
      have y6 := Evl.Ex.new (o := .lst [V.int 0]) nz1
      refine .inr (.inl ⟨z1, 1500, _, rfl, rfl, upd_same, by decide, by decide, by decide, fun z2 nz2 => ?_⟩)
      have y7 := Evl.Ex.new (o := .lst (List.replicate 1500 [V.int 0]).flatten) nz2
      have E7 := (e5.trans y6).trans y7
      have hz2 : upd (upd H5 z1 (.lst [V.int 0])) z2 (.lst (List.replicate 1500 [V.int 0]).flatten) z2 = some (.lst (IV (List.replicate 1500 0))) := by rw [upd_same, rep_flat]
      refine ⟨_, rfl, .inr (.inl ⟨z2, p, _, _, rfl, rfl, hz2, E7 _ _ hp3, by rw [iv_len, iv_len, List.length_replicate]; exact Evl.sz_of (by omega), fun z3 nz3 => ?_⟩)⟩
      have y8 := Evl.Ex.new (o := .lst (IV (List.replicate 1500 0) ++ IV os)) nz3
      have oz : Oct (List.replicate 1500 0 ++ os) := fun o ho => by
        rcases List.mem_append.mp ho with h | h
        · have := List.eq_of_mem_replicate h
          omega
        · exact oo o h
      have hz3 := upd_same (H := upd (upd H5 z1 (.lst [V.int 0])) z2 (.lst (List.replicate 1500 [V.int 0]).flatten)) (a := z3) (o := .lst (IV (List.replicate 1500 0) ++ IV os))
      have E8 := E7.trans y8
      have hz3' : _ = some (HO.lst (IV (List.replicate 1500 0 ++ os))) := hz3.trans (by rw [← List.map_append])
      refine num_iv (Sv.lst hz3') oz (by rw [List.length_append, List.length_replicate]; omega) fun H9 e9 => ⟨_, rfl, _, _, true, rfl, decide_eq_true (numO_zeros 1500 os), true, rfl, iteF ?_⟩
      have E9 := E8.trans e9
      refine ⟨_, rfl, .inl ⟨rfl, _, SqL.of (E9 _ _ hh3)⟩, hd, _, _, rfl, rfl, E9 _ _ hh3, by rw [iv_len]; exact Evl.sz_lt (by omega), ?_⟩
      have E10 := Exb.mutn (o := .lst (IV os ++ [V.int 1])) (E3.trans (Exb.of E9)) nhH
      have B10 := bmut (o := .lst (IV os ++ [V.int 1])) (B3.ex E9) hdb
      have h10 : upd H9 hd (.lst (IV os ++ [V.int 1])) hd = some (.lst (IV (os ++ [1]))) := by rw [upd_same, iv_snoc]
      generalize upd H9 hd (.lst (IV os ++ [V.int 1])) = H10 at E10 B10 h10 ⊢
      have o1 : Oct (os ++ [1]) := fun o ho => by
        rcases List.mem_append.mp ho with h | h
        · exact oo o h
        · have : o = 1 := by simpa using h
          omega
      have n1 : numO (os ++ [1]) = numO os * 256 + 1 := numO_snoc os 1
      have km : CMulX (numO os) 256 := mulx_ok (a := 16000) (b := 20) lt0 (by decide) (by decide)
      refine ⟨_, rfl, num_iv (Sv.lst h10) o1 (by rw [List.length_append]; show _ + 1 ≤ 2000; omega) fun H11 e11 => ⟨_, rfl, .inl ⟨_, _, rfl, rfl, km, .inl ⟨_, _, rfl, rfl, _, _, true, rfl, decide_eq_true n1, true, rfl, iteT ?_⟩⟩⟩⟩
      refine ⟨by show 1 ≤ sizeLine; decide, fun z4 nz4 => ⟨_, rfl, .inr (.inl ⟨z4, hd, _, _, rfl, rfl, upd_same, (Evl.Ex.new nz4) _ _ (e11 _ _ h10), by rw [iv_len, List.length_append]; exact Evl.sz_of (by show 1 + (_ + 1) ≤ 100000; omega), fun z5 nz5 => ?_⟩)⟩⟩
      have y12 := e11.trans ((Evl.Ex.new (o := .lst [V.int 0]) nz4).trans (Evl.Ex.new (o := .lst ([V.int 0] ++ IV (os ++ [1]))) nz5))
      have hz5 := upd_same (H := upd H11 z4 (.lst [V.int 0])) (a := z5) (o := .lst ([V.int 0] ++ IV (os ++ [1])))
      generalize upd (upd H11 z4 (.lst [V.int 0])) z5 (.lst ([V.int 0] ++ IV (os ++ [1]))) = H12 at y12 hz5 ⊢
      have hz5' : H12 z5 = some (.lst (IV (0 :: (os ++ [1])))) := hz5
      have o2 : Oct (0 :: (os ++ [1])) := fun o ho => by
        rcases List.mem_cons.mp ho with h | h
        · omega
        · exact o1 o h
      have n2 : numO (0 :: (os ++ [1])) = numO os * 256 + 1 := (numO_zeros 1 (os ++ [1])).trans n1
      refine num_iv (Sv.lst hz5') o2 (by rw [List.length_cons, List.length_append]; show _ + 1 + 1 ≤ 2000; omega) fun H13 e13 => ⟨_, rfl, .inl ⟨_, _, rfl, rfl, km, .inl ⟨_, _, rfl, rfl, _, _, true, rfl, decide_eq_true n2, ?_⟩⟩⟩
      exact q _ ((E10.trans (Exb.of y12)).trans (Exb.of e13)) (((B10.ex y12).ex e13).le (by omega))
end
end K2
namespace K2
open PySem PySem.Spec PyProof.Rows L2 VB BM
/-- a value that is no list of octets, its repr told -/
structure Bad (K : PySem.W.Frag) (H0 H : Hp) (v : V) : Prop where
  at_ : ∃ d : Dn, At K H v d ∧ d.octs = false ∧ d.len ≤ 600
  shw : ∃ t bs d, Shw H v t bs d ∧ d ≤ 3 ∧ t.length ≤ 10000
  new : ∀ a, v = .ref a → H0 a = none
theorem Bad.ex {K : PySem.W.Frag} {H0 H H' : Hp} {v : V} (h : Bad K H0 H v) (e : Evl.Ex H H') : Bad K H0 H' v := by
  obtain ⟨⟨d, a1, a2, a3⟩, ⟨t, bs, m, s1, s2, s3⟩, n⟩ := h
  exact ⟨⟨d, a1.ex e, a2, a3⟩, ⟨t, bs, m, s1.ex e, s2, s3⟩, n⟩
theorem Bad.back {K : PySem.W.Frag} {H0 H1 H : Hp} {v : V} (h : Bad K H1 H v) (e : Evl.Ex H0 H1) : Bad K H0 H v := ⟨h.at_, h.shw, fun a z => Evl.fresh_back e (h.new a z)⟩
/-- an item that is no octet -/
structure Itm (K : PySem.W.Frag) (H : Hp) (x : V) : Prop where
  val : Val K H x
  ix : isIx x 0 255 = false
  shw : ∃ t bs d, Shw H x t bs d ∧ d ≤ 1 ∧ t.length ≤ 60 ∧ ∀ b ∈ bs, H b ≠ none
theorem Itm.flat {K : PySem.W.Frag} {H : Hp} {x : V} {t : Str} (f : Fl x) (i : isIx x 0 255 = false) (tx : Tx x t) (l : t.length ≤ 60) : Itm K H x :=
  ⟨.flat f, i, t, [], 0, .flat tx, by decide, l, fun _ z => by cases z⟩
theorem Itm.ex {K : PySem.W.Frag} {H H' : Hp} {x : V} (h : Itm K H x) (e : Evl.Ex H H') : Itm K H' x := by
  obtain ⟨v, i, t, bs, d, s, d1, l, m⟩ := h
  refine ⟨v.ex e, i, t, bs, d, s.ex e, d1, l, fun b hb z => ?_⟩
  exact m b hb (Evl.fresh_back e z)
theorem int_len {o : Int} (h : 0 ≤ o ∧ o ≤ 255) : (txI o).length ≤ 4 := toString_length_le h.1 (by decide) (by omega)
theorem txt_len {os l2 : List Int} {t : Str} (oo : Oct os) (o2 : Oct l2) (lt : t.length ≤ 60) : ∀ u ∈ os.map txI ++ ([t] ++ l2.map txI), (u : Str).length ≤ 60 := by
  intro u hu
  rcases List.mem_append.mp hu with h | h
  · obtain ⟨o, ho, rfl⟩ := List.mem_map.mp h
    exact Nat.le_trans (int_len (oo o ho)) (by decide)
  · rcases List.mem_append.mp h with h | h
    · have : u = t := by simpa using h
      subst this
      exact lt
    · obtain ⟨o, ho, rfl⟩ := List.mem_map.mp h
      exact Nat.le_trans (int_len (o2 o ho)) (by decide)
theorem big_small {os : List Int} (oo : Oct os) : ∀ o ∈ os, o.natAbs < 10 ^ 4300 := fun o ho => Nat.lt_of_le_of_lt (m := 255) (by have := oo o ho; omega) (by decide +kernel)
/-- octets with such an item among them, as a list or as a tuple -/
theorem Bad.of {K : PySem.W.Frag} {H0 H : Hp} {a : Addr} {x : V} {t : Bool} {l1 l2 : List Int} (I : Itm K H x) (o1 : Oct l1) (o2 : Oct l2) (hl : l1.length + l2.length ≤ 40) (h0 : H0 a = none) (hn : H a = none) :
    Bad K H0 (upd H a (if t then .tup (IV l1 ++ ([x] ++ IV l2)) else .lst (IV l1 ++ ([x] ++ IV l2)))) (.ref a) := by
  have y := Evl.Ex.new (o := if t then .tup (IV l1 ++ ([x] ++ IV l2)) else .lst (IV l1 ++ ([x] ++ IV l2))) hn
  obtain ⟨tx, bs, d, s, d1, lt, nb⟩ := I.shw
  have I' := I.ex y
  have na : a ∉ bs := fun z => nb a z hn
  have all : ShwAll (upd H a (if t then .tup (IV l1 ++ ([x] ++ IV l2)) else .lst (IV l1 ++ ([x] ++ IV l2)))) (IV l1 ++ ([x] ++ IV l2)) (l1.map txI ++ ([tx] ++ l2.map txI)) bs d :=
    ShwAll.app (ShwAll.iv (big_small o1)) (.cons (s.ex y) (fun _ z => z) (Nat.le_refl _) (ShwAll.iv (big_small o2)))
  have len : (l1.map txI ++ ([tx] ++ l2.map txI)).length ≤ 41 := by
    rw [List.length_append, List.length_append, List.length_map, List.length_map]
    show _ + (1 + _) ≤ 41
    omega
  have vals : ∀ z ∈ IV l1 ++ ([x] ++ IV l2), Val K (upd H a (if t then .tup (IV l1 ++ ([x] ++ IV l2)) else .lst (IV l1 ++ ([x] ++ IV l2)))) z := by
    intro z hz
    rcases List.mem_append.mp hz with h | h
    · obtain ⟨o, ho, rfl⟩ := List.mem_map.mp h
      exact .flat (oct_fl (o1 o ho))
    · rcases List.mem_append.mp h with h | h
      · have : z = x := by simpa using h
        subst this
        exact I'.val
      · obtain ⟨o, ho, rfl⟩ := List.mem_map.mp h
        exact .flat (oct_fl (o2 o ho))
  have len2 : (IV l1 ++ ([x] ++ IV l2)).length ≤ 41 := by
    rw [List.length_append, List.length_append, iv_len, iv_len]
    show _ + (1 + _) ≤ 41
    omega
  have no : (IV l1 ++ ([x] ++ IV l2)).all (fun x => isIx x 0 255) = false := by
    rw [List.all_append, List.all_append]
    have : ([x].all fun x => isIx x 0 255) = false := by simp [I.ix]
    rw [this]
    simp
  have tl := txt_len o1 o2 lt
  refine ⟨⟨.sq t _, ⟨a, rfl, ?_, vals, by omega⟩, no, by show (IV l1 ++ ([x] ++ IV l2)).length ≤ 600; omega⟩, ?_, fun b z => by cases z; exact h0⟩
  · cases t with
    | false => exact Sv.lst upd_same
    | true => exact Sv.tup upd_same
  · cases t with
    | false =>
      refine ⟨_, _, _, .lst upd_same (by simp) all na, by omega, ?_⟩
      have := listText_le _ tl
      omega
    | true =>
      refine ⟨_, _, _, .tup upd_same all na, by omega, ?_⟩
      have := tupleText_le _ tl
      omega
theorem upd_twice {H : Hp} {a : Addr} {o u : HO} : upd (upd H a o) a u = upd H a u := by
  funext b
  by_cases c : b = a
  · subst c
    rw [upd_same, upd_same]
  · rw [upd_ne c, upd_ne c, upd_ne c]
theorem Itm.lst {K : PySem.W.Frag} {H : Hp} {a : Addr} (h : H a = some (.lst [.int 1])) : Itm K H (.ref a) :=
  ⟨.seq (t := false) (Sv.lst h), rfl, listText [txI 1], [a], 1, .lst h (fun z => by cases z) (.cons (.flat (.int 1 (by decide +kernel))) (fun _ z => by cases z) (Nat.le_refl 0) .nil) (fun z => by cases z), by decide, by decide +kernel, fun b hb z => by
    have : b = a := by simpa using hb
    rw [this, h] at z
    cases z⟩
theorem Itm.tup {K : PySem.W.Frag} {H : Hp} {a : Addr} (h : H a = some (.tup [.int 0])) : Itm K H (.ref a) :=
  ⟨.seq (t := true) (Sv.tup h), rfl, tupleText [txI 0], [a], 1, .tup h (.cons (.flat (.int 0 (by decide +kernel))) (fun _ z => by cases z) (Nat.le_refl 0) .nil) (fun z => by cases z), by decide, by decide +kernel, fun b hb z => by
    have : b = a := by simpa using hb
    rw [this, h] at z
    cases z⟩
section
variable {P : Program} {w : World} {K : PySem.W.Frag} {mg : Str → Option Value} {base : Heap} {f : Addr} {fd : FuncData}
def spSpo (K : PySem.W.Frag) : Sp := fun vs H Q _ => ∃ (p : Addr) (os : List Int) (kind spot odd : Nat), vs = [.ref p, .int (kind : Int), .int (spot : Int), .int (odd : Int)] ∧ H p = some (.lst (IV os)) ∧ Oct os ∧ os.length ≤ 40 ∧ kind < 16 ∧ odd < 10 ∧
  ∀ (v : V) (H' : Hp), Evl.Ex H H' → Bad K H H' v → Q v H'
theorem ok_spoilt (T : Txt K mg) (F : FnP K "_law_spoilt" s__law_spoilt f fd) : Fg P w K mg base CX0 1 f fd ["_law_octets_here", "_law_kind", "_law_spot", "_law_odd_here"] (spSpo K) := by
  refine fg_of F sc__law_spoilt (fun vs H Q E h => ?_) (fun cdv A outer s H vs Q E hr h => ⟨_, (PSs.nox (pss_cons (ps_if (pt_cmpR op_lt (pv 1) pe_int (nomark _))
  (pss_one (ps_ret (pe_ix (u_ix (K := K)) (pe_lst (pa_cons pe_non (pa_cons pe_str (pa_cons pe_int (pa_cons pe_dnewK pa_nil))))) (pv 1) (fun _ _ => rfl)))) pss_nil)
  (pss_cons (ps_set (i := 4) sc__law_spoilt.nd rfl (by first | exact Or.inl rfl | exact Or.inr rfl) (pe_ix (u_ix (K := K)) (pe_lst (pa_cons pe_int (pa_cons (pe_un un_neg pe_int) (pa_cons pe_bl (pa_cons pe_non (pa_cons pe_str (pa_cons (pe_lst (pa_cons pe_int pa_nil)) (pa_cons (pe_op op_pow pe_int pe_int) (pa_cons pe_bl (pa_cons (pe_tup (pa_cons pe_int pa_nil)) (pa_cons (pe_un un_neg pe_int) pa_nil))))))))))) (pv 3) (fun _ _ => rfl)))
  (pss_cons (ps_set (i := 5) sc__law_spoilt.nd rfl (by first | exact Or.inl rfl | exact Or.inr rfl) (pe_callTy (u_listI (K := K)) (by rfl) T.f_list (by decide +kernel) (pa_cons (pv 0) pa_nil)))
  (pss_cons (ps_expr (pe_bm PySem.F.plainAttrs_list PySem.F.slot_list_insert PySem.F.type_list_insert mt_insert (pv 5) (pa_cons (pe_callB (call_min2 rfl) (by rfl) T.f_min (by decide +kernel) (pa_cons (pv 2) (pa_cons (pe_callB (u_len (K := K)) (by rfl) T.f_len (by decide +kernel) (pa_cons (pv 0) pa_nil)) pa_nil))) (pa_cons (pv 4) pa_nil))))
  (pss_one (ps_ret (pe_ifExp (pt_cmpR op_lt (pv 1) pe_int (nomark _)) (pv 5) (pe_callTy (u_tupI (K := K)) (by rfl) T.f_tuple (by decide +kernel) (pa_cons (pv 5) pa_nil)))))))))), ?_⟩)
  · obtain ⟨p, os, kind, spot, odd, rfl, _⟩ := h
    rfl
  · obtain ⟨p, os, kind, spot, odd, rfl, hp, oo, lo, hk, hod, q⟩ := h
    refine ⟨_, rfl, _, _, rfl, rfl, _, rfl, ?_⟩
    by_cases c : (kind : Int) < 4
    · rw [decide_eq_true c]
      refine iteT (fun e ne => ⟨by show 4 ≤ sizeLine; decide, fun L nL => ⟨_, rfl, menu_v upd_same (by omega) (by show (kind : Int) < 4; exact c) fun v hv => ?_⟩⟩)
      have y1 := Evl.Ex.new (o := .dK []) ne
      have y2 := Evl.Ex.new (o := .lst [V.non, .str "ab", .int 7, .ref e]) nL
      have he := y2 _ _ (upd_same (H := H) (a := e) (o := .dK []))
      refine q v _ (y1.trans y2) ?_
      simp only [List.mem_cons, List.not_mem_nil, or_false] at hv
      rcases hv with rfl | rfl | rfl | rfl
      · exact ⟨⟨.other, .flat .non, rfl, by decide⟩, ⟨_, _, _, .flat .non, by decide, by decide +kernel⟩, fun a z => by cases z⟩
      · exact ⟨⟨.other, .flat (sh_s ⟨by decide +kernel, by decide +kernel⟩).1, rfl, by decide⟩, ⟨_, _, _, .flat (sh_s ⟨by decide +kernel, by decide +kernel⟩).2, by decide, by decide +kernel⟩, fun a z => by cases z⟩
      · exact ⟨⟨.other, .flat (.int 7 (by decide +kernel)), rfl, by decide⟩, ⟨_, _, _, .flat (.int 7 (by decide +kernel)), by decide, by decide +kernel⟩, fun a z => by cases z⟩
      · exact ⟨⟨.other, .dct he, rfl, by decide⟩, ⟨_, _, _, .dct he .nil, by decide, by decide +kernel⟩, fun a z => by cases z; exact ne⟩
    · rw [decide_eq_false c]
      have hp30 : CPow 10 30 := ⟨by decide, by decide, by decide⟩
      refine iteF ⟨_, rfl, by show 1 ≤ sizeLine; decide, fun a1 n1 => ⟨_, _, rfl, rfl, hp30, by show 1 ≤ sizeLine; decide, fun a2 n2 => ⟨_, rfl, by show 10 ≤ sizeLine; decide, fun L nL => ⟨_, rfl, menu_v upd_same (by omega) (by show (odd : Int) < 10; omega) fun x hx => ?_⟩⟩⟩⟩
      have y1 := Evl.Ex.new (o := .lst [V.int 1]) n1
      have y2 := Evl.Ex.new (o := .tup [V.int 0]) n2
      have y3 := Evl.Ex.new (o := .lst [V.int 256, .int (-1), .bl true, .non, .str "1", .ref a1, .int (10 ^ (30 : Int).toNat), .bl false, .ref a2, .int (-256)]) nL
      have h1 := (y2.trans y3) _ _ (upd_same (H := H) (a := a1) (o := .lst [V.int 1]))
      have h2 := y3 _ _ (upd_same (H := upd H a1 (.lst [V.int 1])) (a := a2) (o := .tup [V.int 0]))
      have Y := (y1.trans y2).trans y3
      obtain ⟨H3, e3⟩ : ∃ X, X = upd (upd (upd H a1 (.lst [V.int 1])) a2 (.tup [V.int 0])) L (.lst [V.int 256, .int (-1), .bl true, .non, .str "1", .ref a1, .int (10 ^ (30 : Int).toNat), .bl false, .ref a2, .int (-256)]) := ⟨_, rfl⟩
      have I : Itm K H3 x := by
        rw [e3]
        simp only [List.mem_cons, List.not_mem_nil, or_false] at hx
        rcases hx with rfl | rfl | rfl | rfl | rfl | rfl | rfl | rfl | rfl | rfl
        · exact .flat (.int 256 (by decide +kernel)) rfl (.int 256 (by decide +kernel)) (by decide +kernel)
        · exact .flat (.int (-1) (by decide +kernel)) rfl (.int (-1) (by decide +kernel)) (by decide +kernel)
        · exact .flat (.bl true) rfl (.bl true) (by decide +kernel)
        · exact .flat .non rfl .non (by decide +kernel)
        · exact .flat (sh_s ⟨by decide +kernel, by decide +kernel⟩).1 rfl (sh_s ⟨by decide +kernel, by decide +kernel⟩).2 (by decide +kernel)
        · exact .lst h1
        · exact .flat (.int _ (by decide +kernel)) (by decide +kernel) (.int _ (by decide +kernel)) (by decide +kernel)
        · exact .flat (.bl false) rfl (.bl false) (by decide +kernel)
        · exact .tup h2
        · exact .flat (.int (-256) (by decide +kernel)) rfl (.int (-256) (by decide +kernel)) (by decide +kernel)
      rw [← e3] at Y ⊢
      have hp3 := Y _ _ hp
      refine ⟨_, rfl, Sv.listOf (Sv.lst (K := K) hp3) fun l nl => ?_⟩
      have y4 := Evl.Ex.new (o := .lst (IV os)) nl
      obtain ⟨j, ej, hj⟩ : ∃ j : Nat, (if ((IV os).length : Int) < (spot : Int) then ((IV os).length : Int) else (spot : Int)) = (j : Int) ∧ j ≤ os.length := by
        rw [iv_len]
        split
        · exact ⟨os.length, rfl, Nat.le_refl _⟩
        · exact ⟨spot, rfl, by omega⟩
      have ol1 : Oct (os.take j) := fun o ho => oo o (List.mem_of_mem_take ho)
      have ol2 : Oct (os.drop j) := fun o ho => oo o (List.mem_of_mem_drop ho)
      have ll : (os.take j).length + (os.drop j).length ≤ 40 := by
        rw [List.length_take, List.length_drop]
        omega
      have sp : (IV os).take (j : Int).toNat ++ [x] ++ (IV os).drop (j : Int).toNat = IV (os.take j) ++ ([x] ++ IV (os.drop j)) := by
        rw [Int.toNat_natCast, List.append_assoc]
        simp [IV]
      have nlH := Evl.fresh_back Y nl
      refine ⟨_, rfl, .inl ⟨rfl, _, SqL.of upd_same⟩, _, rfl, _, rfl, _, _, rfl, .inl ⟨_, Sv.lst (y4 _ _ hp3), rfl⟩, _, _, rfl, ?_⟩
      rw [ej]
      refine ⟨_, rfl, l, _, (j : Int), x, rfl, rfl, upd_same, by rw [iv_len]; exact Evl.sz_lt (by omega), by omega, by omega, ?_⟩
      rw [sp, upd_twice]
      have B0 : Bad K H (upd H3 l (.lst (IV (os.take j) ++ ([x] ++ IV (os.drop j))))) (.ref l) := Bad.of (t := false) I ol1 ol2 ll nlH nl
      have Y5 := Y.trans (Evl.Ex.new (o := .lst (IV (os.take j) ++ ([x] ++ IV (os.drop j)))) nl)
      refine ⟨_, rfl, _, _, rfl, rfl, _, rfl, ?_⟩
      by_cases c2 : (kind : Int) < 12
      · rw [decide_eq_true c2]
        exact iteT ⟨_, rfl, q _ _ Y5 B0⟩
      · rw [decide_eq_false c2]
        refine iteF ⟨_, rfl, ?_⟩
        show rTupI K [.ref l] _ _
        unfold rTupI
        refine ⟨l, _, rfl, .inl ⟨Sv.lst upd_same, fun l2 nl2 => q _ _ (Y5.trans (Evl.Ex.new nl2)) ?_⟩⟩
        exact Bad.of (t := true) (I.ex (Evl.Ex.new nl)) ol1 ol2 ll (Evl.fresh_back Y5 nl2) nl2
end
end K2
namespace K2
open PySem PySem.Spec PyProof.Rows L2 VB BM
abbrev gC : List Value → List Value → List Value := fun _ ws => [ws.getD 2 .none, ws.getD 0 .none, ws.getD 1 .none]
abbrev gCV : List V → List V → List V := fun _ ws => [ws.getD 2 .non, ws.getD 0 .non, ws.getD 1 .non]
abbrev gM : List Value → List Value → List Value := fun _ ws => [ws.getD 1 .none, ws.getD 2 .none, ws.getD 0 .none]
abbrev gMV : List V → List V → List V := fun _ ws => [ws.getD 1 .non, ws.getD 2 .non, ws.getD 0 .non]
section
variable {P : Program} {w : World} {K : PySem.W.Frag} {mg : Str → Option Value} {base : Heap} {f : Addr} {fd : FuncData}
abbrev hdX (K : PySem.W.Frag) (x wd : Str) : Addr → Value → Option Addr → TS := fun a cls d => tRet (tLst (tCons (tC (V.str wd)) (tCons (tXf a cls d (Er K x) "given" (tVar 4)) tNil)))
abbrev hds3 (K : PySem.W.Frag) : List (Value × (Addr → Value → Option Addr → TS)) := [(.ref (Er K "InvalidOctets"), hdX K "InvalidOctets" "octets"), (.ref (Er K "InvalidCount"), hdX K "InvalidCount" "count"), (.ref (Er K "InvalidNumber"), hdX K "InvalidNumber" "number")]
abbrev hds2 (K : PySem.W.Frag) : List (Value × (Addr → Value → Option Addr → TS)) := [(.ref (Er K "InvalidOctets"), hdX K "InvalidOctets" "octets"), (.ref (Er K "InvalidMask"), hdX K "InvalidMask" "mask")]
/-- what the clauses ask of an error that comes -/
abbrev Wd (K : PySem.W.Frag) (Q : VK) (σ : L2.St) : XK := WE (wManyAs K 4 (fun _ _ _ _ => False) { nx := fun _ H' => Q V.non H', rt := Q } (hds3 K)) σ
abbrev Wm (K : PySem.W.Frag) (Q : VK) (σ : L2.St) : XK := WE (wManyAs K 4 (fun _ _ _ _ => False) { nx := fun _ H' => Q V.non H', rt := Q } (hds2 K)) σ
section
variable {H : Hp} {Q : VK} {v0 v1 v2 v3 : Option V} {y : V}
theorem hd_run {d : Addr} {H1 : Hp} {x wd : Str} {D : Ends} (hD : D.rt = Q) (e1 : Evl.Ex H H1) (nd : H1 d = none) (q : RL [.str wd, y] H Q) (a : Addr) : hdX K x wd a (.ref (Er K x)) (some d) { nx := fun σ' H' => D.nx (σ'.set 4 none) H', rt := D.rt, bk := fun σ' H' => D.bk (σ'.set 4 none) H', ct := fun σ' H' => D.ct (σ'.set 4 none) H' } (([v0, v1, v2, v3, none] : L2.St).set 4 (some (.ref a))) (upd H1 d (.xd [("given", y)])) := by
  have e2 := e1.trans (Evl.Ex.new (o := .xd [("given", y)]) nd)
  refine ⟨_, rfl, rfl, rfl, d, _, _, rfl, upd_same, rfl, by show 2 ≤ sizeLine; decide, fun l nl => ?_⟩
  show D.rt (.ref l) _
  rw [hD]
  exact q l _ (Evl.fresh_back e2 nl) (e2.trans (Evl.Ex.new nl)) upd_same
theorem caught_O (xOO : PySem.W.exmOne K (.ref (Er K "InvalidOctets")) (.ref (Er K "InvalidOctets")) = some true) (q : RL [.str "octets", y] H Q) : Rz K "InvalidOctets" y H (Wd K Q [v0, v1, v2, v3, none]) := fun d H1 e1 nd =>
  ⟨true, xOO, fun _ a _ => hd_run rfl e1 nd q a, fun (z : true = false) => nomatch z⟩
theorem caught_C (xCO : PySem.W.exmOne K (.ref (Er K "InvalidCount")) (.ref (Er K "InvalidOctets")) = some false) (xCC : PySem.W.exmOne K (.ref (Er K "InvalidCount")) (.ref (Er K "InvalidCount")) = some true) (q : RL [.str "count", y] H Q) : Rz K "InvalidCount" y H (Wd K Q [v0, v1, v2, v3, none]) := fun d H1 e1 nd =>
  ⟨false, xCO, (fun (z : false = true) => (nomatch z)), fun _ => ⟨true, xCC, fun _ a _ => hd_run rfl e1 nd q a, fun (z : true = false) => nomatch z⟩⟩
theorem caught_N (xNO : PySem.W.exmOne K (.ref (Er K "InvalidNumber")) (.ref (Er K "InvalidOctets")) = some false) (xNC : PySem.W.exmOne K (.ref (Er K "InvalidNumber")) (.ref (Er K "InvalidCount")) = some false) (xNN : PySem.W.exmOne K (.ref (Er K "InvalidNumber")) (.ref (Er K "InvalidNumber")) = some true) (q : RL [.str "number", y] H Q) : Rz K "InvalidNumber" y H (Wd K Q [v0, v1, v2, v3, none]) := fun d H1 e1 nd =>
  ⟨false, xNO, (fun (z : false = true) => (nomatch z)), fun _ => ⟨false, xNC, (fun (z : false = true) => (nomatch z)), fun _ => ⟨true, xNN, fun _ a _ => hd_run rfl e1 nd q a, fun (z : true = false) => nomatch z⟩⟩⟩
theorem caught_Om (xOO : PySem.W.exmOne K (.ref (Er K "InvalidOctets")) (.ref (Er K "InvalidOctets")) = some true) (q : RL [.str "octets", y] H Q) : Rz K "InvalidOctets" y H (Wm K Q [v0, v1, v2, v3, none]) := fun d H1 e1 nd =>
  ⟨true, xOO, fun _ a _ => hd_run rfl e1 nd q a, fun (z : true = false) => nomatch z⟩
theorem caught_M (xMO : PySem.W.exmOne K (.ref (Er K "InvalidMask")) (.ref (Er K "InvalidOctets")) = some false) (xMM : PySem.W.exmOne K (.ref (Er K "InvalidMask")) (.ref (Er K "InvalidMask")) = some true) (q : RL [.str "mask", y] H Q) : Rz K "InvalidMask" y H (Wm K Q [v0, v1, v2, v3, none]) := fun d H1 e1 nd =>
  ⟨false, xMO, (fun (z : false = true) => (nomatch z)), fun _ => ⟨true, xMM, fun _ a _ => hd_run rfl e1 nd q a, fun (z : true = false) => nomatch z⟩⟩
end
/-- a number that so many octets tell -/
def isN : V → V → Bool
  | .int n, .int c => decide (0 ≤ n) && decide (n < 2 ^ (8 * c.toNat))
  | _, _ => false
theorem isN_no {v u : V} (hu : isIx u 0 8 = true) (h : ∀ c n : Nat, u = .int (c : Int) → v = .int (n : Int) → 2 ^ (8 * c) ≤ n) : isN v u = false := by
  obtain ⟨c, rfl, c0, c8⟩ := isIx_of hu
  obtain ⟨c, rfl⟩ : ∃ m : Nat, c = m := ⟨c.toNat, by omega⟩
  cases v with
  | int i =>
    show (decide (0 ≤ i) && decide (i < 2 ^ (8 * ((c : Int)).toNat))) = false
    by_cases z : 0 ≤ i
    · obtain ⟨n, rfl⟩ : ∃ m : Nat, i = m := ⟨i.toNat, by omega⟩
      have := h c n rfl rfl
      have e : ((2 ^ (8 * c) : Nat) : Int) ≤ ((n : Nat) : Int) := by exact_mod_cast this
      have e2 : ((2 ^ (8 * c) : Nat) : Int) = (2 : Int) ^ (8 * c) := by simp
      rw [Int.toNat_natCast, decide_eq_false (show ¬ ((n : Int) < 2 ^ (8 * c)) by rw [← e2]; omega)]
      simp
    · rw [decide_eq_false z]
      rfl
  | _ => rfl
/-- what a list with the word told and a value is good for -/
abbrev told (Q : VK) : VK := fun x H' => [V.str "told", x].length ≤ sizeLine ∧ ∀ l, H' l = none → Q (.ref l) (upd H' l (.lst [V.str "told", x]))
/-- which word comes, and with what -/
def dueMet (way : Nat) (v u : V) (d e : Dn) : Option (Str × V) :=
  if way = 0 then (if isIx u 0 8 = false then some ("count", u) else if isN v u = false then some ("number", v) else none)
  else if d.octs = false then some ("octets", v)
  else if way < 3 then none
  else if e.octs = false then some ("octets", u)
  else if d.len ≠ e.len then some ("octets", u) else none
def spMet (K : PySem.W.Frag) : Sp := fun vs H Q _ => ∃ (way : Nat) (v u : V) (d e : Dn) (nm : Bool), vs = [.int (way : Int), v, u, .bl nm] ∧ way ≤ 5 ∧ Val K H v ∧ Val K H u ∧ (way ≠ 0 → At K H v d ∧ At K H u e) ∧ d.len ≤ 600 ∧
  (∀ (wd : Str) (y : V), dueMet way v u d e = some (wd, y) → RL [.str wd, y] H Q) ∧
  (dueMet way v u d e = none → way = 0 → ∀ c n : Nat, u = .int (c : Int) → v = .int (n : Int) → ∀ (t l : Addr) (H' : Hp), H l = none → Evl.Ex H H' → H' t = some (.tup (IV (octO n c))) → H' l = some (.lst [.str "told", .ref t]) → Q (.ref l) H') ∧
  (dueMet way v u d e = none → way ≠ 0 → ∀ (z : V), ∀ (l : Addr) (H' : Hp), H l = none → Evl.Ex H H' → H' l = some (.lst [.str "told", z]) → Q (.ref l) H')
theorem ok_met {fO fC fN : Addr} (T : Txt K mg) (E_InvalidOctets : MkE P w K mg base "InvalidOctets" "given" (Er K "InvalidOctets") fO) (E_InvalidCount : MkE P w K mg base "InvalidCount" "given" (Er K "InvalidCount") fC) (E_InvalidNumber : MkE P w K mg base "InvalidNumber" "given" (Er K "InvalidNumber") fN)
    (xOO : PySem.W.exmOne K (.ref (Er K "InvalidOctets")) (.ref (Er K "InvalidOctets")) = some true) (xCO : PySem.W.exmOne K (.ref (Er K "InvalidCount")) (.ref (Er K "InvalidOctets")) = some false) (xCC : PySem.W.exmOne K (.ref (Er K "InvalidCount")) (.ref (Er K "InvalidCount")) = some true)
    (xNO : PySem.W.exmOne K (.ref (Er K "InvalidNumber")) (.ref (Er K "InvalidOctets")) = some false) (xNC : PySem.W.exmOne K (.ref (Er K "InvalidNumber")) (.ref (Er K "InvalidCount")) = some false) (xNN : PySem.W.exmOne K (.ref (Er K "InvalidNumber")) (.ref (Er K "InvalidNumber")) = some true)
    (F : FnP K "_law_met" s__law_met f fd)
    (C_in_octets : Cal P w K mg base (CX P w) 4 "in_octets" ["number", "count"] (spIn K)) (CK_in_octets_0_count_number : CalK P w K mg base (CX P w) 4 "in_octets" ["number", "count"] 0 ["count", "number"] g21 g21V (spIn K))
    (C_number_in : Cal P w K mg base (CX P w) 5 "number_in" ["octets"] (spNumIn K)) (CK_number_in_0_octets : CalK P w K mg base (CX P w) 5 "number_in" ["octets"] 0 ["octets"] g1 g1V (spNumIn K))
    (C_zeros : Cal P w K mg base (CX P w) 6 "zeros" ["octets"] (spZeros K)) (CK_zeros_0_octets : CalK P w K mg base (CX P w) 6 "zeros" ["octets"] 0 ["octets"] g1 g1V (spZeros K))
    (C_falls : Cal P w K mg base (CX P w) 6 "falls" ["old", "new"] (spTurns K)) (CK_falls_0_new_old : CalK P w K mg base (CX P w) 6 "falls" ["old", "new"] 0 ["new", "old"] g21 g21V (spTurns K))
    (C_rises : Cal P w K mg base (CX P w) 6 "rises" ["old", "new"] (spTurns K)) (CK_rises_0_new_old : CalK P w K mg base (CX P w) 6 "rises" ["old", "new"] 0 ["new", "old"] g21 g21V (spTurns K))
    (C_changed : Cal P w K mg base (CX P w) 6 "changed" ["old", "new", "mask"] (spChg K)) (CK_changed_0_new_mask_old : CalK P w K mg base (CX P w) 6 "changed" ["old", "new", "mask"] 0 ["new", "mask", "old"] gC gCV (spChg K)) :
    Fg P w K mg base CX0 7 f fd ["_law_way", "_law_one", "_law_other", "_law_named"] (spMet K) := by
  refine fg_of F sc__law_met (fun vs H Q E h => ?_) (fun cdv A outer s₀ H vs Q E hr h => ⟨_, (pss_one (ps_try_manyAs (i := 4) rfl rfl sc__law_met.nd rfl rfl takes_no
    (fun W pn xe tk pa =>
      (pss_cons (ps_if (pt_cmpR (u_eq (K := K) hr) (pv 0) pe_int (nomark _))
        (pss_one (ps_ret (pe_lst (pa_cons pe_str (pa_cons (pe_ifExp (pt_tru (K := K) (pv 3) (by intro _; rfl)) (pe_calkS CK_in_octets_0_count_number hr.le (passAt tk) (pk_cons (pv 2) (pk_cons (pv 1) pk_nil))) (pe_calS C_in_octets hr.le (passAt tk) (pa_cons (pv 1) (pa_cons (pv 2) pa_nil)))) pa_nil))))) pss_nil)
      (pss_cons (ps_if (pt_cmpR (u_eq (K := K) hr) (pv 0) pe_int (nomark _))
        (pss_one (ps_ret (pe_lst (pa_cons pe_str (pa_cons (pe_ifExp (pt_tru (K := K) (pv 3) (by intro _; rfl)) (pe_calkS CK_number_in_0_octets hr.le (passAt tk) (pk_cons (pv 1) pk_nil)) (pe_calS C_number_in hr.le (passAt tk) (pa_cons (pv 1) pa_nil))) pa_nil))))) pss_nil)
      (pss_cons (ps_if (pt_cmpR (u_eq (K := K) hr) (pv 0) pe_int (nomark _))
        (pss_one (ps_ret (pe_lst (pa_cons pe_str (pa_cons (pe_ifExp (pt_tru (K := K) (pv 3) (by intro _; rfl)) (pe_calkS CK_zeros_0_octets hr.le (passAt tk) (pk_cons (pv 1) pk_nil)) (pe_calS C_zeros hr.le (passAt tk) (pa_cons (pv 1) pa_nil))) pa_nil))))) pss_nil)
      (pss_cons (ps_if (pt_cmpR (u_eq (K := K) hr) (pv 0) pe_int (nomark _))
        (pss_one (ps_ret (pe_lst (pa_cons pe_str (pa_cons (pe_ifExp (pt_tru (K := K) (pv 3) (by intro _; rfl)) (pe_calkS CK_falls_0_new_old hr.le (passAt tk) (pk_cons (pv 2) (pk_cons (pv 1) pk_nil))) (pe_calS C_falls hr.le (passAt tk) (pa_cons (pv 1) (pa_cons (pv 2) pa_nil)))) pa_nil))))) pss_nil)
      (pss_cons (ps_if (pt_cmpR (u_eq (K := K) hr) (pv 0) pe_int (nomark _))
        (pss_one (ps_ret (pe_lst (pa_cons pe_str (pa_cons (pe_ifExp (pt_tru (K := K) (pv 3) (by intro _; rfl)) (pe_calkS CK_rises_0_new_old hr.le (passAt tk) (pk_cons (pv 2) (pk_cons (pv 1) pk_nil))) (pe_calS C_rises hr.le (passAt tk) (pa_cons (pv 1) (pa_cons (pv 2) pa_nil)))) pa_nil))))) pss_nil)
      (pss_one (ps_ret (pe_lst (pa_cons pe_str (pa_cons (pe_ifExp (pt_tru (K := K) (pv 3) (by intro _; rfl)) (pe_calkS CK_changed_0_new_mask_old hr.le (passAt tk) (pk_cons (pv 2) (pk_cons pe_int (pk_cons (pv 1) pk_nil)))) (pe_calS C_changed hr.le (passAt tk) (pa_cons (pv 1) (pa_cons (pv 2) (pa_cons pe_int pa_nil))))) pa_nil)))))))))))
    (.cons (c := .ref (Er K "InvalidOctets")) ⟨rfl, by decide, .inl E_InvalidOctets.err.gC⟩ (fun a oe cls d pn hz hv => pss_one (ps_ret (pe_lst (pa_cons pe_str (pa_cons (pe_xf E_InvalidOctets.err.xf E_InvalidOctets.err.noG hz hv (pv 4)) pa_nil)))))
    (.cons (c := .ref (Er K "InvalidCount")) ⟨rfl, by decide, .inl E_InvalidCount.err.gC⟩ (fun a oe cls d pn hz hv => pss_one (ps_ret (pe_lst (pa_cons pe_str (pa_cons (pe_xf E_InvalidCount.err.xf E_InvalidCount.err.noG hz hv (pv 4)) pa_nil)))))
    (.cons (c := .ref (Er K "InvalidNumber")) ⟨rfl, by decide, .inl E_InvalidNumber.err.gC⟩ (fun a oe cls d pn hz hv => pss_one (ps_ret (pe_lst (pa_cons pe_str (pa_cons (pe_xf E_InvalidNumber.err.xf E_InvalidNumber.err.noG hz hv (pv 4)) pa_nil)))))
    .nil))))), ?_⟩)
  · obtain ⟨way, v, u, d, e, nm, rfl, _⟩ := h
    rfl
  · obtain ⟨way, v, u, d, e, nm, rfl, hw, hv0, hu0, hvu, hl, qE, q0, q⟩ := h
    have two : ∀ x : V, [V.str "told", x].length ≤ sizeLine := fun x => by show 2 ≤ sizeLine; decide
    obtain ⟨σ, eσ⟩ : ∃ σ : L2.St, σ = [some (.int (way : Int)), some v, some u, some (.bl nm), none] := ⟨_, rfl⟩
    have rO : ∀ {y : V}, dueMet way v u d e = some (("octets" : Str), y) → Rz K "InvalidOctets" y H (Wd K Q σ) := fun h => by rw [eσ]; exact caught_O xOO (qE _ _ h)
    have s0 : way = 0 → spIn K [v, u] H (told Q) (Wd K Q σ) := fun w0 => ⟨v, u, rfl, hv0, hu0,
      fun z => by rw [eσ]; exact caught_C xCO xCC (qE _ _ (by unfold dueMet; rw [if_pos w0, if_pos z])),
      fun z nn => by rw [eσ]; exact caught_N xNO xNC xNN (qE _ _ (by unfold dueMet; rw [if_pos w0, if_neg (by rw [z]; simp), if_pos (isN_no z nn)])),
      fun c n eu ev c8 lt t H' nt e' ht => ⟨two _, fun l nl => by
        have dn : dueMet way v u d e = none := by
          unfold dueMet
          rw [if_pos w0, if_neg (by rw [eu, isIx_int (by omega) (by omega)]; simp), if_neg]
          rw [eu, ev]
          show ¬ (decide ((0 : Int) ≤ (n : Int)) && decide ((n : Int) < 2 ^ (8 * ((c : Int)).toNat))) = false
          have e2 : ((2 ^ (8 * c) : Nat) : Int) = (2 : Int) ^ (8 * c) := by simp
          have e3 : (n : Int) < ((2 ^ (8 * c) : Nat) : Int) := by exact_mod_cast lt
          rw [decide_eq_true (by omega), Int.toNat_natCast, decide_eq_true (by rw [← e2]; exact e3)]
          simp
        have y := Evl.Ex.new (o := .lst [V.str "told", .ref t]) nl
        exact q0 dn w0 c n eu ev t l _ (Evl.fresh_back e' nl) (e'.trans y) (y _ _ ht) upd_same⟩⟩
    have fin : dueMet way v u d e = none → way ≠ 0 → ∀ (x : V) (H' : Hp), Evl.Ex H H' → told Q x H' := fun dn w0 x H' e' => ⟨two _, fun l nl => q dn w0 x l _ (Evl.fresh_back e' nl) (e'.trans (Evl.Ex.new nl)) upd_same⟩
    have s1 : way ≠ 0 → way < 3 → spNumIn K [v] H (told Q) (Wd K Q σ) := fun w0 w3 => ⟨v, d, rfl, (hvu w0).1, fun z => rO (by unfold dueMet; rw [if_neg w0, if_pos z]), fun t os ed oo H' e' => fin (by unfold dueMet; rw [if_neg w0, if_neg (by rw [ed, octs_t oo]; simp), if_pos w3]) w0 _ _ e'⟩
    have s2 : way ≠ 0 → way < 3 → spZeros K [v] H (told Q) (Wd K Q σ) := fun w0 w3 => ⟨v, d, rfl, (hvu w0).1, fun z => rO (by unfold dueMet; rw [if_neg w0, if_pos z]), fun o n H' e' => fin (by unfold dueMet; rw [if_neg w0, if_neg (by rw [o]; simp), if_pos w3]) w0 _ _ e'⟩
    have r1 : way ≠ 0 → d.octs = false → Rz K "InvalidOctets" v H (Wd K Q σ) := fun w0 z => rO (by unfold dueMet; rw [if_neg w0, if_pos z])
    have r2 : ¬ way < 3 → d.octs = true → e.octs = false → Rz K "InvalidOctets" u H (Wd K Q σ) := fun w3 o z => rO (by unfold dueMet; rw [if_neg (by omega), if_neg (by rw [o]; simp), if_neg w3, if_pos z])
    have r3 : ¬ way < 3 → d.octs = true → e.octs = true → d.len ≠ e.len → Rz K "InvalidOctets" u H (Wd K Q σ) := fun w3 o o2 z => rO (by unfold dueMet; rw [if_neg (by omega), if_neg (by rw [o]; simp), if_neg w3, if_neg (by rw [o2]; simp), if_pos z])
    have dn : ¬ way < 3 → d.octs = true → e.octs = true → d.len = e.len → dueMet way v u d e = none := fun w3 o o2 z => by unfold dueMet; rw [if_neg (by omega), if_neg (by rw [o]; simp), if_neg w3, if_neg (by rw [o2]; simp), if_neg (fun n => n z)]
    have s3 : ¬ way < 3 → spTurns K [v, u] H (told Q) (Wd K Q σ) := fun w3 => ⟨v, u, d, e, rfl, (hvu (by omega)).1, (hvu (by omega)).2, hl, r1 (by omega), r2 w3, r3 w3, fun o o2 z p xs H' np e' hp => fin (dn w3 o o2 z) (by omega) _ _ e'⟩
    have s5 : ¬ way < 3 → spChg K [v, u, .int 0] H (told Q) (Wd K Q σ) := fun w3 => ⟨v, u, .int 0, d, e, rfl, (hvu (by omega)).1, (hvu (by omega)).2, .flat (.int 0 (by decide +kernel)), hl, r1 (by omega), r2 w3, r3 w3, fun _ _ _ z => absurd z (by decide +kernel), fun t u' xs ys m ed ee ox oy hl2 em m0 m1 p H' np e' hp => fin (dn w3 (by rw [ed]; exact octs_t ox) (by rw [ee]; exact octs_t oy) (by rw [ed, ee]; show (IV xs).length = (IV ys).length; rw [iv_len, iv_len]; exact hl2)) (by omega) _ _ e'⟩
    have wy : ∀ n : Nat, way ≠ n → decide (V.int (way : Int) = V.int (n : Int)) = false := fun n h => decide_eq_false fun z => h (by have := V.int.inj z; omega)
    refine ⟨_, rfl, .inl ⟨rfl, _, rfl, ?_⟩⟩
    by_cases w0 : way = 0
    · subst w0
      refine iteT ⟨_, rfl, nm, rfl, ?_⟩
      rw [eσ] at s0
      cases nm with
      | true => exact iteT ⟨_, rfl, _, rfl, rfl, s0 rfl⟩
      | false => exact iteF ⟨_, rfl, _, rfl, s0 rfl⟩
    have y0 : decide (V.int (way : Int) = V.int 0) = false := wy 0 w0
    rw [y0]
    refine iteF ⟨_, rfl, .inl ⟨rfl, _, rfl, ?_⟩⟩
    by_cases w1 : way = 1
    · subst w1
      rw [eσ] at s1
      refine iteT ⟨_, rfl, nm, rfl, ?_⟩
      cases nm with
      | true => exact iteT ⟨_, rfl, rfl, s1 (by decide) (by decide)⟩
      | false => exact iteF ⟨_, rfl, s1 (by decide) (by decide)⟩
    have y1 : decide (V.int (way : Int) = V.int 1) = false := wy 1 w1
    rw [y1]
    refine iteF ⟨_, rfl, .inl ⟨rfl, _, rfl, ?_⟩⟩
    by_cases w2 : way = 2
    · subst w2
      rw [eσ] at s2
      refine iteT ⟨_, rfl, nm, rfl, ?_⟩
      cases nm with
      | true => exact iteT ⟨_, rfl, rfl, s2 (by decide) (by decide)⟩
      | false => exact iteF ⟨_, rfl, s2 (by decide) (by decide)⟩
    have y2 : decide (V.int (way : Int) = V.int 2) = false := wy 2 w2
    rw [y2]
    have s3 := s3 (by omega)
    have s5 := s5 (by omega)
    rw [eσ] at s3 s5
    refine iteF ⟨_, rfl, .inl ⟨rfl, _, rfl, ?_⟩⟩
    by_cases w3 : way = 3
    · subst w3
      refine iteT ⟨_, rfl, nm, rfl, ?_⟩
      cases nm with
      | true => exact iteT ⟨_, rfl, _, rfl, rfl, s3⟩
      | false => exact iteF ⟨_, rfl, _, rfl, s3⟩
    have y3 : decide (V.int (way : Int) = V.int 3) = false := wy 3 w3
    rw [y3]
    refine iteF ⟨_, rfl, .inl ⟨rfl, _, rfl, ?_⟩⟩
    by_cases w4 : way = 4
    · subst w4
      refine iteT ⟨_, rfl, nm, rfl, ?_⟩
      cases nm with
      | true => exact iteT ⟨_, rfl, _, rfl, rfl, s3⟩
      | false => exact iteF ⟨_, rfl, _, rfl, s3⟩
    have y4 : decide (V.int (way : Int) = V.int 4) = false := wy 4 w4
    rw [y4]
    refine iteF ⟨_, rfl, nm, rfl, ?_⟩
    cases nm with
    | true => exact iteT ⟨_, rfl, _, rfl, rfl, s5⟩
    | false => exact iteF ⟨_, rfl, _, rfl, s5⟩
def dueMask (v u z : V) (d e : Dn) : Option (Str × V) :=
  if d.octs = false then some ("octets", v)
  else if e.octs = false then some ("octets", u)
  else if d.len ≠ e.len then some ("octets", u)
  else if isM z = false then some ("mask", z) else none
def spMasked (K : PySem.W.Frag) : Sp := fun vs H Q _ => ∃ (v u z : V) (d e : Dn) (nm : Bool), vs = [v, u, z, .bl nm] ∧ At K H v d ∧ At K H u e ∧ Val K H z ∧ d.len ≤ 600 ∧
  (∀ (wd : Str) (y : V), dueMask v u z d e = some (wd, y) → RL [.str wd, y] H Q) ∧
  (∀ (t u' : Bool) (xs ys : List Int) (m : Int), d = .sq t (IV xs) → e = .sq u' (IV ys) → Oct xs → Oct ys → xs.length = ys.length → z = .int m → 0 ≤ m → m < MM → ∀ (p l : Addr) (H' : Hp), H l = none → Evl.Ex H H' → H' p = some (.tup (IV (octetsL (turned (bitsL xs) (bitsL ys) m)))) → H' l = some (.lst [.str "told", .ref p]) → Q (.ref l) H')
theorem ok_masked {fO fM : Addr} (T : Txt K mg) (E_InvalidOctets : MkE P w K mg base "InvalidOctets" "given" (Er K "InvalidOctets") fO) (E_InvalidMask : MkE P w K mg base "InvalidMask" "given" (Er K "InvalidMask") fM)
    (xOO : PySem.W.exmOne K (.ref (Er K "InvalidOctets")) (.ref (Er K "InvalidOctets")) = some true) (xMO : PySem.W.exmOne K (.ref (Er K "InvalidMask")) (.ref (Er K "InvalidOctets")) = some false) (xMM : PySem.W.exmOne K (.ref (Er K "InvalidMask")) (.ref (Er K "InvalidMask")) = some true)
    (F : FnP K "_law_masked" s__law_masked f fd)
    (C_changed : Cal P w K mg base (CX P w) 6 "changed" ["old", "new", "mask"] (spChg K)) (CK_changed_0_mask_old_new : CalK P w K mg base (CX P w) 6 "changed" ["old", "new", "mask"] 0 ["mask", "old", "new"] gM gMV (spChg K)) :
    Fg P w K mg base CX0 7 f fd ["_law_one", "_law_other", "_law_mask", "_law_named"] (spMasked K) := by
  refine fg_of F sc__law_masked (fun vs H Q E h => ?_) (fun cdv A outer s₀ H vs Q E hr h => ⟨_, (pss_one (ps_try_manyAs (i := 4) rfl rfl sc__law_masked.nd rfl rfl takes_no
    (fun W pn xe tk pa =>
      (pss_one (ps_ret (pe_lst (pa_cons pe_str (pa_cons (pe_ifExp (pt_tru (K := K) (pv 3) (by intro _; rfl)) (pe_calkS CK_changed_0_mask_old_new hr.le (passAt tk) (pk_cons (pv 2) (pk_cons (pv 0) (pk_cons (pv 1) pk_nil)))) (pe_calS C_changed hr.le (passAt tk) (pa_cons (pv 0) (pa_cons (pv 1) (pa_cons (pv 2) pa_nil))))) pa_nil))))))
    (.cons (c := .ref (Er K "InvalidOctets")) ⟨rfl, by decide, .inl E_InvalidOctets.err.gC⟩ (fun a oe cls d pn hz hv => pss_one (ps_ret (pe_lst (pa_cons pe_str (pa_cons (pe_xf E_InvalidOctets.err.xf E_InvalidOctets.err.noG hz hv (pv 4)) pa_nil)))))
    (.cons (c := .ref (Er K "InvalidMask")) ⟨rfl, by decide, .inl E_InvalidMask.err.gC⟩ (fun a oe cls d pn hz hv => pss_one (ps_ret (pe_lst (pa_cons pe_str (pa_cons (pe_xf E_InvalidMask.err.xf E_InvalidMask.err.noG hz hv (pv 4)) pa_nil)))))
    .nil)))), ?_⟩)
  · obtain ⟨v, u, z, d, e, nm, rfl, _⟩ := h
    rfl
  · obtain ⟨v, u, z, d, e, nm, rfl, hv, hu, hz, hl, qE, q⟩ := h
    have two : ∀ x : V, [V.str "told", x].length ≤ sizeLine := fun x => by show 2 ≤ sizeLine; decide
    have s : spChg K [v, u, z] H (told Q) (Wm K Q [some v, some u, some z, some (.bl nm), none]) := ⟨v, u, z, d, e, rfl, hv, hu, hz, hl,
      fun o => caught_Om xOO (qE _ _ (by unfold dueMask; rw [if_pos o])),
      fun o o2 => caught_Om xOO (qE _ _ (by unfold dueMask; rw [if_neg (by rw [o]; simp), if_pos o2])),
      fun o o2 n => caught_Om xOO (qE _ _ (by unfold dueMask; rw [if_neg (by rw [o]; simp), if_neg (by rw [o2]; simp), if_pos n])),
      fun o o2 n m => caught_M xMO xMM (qE _ _ (by unfold dueMask; rw [if_neg (by rw [o]; simp), if_neg (by rw [o2]; simp), if_neg (fun k => k n), if_pos m])),
      fun t u' xs ys m ed ee ox oy hl2 em m0 m1 p H' np e' hp => ⟨two _, fun l nl => by
        have y := Evl.Ex.new (o := .lst [V.str "told", .ref p]) nl
        exact q t u' xs ys m ed ee ox oy hl2 em m0 m1 p l _ (Evl.fresh_back e' nl) (e'.trans y) (y _ _ hp) upd_same⟩⟩
    refine ⟨_, rfl, nm, rfl, ?_⟩
    cases nm with
    | true => exact iteT ⟨_, rfl, _, rfl, _, rfl, rfl, s⟩
    | false => exact iteF ⟨_, rfl, _, rfl, _, rfl, s⟩
end
end K2
namespace K2
open PySem PySem.Spec PyProof.Rows L2 VB BM
/-- what a list became when 9 was put behind it, if it is one -/
inductive Grown (H : Hp) (v : V) : Hp → Prop
  | same : Grown H v H
  | app {a : Addr} {xs : List V} : v = .ref a → H a = some (.lst xs) → Grown H v (upd H a (.lst (xs ++ [.int 9])))
theorem Grown.ex {H0 H H' : Hp} {v : V} (g : Grown H v H') (e : Evl.Ex H0 H) (n : ∀ a, v = .ref a → H0 a = none) : Evl.Ex H0 H' := by
  cases g with
  | same => exact e
  | app z h => exact Evl.Ex.mut e (n _ z)
/-- a value whose repr is told, and that may grow -/
structure Bv (K : PySem.W.Frag) (H : Hp) (n : Nat) (v : V) : Prop where
  val : Val K H v
  shw : ∃ t bs d, Shw H v t bs d ∧ d ≤ 3 + n ∧ t.length ≤ 10000 + 3 * n
theorem Bad.bv {K : PySem.W.Frag} {H0 H : Hp} {v : V} (h : Bad K H0 H v) : Bv K H 0 v := by
  obtain ⟨⟨d, a1, a2, a3⟩, s, n⟩ := h
  exact ⟨a1.val, s⟩
theorem Bv.ex {K : PySem.W.Frag} {H H' : Hp} {v : V} {n : Nat} (h : Bv K H n v) (e : Evl.Ex H H') : Bv K H' n v := by
  obtain ⟨a1, ⟨t, bs, m, s1, s2, s3⟩⟩ := h
  exact ⟨a1.ex e, ⟨t, bs, m, s1.ex e, s2, s3⟩⟩
theorem Val.mut {K : PySem.W.Frag} {H : Hp} {a : Addr} {ys zs : List V} (h : H a = some (.lst ys)) {x : V} (v : Val K H x) : Val K (upd H a (.lst zs)) x := by
  cases v with
  | flat f => exact .flat f
  | @seq t b xs S =>
    by_cases c : b = a
    · subst c
      exact .seq (t := false) (Sv.lst upd_same)
    · exact .seq (S.mut c)
  | @dct b kvs hb =>
    have c : b ≠ a := fun z => by rw [z, h] at hb; cases hb
    exact .dct (by rw [upd_ne c]; exact hb)
theorem tx9 : Tx (.int 9) "9" := .int 9 (by decide +kernel)
theorem Bv.grow {K : PySem.W.Frag} {H : Hp} {v : V} {n : Nat} {a : Addr} {xs : List V} (b : Bv K H n v) (e : v = .ref a) (h : H a = some (.lst xs)) : Bv K (upd H a (.lst (xs ++ [.int 9]))) (n + 1) v := by
  subst e
  obtain ⟨a1, ⟨t, bs, m, s1, s2, s3⟩⟩ := b
  obtain ⟨t', bs', m', s1', s2', s3'⟩ := s1.grow h tx9
  have l9 : ("9" : Str).length = 1 := by decide
  exact ⟨a1.mut h, t', bs', m', s1', by omega, by omega⟩
theorem Grown.bv {K : PySem.W.Frag} {H H' : Hp} {v : V} {n : Nat} (g : Grown H v H') (b : Bv K H n v) : Bv K H' (n + 1) v := by
  cases g with
  | same =>
    obtain ⟨a1, ⟨t, bs, m, s1, s2, s3⟩⟩ := b
    exact ⟨a1, t, bs, m, s1, by omega, by omega⟩
  | app z h => exact b.grow z h
theorem shwAll_len {H : Hp} : ∀ {ys : List V} {ts : List Str} {bs : List Addr} {d : Nat}, ShwAll H ys ts bs d → ys.length = ts.length
  | _, _, _, _, .nil => rfl
  | _, _, _, _, .cons _ _ _ t => congrArg (· + 1) (shwAll_len t)
theorem piled_ge : ∀ ts : List Str, ts.length ≤ piled ts
  | [] => Nat.zero_le _
  | t :: ts => by
    have := piled_ge ts
    rw [piled_cons, List.length_cons]
    omega
section
variable {P : Program} {w : World} {K : PySem.W.Frag} {mg : Str → Option Value} {base : Heap} {f : Addr} {fd : FuncData}
def spSame (K : PySem.W.Frag) : Sp := fun vs H Q _ => ∃ (m : Addr) (wd : Str) (v : V) (n : Nat), vs = [.ref m, .str wd, v] ∧ H m = some (.lst [.str wd, v]) ∧ Bv K H n v ∧ n ≤ 20 ∧ (∀ a, v = .ref a → a ≠ m) ∧ ∀ H', Grown H v H' → Q (.bl true) H'
theorem ok_same (hd : base.NoDigits) (T : Txt K mg) (F : FnP K "_law_same" s__law_same f fd) : Fg P w K mg base CX0 1 f fd ["_law_met_here", "_law_word", "_law_bad"] (spSame K) := by
  refine fg_of F sc__law_same (fun vs H Q E h => ?_) (fun cdv A outer s H vs Q E hr h => ⟨_, (PSs.nox (pss_cons (ps_if (PW.pt (pw_or (pt_cmpR (u_ne (K := K) hr) (pe_ix (u_ix (K := K)) (pv 0) pe_int (fun _ _ => rfl)) (pv 1) (nomark _)) (pw_or1 (pt_cmpR (u_ne (K := K) hr) (pe_callB (call_reprS hr hd) (by rfl) T.f_repr (by decide +kernel) (pa_cons (pe_ix (u_ix (K := K)) (pv 0) pe_int (fun _ _ => rfl)) pa_nil)) (pe_callB (call_reprS hr hd) (by rfl) T.f_repr (by decide +kernel) (pa_cons (pv 2) pa_nil)) (nomark _)))))
  (pss_one (ps_ret pe_bl)) pss_nil)
  (pss_cons (ps_if (pt_tru (K := K) (pe_callB (u_isi (K := K)) (by rfl) T.f_isinstance (by decide +kernel) (pa_cons (pv 2) (pa_cons (pe_bltn (v := .ty "list") rfl T.f_list (by decide +kernel) rfl) pa_nil))) (by intro _; rfl))
  (pss_one (ps_expr (pe_bm PySem.F.plainAttrs_list PySem.F.slot_list_append PySem.F.type_list_append mt_append (pv 2) (pa_cons pe_int pa_nil)))) pss_nil)
  (pss_one (ps_ret (pe_cmpR (u_eq (K := K) hr) (pe_callB (call_reprS hr hd) (by rfl) T.f_repr (by decide +kernel) (pa_cons (pe_ix (u_ix (K := K)) (pv 0) pe_int (fun _ _ => rfl)) pa_nil)) (pe_callB (call_reprS hr hd) (by rfl) T.f_repr (by decide +kernel) (pa_cons (pv 2) pa_nil)) (nomark _))))))), ?_⟩)
  · obtain ⟨m, wd, v, n, rfl, _⟩ := h
    rfl
  · obtain ⟨m, wd, v, n, rfl, hm, b, hn, nm, q⟩ := h
    obtain ⟨t, bs, d, s1, s2, s3⟩ := b.shw
    have sz : (20000 : Nat) ≤ sizeLine := by decide
    have fin : ∀ H', Grown H v H' → H' m = some (.lst [.str wd, v]) → tRet (tOp (rEqU K) (tCB rReprS (tCons (tOp (rIx K) (tVar 0) (tC (V.int 1))) tNil)) (tCB rReprS (tCons (tVar 2) tNil))) { nx := fun _ H' => Q V.non H', rt := Q } [some (.ref m), some (.str wd), some v] H' := by
      intro H' g hm'
      obtain ⟨a1, ⟨t, bs, d, s1, s2, s3⟩⟩ := g.bv b
      refine ⟨_, rfl, .inl ⟨m, _, 1, _, rfl, rfl, SqL.of hm', rfl, v, t, bs, d, rfl, s1, by omega, by omega, _, rfl, v, t, bs, d, rfl, s1, by omega, by omega, .inl ⟨rfl, ?_⟩⟩⟩
      rw [decide_eq_true rfl]
      exact q H' g
    refine ⟨_, rfl, .inl ⟨m, _, 0, _, rfl, rfl, SqL.of hm, rfl, _, rfl, .inl ⟨rfl, _, rfl, same_ne ?_⟩⟩⟩
    refine ⟨_, rfl, .inl ⟨m, _, 1, _, rfl, rfl, SqL.of hm, rfl, v, t, bs, d, rfl, s1, by omega, by omega, _, rfl, v, t, bs, d, rfl, s1, by omega, by omega, .inl ⟨rfl, _, rfl, same_ne ?_⟩⟩⟩
    have fs := fin H .same hm
    have gr : ∀ (a : Addr) (xs : List V), v = .ref a → H a = some (.lst xs) → xs.length < 100000 → tDrop (tBM K "list" rAppend (tVar 2) (tCons (tC (V.int 9)) tNil)) { nx := fun σ' H' => tRet (tOp (rEqU K) (tCB rReprS (tCons (tOp (rIx K) (tVar 0) (tC (V.int 1))) tNil)) (tCB rReprS (tCons (tVar 2) tNil))) { nx := fun _ H' => Q V.non H', rt := Q } σ' H', rt := Q } [some (.ref m), some (.str wd), some v] H := by
      intro a xs e ha hl
      subst e
      refine ⟨_, rfl, .inl ⟨rfl, _, SqL.of ha⟩, a, xs, _, rfl, rfl, ha, Nat.lt_of_lt_of_le hl (by decide), fin _ (.app rfl ha) ?_⟩
      rw [upd_ne (Ne.symm (nm a rfl))]
      exact hm
    cases s1 with
    | flat tx =>
      cases tx with
      | non => exact ⟨_, rfl, _, _, _, _, false, rfl, .ty _, .base .non, kit_ty (by decide +kernel), false, rfl, iteF fs⟩
      | bl c => exact ⟨_, rfl, _, _, _, _, false, rfl, .ty _, .base (.bl c), kit_ty (by decide +kernel), false, rfl, iteF fs⟩
      | int i hi => exact ⟨_, rfl, _, _, _, _, false, rfl, .ty _, ty_int K H i, kit_ty (by decide +kernel), false, rfl, iteF fs⟩
      | str x hx => exact ⟨_, rfl, _, _, _, _, false, rfl, .ty _, .base (.str x), kit_ty (by decide +kernel), false, rfl, iteF fs⟩
    | dct ha pt => exact ⟨_, rfl, _, _, _, _, false, rfl, .ty _, .base (.dK ha), kit_ty (by decide +kernel), false, rfl, iteF fs⟩
    | tup ha hs na => exact ⟨_, rfl, _, _, _, _, false, rfl, .ty _, (Sv.tup (K := K) ha).ty, kit_ty (by decide +kernel), false, rfl, iteF fs⟩
    | lst0 ha => exact ⟨_, rfl, _, _, _, _, true, rfl, .ty _, (Sv.lst (K := K) ha).ty, kit_ty (by decide +kernel), true, rfl, iteT (gr _ _ rfl ha (by decide))⟩
    | @lst _ ys ts _ _ ha ne hs na =>
      have hl : ys.length < 100000 := by
        have l1 := shwAll_len hs
        have l2 := piled_ge ts
        have l3 := piled_le_listText ts
        omega
      exact ⟨_, rfl, _, _, _, _, true, rfl, .ty _, (Sv.lst (K := K) ha).ty, kit_ty (by decide +kernel), true, rfl, iteT (gr _ _ rfl ha hl)⟩
/-! ### what is met, and what is the same -/
theorem shw_there {H : Hp} {a : Addr} {t : Str} {bs : List Addr} {d : Nat} (h : Shw H (.ref a) t bs d) : H a ≠ none := by
  intro z
  cases h with
  | flat tx => cases tx
  | dct h => rw [z] at h; cases h
  | lst0 h => rw [z] at h; cases h
  | lst h => rw [z] at h; cases h
  | tup h => rw [z] at h; cases h
theorem Bv.there {H : Hp} {n : Nat} {v : V} (b : Bv K H n v) : ∀ a, v = .ref a → H a ≠ none := by
  rintro a rfl
  obtain ⟨t, bs, d, s, _⟩ := b.shw
  exact shw_there s
theorem bv_int {H : Hp} {i : Int} (h : i.natAbs < 10 ^ 1300) : Bv K H 0 (.int i) := by
  refine ⟨.flat (.int i h), txI i, [], 0, .flat (.int i (Nat.lt_trans h (Nat.pow_lt_pow_right (by decide) (by decide)))), by decide, ?_⟩
  have := int_text_length_le10 (k := 1300) (by decide) h
  show (Str.ofString (toString i)).length ≤ _
  rw [PySem.ofString_length]
  omega
theorem Odd.bv {H0 H : Hp} {v : V} (o : Odd K H0 H v) : Bv K H 0 v := by
  obtain ⟨d, a, _⟩ := o.at_
  obtain ⟨t, bs, d, s, l1, l2⟩ := o.shw
  exact ⟨a.val, t, bs, d, s, by omega, by omega⟩
variable {H : Hp} {Q : VK} {E : XK}
theorem met_num {n c : Nat} {nm : Bool} (hn : n < 256 ^ c) (hc : c ≤ 8) (q : ∀ (t l : Addr) (H' : Hp), H l = none → Evl.Ex H H' → H' t = some (.tup (IV (octO n c))) → H' l = some (.lst [.str "told", .ref t]) → Q (.ref l) H') : spMet K [.int 0, .int (n : Int), .int (c : Int), .bl nm] H Q E := by
  have nn : isN (.int (n : Int)) (.int (c : Int)) = true := by
    show (decide ((0 : Int) ≤ (n : Int)) && decide ((n : Int) < 2 ^ (8 * ((c : Int)).toNat))) = true
    have e2 : ((2 ^ (8 * c) : Nat) : Int) = (2 : Int) ^ (8 * c) := by simp
    have lt : n < 2 ^ (8 * c) := by rw [Nat.pow_mul]; exact hn
    have e3 : (n : Int) < ((2 ^ (8 * c) : Nat) : Int) := by exact_mod_cast lt
    rw [decide_eq_true (by omega), Int.toNat_natCast, decide_eq_true (by rw [← e2]; exact e3)]
    rfl
  have due : dueMet 0 (.int (n : Int)) (.int (c : Int)) .other .other = none := by
    unfold dueMet
    rw [if_pos rfl, if_neg (by rw [isIx_int (by omega) (by omega)]; simp), if_neg (by rw [nn]; simp)]
  have bn : (n : Int).natAbs < 10 ^ 1300 := pow_le_1300 (n := c) (by omega) (by omega) (by exact_mod_cast hn)
  refine ⟨0, _, _, .other, .other, nm, rfl, by decide, .flat (.int _ bn), .flat (.int _ (Nat.lt_of_le_of_lt (m := 255) (by omega) (by decide +kernel))), fun z => absurd rfl z, by decide, fun wd y h => ?_, fun _ _ c' n' e1 e2 => ?_, fun _ z => absurd rfl z⟩
  · rw [due] at h
    cases h
  · have e1 := V.int.inj e1
    have e2 := V.int.inj e2
    obtain rfl : c = c' := by omega
    obtain rfl : n = n' := by omega
    exact q
theorem met_bad {way : Nat} {v u y : V} {d e : Dn} {nm : Bool} {wd : Str} (hw : way ≤ 5) (hv : Val K H v) (hu : Val K H u) (hvu : way ≠ 0 → At K H v d ∧ At K H u e) (l : d.len ≤ 600) (due : dueMet way v u d e = some (wd, y)) (q : ∀ (l : Addr) (H' : Hp), H l = none → Evl.Ex H H' → H' l = some (.lst [.str wd, y]) → Q (.ref l) H') : spMet K [.int (way : Int), v, u, .bl nm] H Q E := by
  refine ⟨way, v, u, d, e, nm, rfl, hw, hv, hu, hvu, l, fun wd' y' h => ?_, fun h => ?_, fun h => ?_⟩
  · rw [due] at h
    cases h
    exact q
  · rw [due] at h
    cases h
  · rw [due] at h
    cases h
theorem same_q {m : Addr} {wd : Str} {v : V} {n : Nat} {H0 : Hp} (hm : H m = some (.lst [.str wd, v])) (b : Bv K H n v) (hn : n ≤ 20) (b0 : Bv K H0 n v) (nm : H0 m = none) (q : ∀ H', Grown H v H' → Q (.bl true) H') : spSame K [.ref m, .str wd, v] H Q E :=
  ⟨m, wd, v, n, rfl, hm, b, hn, fun a z => fun z2 => b0.there a z (by rw [z2]; exact nm), q⟩
end
end K2
namespace K2
open PySem PySem.Spec PyProof.Rows L2 VB BM
theorem octO_oct (n c : Nat) : Oct (octO n c) := by
  intro o ho
  obtain ⟨i, _, rfl⟩ := List.mem_map.mp ho
  omega
theorem shw_told {H : Hp} {l t : Addr} {os : List Int} (hl : H l = some (.lst [.str "told", .ref t])) (ht : H t = some (.tup (IV os))) (oo : Oct os) (lo : os.length ≤ 40) :
    Shw H (.ref l) (listText [reprText "told", tupleText (os.map txI)]) [l, t] 2 ∧ (listText [reprText "told", tupleText (os.map txI)]).length ≤ 2000 := by
  have lt : l ≠ t := fun z => by rw [z, ht] at hl; cases hl
  refine ⟨.lst hl (fun z => by cases z) (.cons (.flat (sh_s ⟨by decide +kernel, by decide +kernel⟩).2) (fun _ z => by cases z) (Nat.zero_le 1) (.cons (.tup (bs := []) (d := 0) ht (ShwAll.iv (big_small oo)) (fun z => by cases z)) (fun _ z => z) (Nat.le_refl 1) .nil)) (fun z => lt (by simpa using z)), ?_⟩
  have h1 : (tupleText (os.map txI)).length ≤ 300 := by
    have := tupleText_le (b := 4) (os.map txI) (fun t ht => by
      obtain ⟨o, ho, rfl⟩ := List.mem_map.mp ht
      exact int_len (oo o ho))
    rw [List.length_map] at this
    omega
  have h2 : (reprText "told").length ≤ 300 := by decide +kernel
  have := listText_le (b := 300) [reprText "told", tupleText (os.map txI)] (fun t ht => by
    simp only [List.mem_cons, List.not_mem_nil, or_false] at ht
    rcases ht with rfl | rfl
    · exact h2
    · exact h1)
  have e : [reprText "told", tupleText (os.map txI)].length = 2 := rfl
  rw [e] at this
  omega
theorem Grown.int {H H' : Hp} {i : Int} (g : Grown H (.int i) H') : H' = H := by
  cases g with
  | same => rfl
  | app z => cases z
theorem Grown.val {K : PySem.W.Frag} {H H' : Hp} {v x : V} (g : Grown H v H') (h : Val K H x) : Val K H' x := by
  cases g with
  | same => exact h
  | app z ha => exact h.mut ha
/-- what stands elsewhere stays -/
theorem Grown.keep {H H' : Hp} {v : V} {L : Addr} {o : HO} (g : Grown H v H') (h : H L = some o) (n : v ≠ .ref L) : H' L = some o := by
  cases g with
  | same => exact h
  | @app a xs z ha =>
    have : L ≠ a := fun e => n (by rw [z, e])
    rw [upd_ne this]
    exact h
theorem due_num {v : V} {c : Nat} (hc : c ≤ 8) (h : isN v (.int (c : Int)) = false) : dueMet 0 v (.int (c : Int)) .other .other = some (("number" : Str), v) := by
  unfold dueMet
  rw [if_pos rfl, if_neg (by rw [isIx_int (by omega) (by omega)]; simp), if_pos h]
theorem due_cnt {v u : V} (h : isIx u 0 8 = false) : dueMet 0 v u .other .other = some (("count" : Str), u) := by
  unfold dueMet
  rw [if_pos rfl, if_pos h]
theorem isN_neg {i : Int} {c : Nat} (h : i < 0 ∨ ((256 ^ c : Nat) : Int) ≤ i) : isN (.int i) (.int (c : Int)) = false := by
  show (decide ((0 : Int) ≤ i) && decide (i < 2 ^ (8 * ((c : Int)).toNat))) = false
  have e2 : ((256 ^ c : Nat) : Int) = (2 : Int) ^ (8 * c) := by
    rw [show (256 : Nat) = 2 ^ 8 by decide, ← Nat.pow_mul]
    simp
  rcases h with h | h
  · rw [decide_eq_false (by omega)]
    rfl
  · rw [Int.toNat_natCast, decide_eq_false (show ¬ i < 2 ^ (8 * c) by rw [← e2]; omega)]
    simp
theorem isN_odd {v u : V} (h : isI v = false) : isN v u = false := by
  cases v with
  | int i => cases h
  | _ => rfl
section
variable {P : Program} {w : World} {K : PySem.W.Frag} {mg : Str → Option Value} {base : Heap} {f : Addr} {fd : FuncData}
theorem ok_count_right (hd : base.NoDigits) (T : Txt K mg) (F : FnP K "_law_count_right" s__law_count_right f fd) (C__law_take : Cal P w K mg base CX0 1 "_law_take" ["_law_box_here", "_law_many"] spTake) (C__law_odd : Cal P w K mg base CX0 1 "_law_odd" ["_law_kind"] (spOdd K)) (C__law_parts : Cal P w K mg base CX0 1 "_law_parts" ["_law_number", "_law_count"] spParts)
    (C__law_met : Cal P w K mg base CX0 7 "_law_met" ["_law_way", "_law_one", "_law_other", "_law_named"] (spMet K)) (C__law_same : Cal P w K mg base CX0 1 "_law_same" ["_law_met_here", "_law_word", "_law_bad"] (spSame K)) : Fg P w K mg base CX0 8 f fd ["_law_box_here"] spNR := by
  refine fg_of F sc__law_count_right (fun vs H Q E h => ?_) (fun cdv A outer s H vs Q E hr h => ⟨_, (PSs.nox (pss_cons (ps_set (i := 1) sc__law_count_right.nd rfl (by first | exact Or.inl rfl | exact Or.inr rfl) pe_int)
  (pss_cons (ps_set (i := 2) sc__law_count_right.nd rfl (by first | exact Or.inl rfl | exact Or.inr rfl) (pe_cal C__law_take hr.le pass0 (pa_cons (pv 0) (pa_cons pe_int pa_nil))))
  (pss_cons (ps_for PassesOwn.never rfl (pi_range1 rfl T.f_range (pa_cons (pv 2) pa_nil)) (pg_name (i := 3) sc__law_count_right.nd rfl (by first | exact Or.inl rfl | exact Or.inr rfl))
  (pss_one (ps_set (i := 1) sc__law_count_right.nd rfl (by first | exact Or.inl rfl | exact Or.inr rfl) (pe_op (u_mul (K := K)) (pv 1) pe_int))))
  (pss_cons (ps_par3 (i := 4) (j := 5) (l := 6) rfl sc__law_count_right.nd rfl rfl rfl (by decide) (by decide) (by decide) rfl rfl rfl (pa_cons (pe_cal C__law_take hr.le pass0 (pa_cons (pv 0) (pa_cons pe_int pa_nil))) (pa_cons (pe_cal C__law_take hr.le pass0 (pa_cons (pv 0) (pa_cons pe_int pa_nil))) (pa_cons (pe_cal C__law_take hr.le pass0 (pa_cons (pv 0) (pa_cons pe_int pa_nil))) pa_nil))) (by rfl))
  (pss_cons (ps_for PassesOwn.never rfl (pi_seq (K := K) (pe_lst (pa_cons pe_int (pa_cons (pe_op op_sub (pv 1) pe_int) (pa_cons (pe_op u_fdiv (pv 1) pe_int) (pa_cons (pe_callB (call_min2 rfl) (by rfl) T.f_min (by decide +kernel) (pa_cons (pv 4) (pa_cons (pe_op op_sub (pv 1) pe_int) pa_nil))) pa_nil)))))) (pg_name (i := 7) sc__law_count_right.nd rfl (by first | exact Or.inl rfl | exact Or.inr rfl))
  (pss_one (ps_for PassesOwn.never rfl (pi_seq (K := K) (pe_lst (pa_cons pe_bl (pa_cons pe_bl pa_nil)))) (pg_name (i := 8) sc__law_count_right.nd rfl (by first | exact Or.inl rfl | exact Or.inr rfl))
  (pss_one (ps_if (pt_cmpR (u_ne (K := K) hr) (pe_callB (call_reprS hr hd) (by rfl) T.f_repr (by decide +kernel) (pa_cons (pe_cal C__law_met hr.le pass0 (pa_cons pe_int (pa_cons (pv 7) (pa_cons (pv 2) (pa_cons (pv 8) pa_nil))))) pa_nil)) (pe_callB (call_reprS hr hd) (by rfl) T.f_repr (by decide +kernel) (pa_cons (pe_lst (pa_cons pe_str (pa_cons (pe_cal C__law_parts hr.le pass0 (pa_cons (pv 7) (pa_cons (pv 2) pa_nil))) pa_nil))) pa_nil)) (nomark _))
  (pss_one (ps_ret pe_bl)) pss_nil)))))
  (pss_cons (ps_for PassesOwn.never rfl (pi_seq (K := K) (pe_lst (pa_cons (pv 1) (pa_cons (pe_un un_neg pe_int) (pa_cons (pe_op (u_add (K := K)) (pv 1) (pv 4)) (pa_cons (pe_op op_sub pe_int (pv 1)) (pa_cons (pe_op (u_mul (K := K)) (pv 1) (pe_op op_pow pe_int pe_int)) (pa_cons (pe_cal C__law_odd hr.le pass0 (pa_cons (pv 5) pa_nil)) pa_nil)))))))) (pg_name (i := 7) sc__law_count_right.nd rfl (by first | exact Or.inl rfl | exact Or.inr rfl))
  (pss_one (ps_if (pt_not (pt_tru (K := K) (pe_cal C__law_same hr.le pass0 (pa_cons (pe_cal C__law_met hr.le pass0 (pa_cons pe_int (pa_cons (pv 7) (pa_cons (pv 2) (pa_cons (pe_cmpR op_gt (pv 4) pe_int (nomark _)) pa_nil))))) (pa_cons pe_str (pa_cons (pv 7) pa_nil)))) (by intro _; rfl)))
  (pss_one (ps_ret pe_bl)) pss_nil)))
  (pss_cons (ps_for PassesOwn.never rfl (pi_seq (K := K) (pe_lst (pa_cons pe_int (pa_cons (pe_un un_neg pe_int) (pa_cons (pe_op op_pow pe_int pe_int) (pa_cons (pe_cal C__law_odd hr.le pass0 (pa_cons (pv 6) pa_nil)) (pa_cons (pe_op (u_add (K := K)) pe_int (pv 4)) (pa_cons (pe_op op_sub (pe_un un_neg pe_int) (pv 4)) pa_nil)))))))) (pg_name (i := 9) sc__law_count_right.nd rfl (by first | exact Or.inl rfl | exact Or.inr rfl))
  (pss_one (ps_for PassesOwn.never rfl (pi_seq (K := K) (pe_lst (pa_cons pe_int (pa_cons (pv 4) (pa_cons (pe_un un_neg pe_int) (pa_cons (pe_cal C__law_odd hr.le pass0 (pa_cons (pv 5) pa_nil)) pa_nil)))))) (pg_name (i := 7) sc__law_count_right.nd rfl (by first | exact Or.inl rfl | exact Or.inr rfl))
  (pss_one (ps_if (pt_not (pt_tru (K := K) (pe_cal C__law_same hr.le pass0 (pa_cons (pe_cal C__law_met hr.le pass0 (pa_cons pe_int (pa_cons (pv 7) (pa_cons (pv 9) (pa_cons (pe_cmpR op_lt (pv 4) pe_int (nomark _)) pa_nil))))) (pa_cons pe_str (pa_cons (pv 9) pa_nil)))) (by intro _; rfl)))
  (pss_one (ps_ret pe_bl)) pss_nil)))))
  (pss_one (ps_ret pe_bl)))))))))), ?_⟩)
  · obtain ⟨bx, c, rfl, _⟩ := h
    rfl
  · obtain ⟨bx, k, rfl, B, hk, q⟩ := h
    refine ⟨_, rfl, bx, 9, k, rfl, B, by omega, by omega, by omega, fun r H1 r0 r1 e1 B1 => ?_⟩
    obtain ⟨c, rfl⟩ : ∃ n : Nat, r = (n : Int) := ⟨r.toNat, by omega⟩
    have hc : c ≤ 8 := by omega
    refine ⟨_, rfl, (c : Int), rfl, by omega, by omega, ?_⟩
    have cn : ((c : Int)).toNat = c := by omega
    rw [cn]
    refine for_range (lo := 0) (n := c) (fun i σ H' => i ≤ c ∧ H' = H1 ∧ ∃ v3 : Option V, σ = [some (.ref bx), some (.int (((256 ^ i : Nat)) : Int)), some (.int (c : Int)), v3, none, none, none, none, none, none]) ⟨by omega, rfl, none, by simp; rfl⟩ ?_ ?_
    · rintro i σ H' hi ⟨_, rfl, v3, rfl⟩
      have lt : (((256 ^ i : Nat)) : Int).natAbs < 2 ^ 100 := by
        rw [Int.natAbs_natCast]
        exact Nat.lt_of_le_of_lt (Nat.pow_le_pow_right (by decide) (show i ≤ 8 by omega)) (by decide)
      refine ⟨_, rfl, .inl ⟨_, _, rfl, rfl, mulx_ok (a := 100) (b := 20) lt (by decide) (by decide), hi, rfl, some (.int (0 + (i : Int))), ?_⟩⟩
      have e : (((256 ^ i : Nat)) : Int) * 256 = ((256 ^ (i + 1) : Nat) : Int) := by
        rw [Nat.pow_succ]
        omega
      dsimp only
      rw [e]
      rfl
    · rintro σ H' ⟨_, rfl, v3, rfl⟩
      have P8 : 256 ^ c ≤ 256 ^ 8 := Nat.pow_le_pow_right (by decide) hc
      have P1 : 1 ≤ 256 ^ c := Nat.pow_pos (by decide)
      have P8' : 256 ^ c ≤ 18446744073709551616 := P8
      refine ⟨_, rfl, bx, 256, _, rfl, B1, by omega, by omega, by omega, fun lw H2 l0 l1 e2 B2 => ⟨_, rfl, bx, 14, _, rfl, B2, by omega, by omega, by omega, fun kd H3 k0 k1 e3 B3 => ⟨_, rfl, bx, 14, _, rfl, B3, by omega, by omega, by omega, fun mo H4 m0 m1 e4 B4 => ⟨_, _, _, rfl, ?_⟩⟩⟩⟩
      obtain ⟨kd, rfl⟩ : ∃ n : Nat, kd = (n : Int) := ⟨kd.toNat, by omega⟩
      obtain ⟨mo, rfl⟩ : ∃ n : Nat, mo = (n : Int) := ⟨mo.toNat, by omega⟩
      obtain ⟨lw, rfl⟩ : ∃ n : Nat, lw = (n : Int) := ⟨lw.toNat, by omega⟩
      have X4 := ((e1.trans e2).trans e3).trans e4
      have p2 : (0 : Int) < 2 ∧ (2 : Int) < 1073741824 := by decide
      generalize hP : 256 ^ c = M at P1 P8'
      -- the first loop
      refine .inl ⟨_, rfl, _, _, rfl, rfl, _, rfl, _, _, rfl, rfl, p2, _, rfl, _, rfl, _, _, rfl, rfl, _, _, rfl, by show 4 ≤ sizeLine; decide, fun L nL => ⟨L, rfl, ⟨_, SqL.of upd_same⟩, ?_⟩⟩
      refine for_it walk_list (fun i σ H' => ∃ v7 v8 v9 : Option V, σ = [some (.ref bx), some (.int (M : Int)), some (.int (c : Int)), v3, some (.int (lw : Int)), some (.int (kd : Int)), some (.int (mo : Int)), v7, v8, v9] ∧ Evl.Ex (upd H4 L (.lst [.int 0, .int ((M : Int) - 1), .int ((M : Int) / 2), .int (if (M : Int) - 1 < (lw : Int) then (M : Int) - 1 else (lw : Int))])) H') ⟨none, none, none, rfl, Evl.Ex.refl _⟩ (fun _ _ _ _ h => by obtain ⟨_, _, _, _, e⟩ := h; exact SqL.of (e _ _ upd_same)) ?_ ?_
      · rintro i x σ H5 H5' hi ⟨v7, v8, v9, rfl, e5⟩ ⟨rfl, hx⟩
        obtain ⟨n, rfl, hn⟩ : ∃ n : Nat, x = .int (n : Int) ∧ n < M := by
          have hm := List.mem_of_getElem? hx
          simp only [List.mem_cons, List.not_mem_nil, or_false] at hm
          rcases hm with rfl | rfl | rfl | rfl
          · exact ⟨0, rfl, by omega⟩
          · exact ⟨M - 1, by congr 1; omega, by omega⟩
          · exact ⟨M / 2, by congr 1, by omega⟩
          · split
            · exact ⟨M - 1, by congr 1; omega, by omega⟩
            · exact ⟨lw, rfl, by omega⟩
        have hn' : n < 256 ^ c := by rw [hP]; exact hn
        refine .inl ⟨by show 2 ≤ sizeLine; decide, fun L2 nL2 => ⟨L2, rfl, ⟨_, SqL.of upd_same⟩, ?_⟩⟩
        refine for_it walk_list (fun j σ H' => ∃ v8 : Option V, σ = [some (.ref bx), some (.int (M : Int)), some (.int (c : Int)), v3, some (.int (lw : Int)), some (.int (kd : Int)), some (.int (mo : Int)), some (.int (n : Int)), v8, v9] ∧ Evl.Ex (upd H5' L2 (.lst [.bl false, .bl true])) H') ⟨v8, rfl, Evl.Ex.refl _⟩ (fun _ _ _ _ h => by obtain ⟨_, _, e⟩ := h; exact SqL.of (e _ _ upd_same)) ?_ ?_
        · rintro j x σ H6 H6' hj ⟨v8, rfl, e6⟩ ⟨rfl, hx⟩
          obtain ⟨nm, rfl⟩ : ∃ nm : Bool, x = .bl nm := by
            have hm := List.mem_of_getElem? hx
            simp only [List.mem_cons, List.not_mem_nil, or_false] at hm
            rcases hm with rfl | rfl
            · exact ⟨_, rfl⟩
            · exact ⟨_, rfl⟩
          refine ⟨_, rfl, _, rfl, _, rfl, met_num (E := E0) hn' hc fun t l H7 nl e7 ht hl => ?_⟩
          have oo := octO_oct n c
          have lo : (octO n c).length ≤ 40 := by rw [octO_len]; omega
          have s1 := shw_told hl ht oo lo
          have sz : (2000 : Nat) ≤ sizeLine := by decide
          refine ⟨.ref l, _, _, _, rfl, s1.1, by decide, by omega, _, rfl, _, rfl, n, c, rfl, hc, fun t2 H8 nt2 e8 ht2 => ⟨by show 2 ≤ sizeLine; decide, fun l2 nl2 => ?_⟩⟩
          have y8 := Evl.Ex.new (o := .lst [V.str "told", .ref t2]) nl2
          have s2 := shw_told (upd_same (H := H8) (a := l2) (o := .lst [V.str "told", .ref t2])) (y8 _ _ ht2) oo lo
          refine ⟨.ref l2, _, _, _, rfl, s2.1, by decide, by omega, .inl ⟨rfl, _, rfl, same_ne ?_⟩⟩
          exact ⟨_, rfl, ((e6.trans e7).trans e8).trans y8⟩
        · rintro σ H6 ⟨v8, rfl, e6⟩
          exact ⟨_, _, _, rfl, (e5.trans (Evl.Ex.new nL2)).trans e6⟩
      rintro σ H5 ⟨v7, v8, v9, rfl, e5⟩
      have X5 := (Evl.Ex.new nL).trans e5
      -- the second loop
      have hp40 : CPow 10 40 := ⟨by decide, by decide, by decide⟩
      have km : CMulX (M : Int) (10 ^ (40 : Int).toNat) := mulx_ok (a := 70) (b := 140) (by rw [Int.natAbs_natCast]; exact Nat.lt_of_le_of_lt P8' (by decide)) (by decide) (by decide)
      have bM : ∀ i : Int, i.natAbs < 10 ^ 100 → i.natAbs < 10 ^ 1300 := fun i h => Nat.lt_trans h (Nat.pow_lt_pow_right (by decide) (by decide))
      have c40 : (10 : Int) ^ (40 : Int).toNat = 10000000000000000000000000000000000000000 := by decide +kernel
      refine .inl ⟨_, rfl, _, rfl, _, rfl, _, rfl, .inl ⟨_, _, rfl, rfl, _, rfl, _, _, rfl, rfl, _, rfl, _, _, rfl, rfl, hp40, .inl ⟨_, _, rfl, rfl, km, _, rfl, kd, rfl, by omega, fun v H6 e6 O => ⟨by show 6 ≤ sizeLine; decide, fun L6 nL6 => ⟨L6, rfl, ⟨_, SqL.of upd_same⟩, ?_⟩⟩⟩⟩⟩
      have y6 := Evl.Ex.new (o := .lst [.int (M : Int), .int (-1), .int ((M : Int) + (lw : Int)), .int (0 - (M : Int)), .int ((M : Int) * 10 ^ (40 : Int).toNat), v]) nL6
      have X6 := (X5.trans e6).trans y6
      have OB := O.bv.ex y6
      have nvL : v ≠ .ref L6 := fun z => O.bv.there L6 z nL6
      refine for_it walk_list (fun i σ H' => ∃ v7 v8 v9 : Option V, σ = [some (.ref bx), some (.int (M : Int)), some (.int (c : Int)), v3, some (.int (lw : Int)), some (.int (kd : Int)), some (.int (mo : Int)), v7, v8, v9] ∧ Evl.Ex H4 H' ∧ H' L6 = some (.lst [.int (M : Int), .int (-1), .int ((M : Int) + (lw : Int)), .int (0 - (M : Int)), .int ((M : Int) * 10 ^ (40 : Int).toNat), v]) ∧ (i ≤ 5 → Evl.Ex (upd H6 L6 (.lst [.int (M : Int), .int (-1), .int ((M : Int) + (lw : Int)), .int (0 - (M : Int)), .int ((M : Int) * 10 ^ (40 : Int).toNat), v])) H')) ⟨_, _, _, rfl, X6, upd_same, fun _ => Evl.Ex.refl _⟩ (fun _ _ _ _ h => by obtain ⟨_, _, _, _, _, e, _⟩ := h; exact SqL.of e) ?_ ?_
      · rintro i x σ H7 H7' hi ⟨v7, v8, v9, rfl, e7, hL, ex7⟩ ⟨rfl, hx⟩
        have i6 : i < 6 := hi
        have ex8 := ex7 (by omega)
        clear ex7
        have D : isN x (.int (c : Int)) = false ∧ Bv K H7' 0 x ∧ (i < 5 → ∃ j, x = .int j) ∧ (∀ a, x = .ref a → H4 a = none) ∧ x ≠ .ref L6 := by
          have mk : ∀ j : Int, (j < 0 ∨ (M : Int) ≤ j) → j.natAbs < 10 ^ 100 → isN (.int j) (.int (c : Int)) = false ∧ Bv K H7' 0 (.int j) ∧ (i < 5 → ∃ k, V.int j = .int k) ∧ (∀ a, V.int j = .ref a → H4 a = none) ∧ V.int j ≠ .ref L6 := fun j h1 h2 => ⟨isN_neg (by rw [hP]; exact h1), bv_int (bM j h2), fun _ => ⟨j, rfl⟩, (fun a z => by cases z), (fun z => by cases z)⟩
          match i, i6, hx with
          | 0, _, hx => cases hx; exact mk _ (.inr (Int.le_refl _)) (Nat.lt_of_le_of_lt (m := 18446744073709551616) (by omega) (by decide +kernel))
          | 1, _, hx => cases hx; exact mk _ (.inl (by decide)) (by decide +kernel)
          | 2, _, hx => cases hx; exact mk _ (.inr (by show (M : Int) ≤ (M : Int) + (lw : Int); omega)) (Nat.lt_of_le_of_lt (m := 18446744073709552616) (by show ((M : Int) + (lw : Int)).natAbs ≤ _; omega) (by decide +kernel))
          | 3, _, hx => cases hx; exact mk _ (.inl (by show (0 : Int) - (M : Int) < 0; omega)) (Nat.lt_of_le_of_lt (m := 18446744073709551616) (by show ((0 : Int) - (M : Int)).natAbs ≤ _; omega) (by decide +kernel))
          | 4, _, hx =>
            cases hx
            refine mk _ (.inr ?_) (Nat.lt_of_le_of_lt (m := 18446744073709551616 * 10000000000000000000000000000000000000000) ?_ (by decide +kernel))
            · show (M : Int) ≤ (M : Int) * 10 ^ (40 : Int).toNat
              rw [c40]
              omega
            · show ((M : Int) * 10 ^ (40 : Int).toNat).natAbs ≤ _
              rw [c40]
              omega
          | 5, _, hx => cases hx; exact ⟨isN_odd O.int, OB.ex ex8, fun z => absurd z (by decide), fun a z => Evl.fresh_back X5 (O.new a z), nvL⟩
        obtain ⟨d1, d2, d3, d4, d5⟩ := D
        refine ⟨_, rfl, _, rfl, _, rfl, _, _, rfl, rfl, met_bad (E := E0) (way := 0) (d := .other) (e := .other) (by decide) d2.val (.flat (.int _ (Nat.lt_of_le_of_lt (m := 255) (by omega) (by decide +kernel)))) (fun z => absurd rfl z) (by decide) (due_num hc d1) fun m H8 nm e8 hm => ⟨_, rfl, m, _, x, 0, rfl, hm, d2.ex e8, by decide, (fun a z z2 => d2.there a z (by rw [z2]; exact nm)), fun H9 g => ⟨true, rfl, iteF ?_⟩⟩⟩
        refine ⟨_, _, _, rfl, g.ex (e7.trans e8) d4, g.keep (e8 _ _ hL) d5, fun i5 => ?_⟩
        obtain ⟨j, rfl⟩ := d3 (by omega)
        rw [g.int]
        exact ex8.trans e8
      · rintro σ H7 ⟨v7, v8, v9, rfl, e7, _⟩
        have hp30 : CPow 10 30 := ⟨by decide, by decide, by decide⟩
        -- the third loop
        refine .inl ⟨_, rfl, _, _, rfl, rfl, hp30, _, rfl, mo, rfl, by omega, fun w H8 e8 W => ⟨_, rfl, .inl ⟨_, _, rfl, rfl, _, rfl, _, rfl, _, _, rfl, rfl, by show 6 ≤ sizeLine; decide, fun L8 nL8 => ⟨L8, rfl, ⟨_, SqL.of upd_same⟩, ?_⟩⟩⟩⟩
        have y8 := Evl.Ex.new (o := .lst [.int 9, .int (-1), .int (10 ^ (30 : Int).toNat), w, .int (9 + (lw : Int)), .int (-2 - (lw : Int))]) nL8
        have X8 := (e7.trans e8).trans y8
        have WB := W.bv.ex y8
        have nwL : w ≠ .ref L8 := fun z => W.bv.there L8 z nL8
        refine for_it walk_list (fun i σ H' => ∃ v7 v8 v9 : Option V, σ = [some (.ref bx), some (.int (M : Int)), some (.int (c : Int)), v3, some (.int (lw : Int)), some (.int (kd : Int)), some (.int (mo : Int)), v7, v8, v9] ∧ Evl.Ex H4 H' ∧ H' L8 = some (.lst [.int 9, .int (-1), .int (10 ^ (30 : Int).toNat), w, .int (9 + (lw : Int)), .int (-2 - (lw : Int))]) ∧ (i ≤ 3 → Evl.Ex (upd H8 L8 (.lst [.int 9, .int (-1), .int (10 ^ (30 : Int).toNat), w, .int (9 + (lw : Int)), .int (-2 - (lw : Int))])) H')) ⟨_, _, _, rfl, X8, upd_same, fun _ => Evl.Ex.refl _⟩ (fun _ _ _ _ h => by obtain ⟨_, _, _, _, _, e, _⟩ := h; exact SqL.of e) ?_ ?_
        · rintro i x σ H9 H9' hi ⟨v7, v8, v9, rfl, e9, hL, ex9⟩ ⟨rfl, hx⟩
          have i6 : i < 6 := hi
          have D : isIx x 0 8 = false ∧ Bv K H9' 0 x ∧ (i ≠ 3 → ∃ j, x = .int j) ∧ (∀ a, x = .ref a → H4 a = none) ∧ x ≠ .ref L8 := by
            have mk : ∀ j : Int, (j < 0 ∨ 8 < j) → j.natAbs < 10 ^ 100 → isIx (.int j) 0 8 = false ∧ Bv K H9' 0 (.int j) ∧ (i ≠ 3 → ∃ k, V.int j = .int k) ∧ (∀ a, V.int j = .ref a → H4 a = none) ∧ V.int j ≠ .ref L8 := fun j h1 h2 => ⟨by
              show (decide ((0 : Int) ≤ j) && decide (j ≤ 8)) = false
              rcases h1 with h | h
              · rw [decide_eq_false (by omega)]
                rfl
              · rw [decide_eq_false (show ¬ j ≤ 8 by omega)]
                simp, bv_int (bM j h2), fun _ => ⟨j, rfl⟩, (fun a z => by cases z), (fun z => by cases z)⟩
            match i, i6, hx with
            | 0, _, hx => cases hx; exact mk _ (.inr (by decide)) (by decide +kernel)
            | 1, _, hx => cases hx; exact mk _ (.inl (by decide)) (by decide +kernel)
            | 2, _, hx => cases hx; exact mk _ (.inr (by decide +kernel)) (by decide +kernel)
            | 3, _, hx => cases hx; exact ⟨W.nat _ _, WB.ex (ex9 (by decide)), fun z => absurd rfl z, fun a z => Evl.fresh_back e7 (W.new a z), nwL⟩
            | 4, _, hx => cases hx; exact mk _ (.inr (by show (8 : Int) < 9 + (lw : Int); omega)) (Nat.lt_of_le_of_lt (m := 1000) (by show ((9 : Int) + (lw : Int)).natAbs ≤ _; omega) (by decide +kernel))
            | 5, _, hx => cases hx; exact mk _ (.inl (by show (-2 : Int) - (lw : Int) < 0; omega)) (Nat.lt_of_le_of_lt (m := 1000) (by show ((-2 : Int) - (lw : Int)).natAbs ≤ _; omega) (by decide +kernel))
          obtain ⟨d1, d2, d3, d4, d5⟩ := D
          refine .inl ⟨_, rfl, _, rfl, _, rfl, kd, rfl, by omega, fun z H10 e10 Z => ⟨by show 4 ≤ sizeLine; decide, fun L10 nL10 => ⟨L10, rfl, ⟨_, SqL.of upd_same⟩, ?_⟩⟩⟩
          have y10 := e10.trans (Evl.Ex.new (o := .lst [.int 0, .int (lw : Int), .int (-1), z]) nL10)
          have nxL10 : x ≠ .ref L10 := fun z2 => (d2.ex e10).there L10 z2 nL10
          have n8 : L8 ≠ L10 := fun z2 => by
            have := e10 _ _ hL
            rw [z2, nL10] at this
            cases this
          have vZ : Val K H10 z := Z.bv.val
          refine for_it walk_list (fun j σ H' => ∃ v7 v8 : Option V, σ = [some (.ref bx), some (.int (M : Int)), some (.int (c : Int)), v3, some (.int (lw : Int)), some (.int (kd : Int)), some (.int (mo : Int)), v7, v8, some x] ∧ Evl.Ex H4 H' ∧ H' L8 = some (.lst [.int 9, .int (-1), .int (10 ^ (30 : Int).toNat), w, .int (9 + (lw : Int)), .int (-2 - (lw : Int))]) ∧ H' L10 = some (.lst [.int 0, .int (lw : Int), .int (-1), z]) ∧ j ≤ 4 ∧ Bv K H' j x ∧ Val K H' z ∧ (i ≠ 3 → Evl.Ex H9' H')) ⟨_, _, rfl, e9.trans y10, y10 _ _ hL, upd_same, by decide, d2.ex y10, vZ.ex (Evl.Ex.new nL10), fun _ => y10⟩ (fun _ _ _ _ h => by obtain ⟨_, _, _, _, _, e, _⟩ := h; exact SqL.of e) ?_ ?_
          · rintro j y σ H11 H11' hj ⟨v7, v8, rfl, e11, hL8, hL10, _, b11, vz11, ex11⟩ ⟨rfl, hy⟩
            have j4 : j < 4 := hj
            have vy : Val K H11' y := by
              have hm := List.mem_of_getElem? hy
              simp only [List.mem_cons, List.not_mem_nil, or_false] at hm
              rcases hm with rfl | rfl | rfl | rfl
              · exact .flat (.int 0 (by decide +kernel))
              · exact .flat (.int _ (Nat.lt_of_le_of_lt (m := 1000) (by omega) (by decide +kernel)))
              · exact .flat (.int (-1) (by decide +kernel))
              · exact vz11
            refine ⟨_, rfl, _, rfl, _, rfl, _, _, rfl, rfl, met_bad (E := E0) (way := 0) (d := .other) (e := .other) (by decide) vy b11.val (fun z => absurd rfl z) (by decide) (due_cnt d1) fun m H12 nm e12 hm => ⟨_, rfl, m, _, x, j, rfl, hm, b11.ex e12, by omega, (fun a z z2 => b11.there a z (by rw [z2]; exact nm)), fun H13 g => ⟨true, rfl, iteF ?_⟩⟩⟩
            refine ⟨_, _, rfl, g.ex (e11.trans e12) d4, g.keep (e12 _ _ hL8) d5, g.keep (e12 _ _ hL10) nxL10, by omega, g.bv (b11.ex e12), g.val (vz11.ex e12), fun n3 => ?_⟩
            obtain ⟨k, rfl⟩ := d3 n3
            rw [g.int]
            exact (ex11 n3).trans e12
          · rintro σ H11 ⟨v7, v8, rfl, e11, hL8, hL10, _, b11, vz11, ex11⟩
            exact ⟨_, _, _, rfl, e11, hL8, fun i3 => (ex9 (by omega)).trans (ex11 (by omega))⟩
        · rintro σ H9 ⟨v7, v8, v9, rfl, e9, _⟩
          exact q _ (X4.trans (Exb.of e9)) ((B4.ex e9).le (by omega))
end
end K2
namespace K2
open PySem PySem.Spec PyProof.Rows L2 VB BM
section
variable {P : Program} {w : World} {K : PySem.W.Frag} {mg : Str → Option Value} {base : Heap} {f : Addr} {fd : FuncData}
theorem due1 {way : Nat} {v u : V} {d e : Dn} (h : way ≠ 0) (o : d.octs = false) : dueMet way v u d e = some (("octets" : Str), v) := by
  unfold dueMet
  rw [if_neg h, if_pos o]
theorem due2 {way : Nat} {v u : V} {d e : Dn} (h : 3 ≤ way) (o : d.octs = true) (o2 : e.octs = false) : dueMet way v u d e = some (("octets" : Str), u) := by
  unfold dueMet
  rw [if_neg (by omega), if_neg (by rw [o]; simp), if_neg (by omega), if_pos o2]
theorem due3 {way : Nat} {v u : V} {d e : Dn} (h : 3 ≤ way) (o : d.octs = true) (o2 : e.octs = true) (n : d.len ≠ e.len) : dueMet way v u d e = some (("octets" : Str), u) := by
  unfold dueMet
  rw [if_neg (by omega), if_neg (by rw [o]; simp), if_neg (by omega), if_neg (by rw [o2]; simp), if_pos n]
theorem due0 {way : Nat} {v u : V} {d e : Dn} (h : way ≠ 0) (o : d.octs = true) (o2 : e.octs = true) (n : d.len = e.len) : dueMet way v u d e = none := by
  unfold dueMet
  rw [if_neg h, if_neg (by rw [o]; simp)]
  split
  · rfl
  · rw [if_neg (by rw [o2]; simp), if_neg (fun k => k n)]
theorem bv_octs {H : Hp} {a : Addr} {zs : List Int} (h : H a = some (.lst (IV zs))) (oo : Oct zs) (l : zs.length ≤ 100) : Bv K H 0 (.ref a) := by
  refine ⟨.seq (t := false) (Sv.lst h), ?_⟩
  cases zs with
  | nil => exact ⟨"[]", [], 0, .lst0 h, by decide, by decide⟩
  | cons z zs =>
    have all : ShwAll H (IV (z :: zs)) ((z :: zs).map txI) [] 0 := ShwAll.iv (big_small oo)
    refine ⟨_, _, _, .lst h (fun e => by cases e) all (fun e => by cases e), by decide, ?_⟩
    have := listText_le (b := 4) ((z :: zs).map txI) (fun t ht => by
      obtain ⟨o, ho, rfl⟩ := List.mem_map.mp ht
      exact int_len (oo o ho))
    rw [List.length_map] at this
    omega
abbrev dS5 (K : PySem.W.Frag) : TS := tIfS (tTest (tOp (rNeU K) (tOp (rIx K) (tCall (spMet K) [] E0 (tCons (tVar 9) (tCons (tCB (rListI K) (tCons (tVar 2) tNil)) (tCons (tCB (rTupI K) (tCons (tVar 3) tNil)) (tCons (tVar 10) tNil))))) (tC (V.int 0))) (tC (V.str "told")))) (tRet (tC (V.bl false))) tNext
theorem d5 {D : Ends} {σ : L2.St} {H : Hp} {way : Nat} {nm : Bool} {p p2 : Addr} {xs ys : List Int} (h9 : σ[9]? = some (some (.int (way : Int)))) (h10 : σ[10]? = some (some (.bl nm))) (h2 : σ[2]? = some (some (.ref p))) (h3 : σ[3]? = some (some (.ref p2))) (hp : H p = some (.lst (IV xs))) (hp2 : H p2 = some (.lst (IV ys)))
    (ox : Oct xs) (oy : Oct ys) (lx : xs.length ≤ 40) (le : xs.length = ys.length) (w1 : 1 ≤ way) (w5 : way ≤ 5) (q : ∀ H', Evl.Ex H H' → D.nx σ H') : dS5 K D σ H := by
  refine ⟨_, h9, _, h2, Sv.listOf (Sv.lst (K := K) hp) fun l1 nl1 => ?_⟩
  have y1 := Evl.Ex.new (o := .lst (IV xs)) nl1
  refine ⟨_, h3, Sv.tupOf (Sv.lst (K := K) (y1 _ _ hp2)) fun t2 H2 e2 T2 => ?_⟩
  have A1 : At K H2 (.ref l1) (.sq false (IV xs)) := at_oct (Sv.lst (e2 _ _ upd_same)) ox (by omega)
  have A2 : At K H2 (.ref t2) (.sq true (IV ys)) := at_oct (t := true) T2 oy (by omega)
  have due : dueMet way (.ref l1) (.ref t2) (.sq false (IV xs)) (.sq true (IV ys)) = none := due0 (by omega) (octs_t ox) (octs_t oy) (by show (IV xs).length = (IV ys).length; rw [iv_len, iv_len]; exact le)
  refine ⟨_, h10, way, .ref l1, .ref t2, .sq false (IV xs), .sq true (IV ys), nm, rfl, w5, A1.val, A2.val, fun _ => ⟨A1, A2⟩, by show (IV xs).length ≤ 600; rw [iv_len]; omega, fun wd y h => ?_, fun _ z => absurd z (by omega), fun _ _ z l H3 nl e3 hl => ?_⟩
  · rw [due] at h
    cases h
  · exact .inl ⟨l, _, 0, _, rfl, rfl, SqL.of hl, rfl, .inl ⟨rfl, _, rfl, same_ne (q _ ((y1.trans e2).trans e3))⟩⟩
abbrev dWs (K : PySem.W.Frag) : TS := tSeq (tAsg (tIf (tTest (tOp (rNeU K) (tCB (rLenU K) (tCons (tVar 13) tNil)) (tVar 1))) (tCall (spMet K) [] E0 (tCons (tVar 9) (tCons (tCB (rTupI K) (tCons (tVar 2) tNil)) (tCons (tVar 13) (tCons (tVar 10) tNil))))) (tLst (tCons (tC (V.str "octets")) (tCons (tVar 13) tNil)))) (gName 14)) (tIfS (tNot (tTru K (tCall (spSame K) [] E0 (tCons (tVar 14) (tCons (tC (V.str "octets")) (tCons (tVar 13) tNil)))))) (tRet (tC (V.bl false))) tNext)
theorem dws {D : Ends} {σ : L2.St} {H : Hp} {way n : Nat} {nm : Bool} {p a : Addr} {xs zs : List Int} (h9 : σ[9]? = some (some (.int (way : Int)))) (h10 : σ[10]? = some (some (.bl nm))) (h2 : σ[2]? = some (some (.ref p))) (h1 : σ[1]? = some (some (.int (n : Int)))) (h13 : σ[13]? = some (some (.ref a))) (h14 : 14 < σ.length) (hp : H p = some (.lst (IV xs))) (ha : H a = some (.lst (IV zs)))
    (ox : Oct xs) (oz : Oct zs) (lx : xs.length = n) (n40 : n ≤ 40) (lz : zs.length ≤ 50) (w3 : 3 ≤ way) (w5 : way ≤ 5) (q : ∀ m H1 H', Evl.Ex H H1 → Grown H1 (.ref a) H' → D.nx (σ.set 14 (some (.ref m))) H') : dWs K D σ H := by
  refine asg_via (R := fun v H' => ∃ m, v = .ref m ∧ Evl.Ex H H' ∧ H m = none ∧ H' m = some (.lst [.str "octets", .ref a])) (fun Q' q' => ?_) ?_
  · refine ⟨_, h13, _, _, rfl, (Sv.lst (K := K) ha).len, _, h1, .inl ⟨rfl, _, rfl, ?_⟩⟩
    rw [iv_len]
    by_cases c : zs.length = n
    · rw [c]
      refine same_ne ⟨_, h13, by show 2 ≤ sizeLine; decide, fun m nm => q' _ _ ⟨m, rfl, Evl.Ex.new nm, nm, upd_same⟩⟩
    · rw [decide_eq_false (show ¬ V.int (zs.length : Int) = V.int (n : Int) from fun z => c (by have := V.int.inj z; omega))]
      refine iteT ⟨_, h9, _, h2, Sv.tupOf (Sv.lst (K := K) hp) fun t2 H2 e2 T2 => ?_⟩
      have A1 : At K H2 (.ref t2) (.sq true (IV xs)) := at_oct (t := true) T2 ox (by omega)
      have A2 : At K H2 (.ref a) (.sq false (IV zs)) := at_oct (Sv.lst (e2 _ _ ha)) oz (by omega)
      exact ⟨_, h13, _, h10, met_bad (E := E0) w5 A1.val A2.val (fun _ => ⟨A1, A2⟩) (by show (IV xs).length ≤ 600; rw [iv_len]; omega) (due3 w3 (octs_t ox) (octs_t oz) (by show (IV xs).length ≠ (IV zs).length; rw [iv_len, iv_len]; omega)) fun m H3 nm e3 hm => q' _ _ ⟨m, rfl, e2.trans e3, Evl.fresh_back e2 nm, hm⟩⟩
  · rintro v H2 ⟨m, rfl, e2, nm, hm⟩
    have b := bv_octs (K := K) ha oz (by omega)
    have g13 : (σ.set 14 (some (.ref m)))[13]? = some (some (.ref a)) := by rw [List.getElem?_set_ne (by decide)]; exact h13
    have g14 : (σ.set 14 (some (.ref m)))[14]? = some (some (.ref m)) := by rw [List.getElem?_set_self h14]
    exact ⟨_, g14, _, g13, m, _, _, 0, rfl, hm, b.ex e2, by decide, (fun a' z z2 => b.there a' z (by rw [z2]; exact nm)), fun H3 g => ⟨true, rfl, iteF (q m _ _ e2 g)⟩⟩
abbrev dLp (K : PySem.W.Frag) : TS := tFor (iSeq K (tLst (tCons (tOp (rAddU K) (tCB (rListI K) (tCons (tVar 3) tNil)) (tLst (tCons (tC (V.int 0)) tNil))) (tCons (tSl (rSlU K) (tCB (rListI K) (tCons (tVar 3) tNil)) (tPart (tC (V.int 1))) tNoPart) (tCons (tLst tNil) tNil))))) (gName 13) (dWs K)
theorem dlp {D : Ends} {H : Hp} {way n : Nat} {nm : Bool} {bx p p2 : Addr} {xs ys : List Int} {kd sp od mo tn : Nat} {v11 v12 v13 v14 : Option V} (hp : H p = some (.lst (IV xs))) (hp2 : H p2 = some (.lst (IV ys)))
    (ox : Oct xs) (oy : Oct ys) (lx : xs.length = n) (ly : ys.length = n) (n40 : n ≤ 40) (w3 : 3 ≤ way) (w5 : way ≤ 5) (q : ∀ v11 v12 v13 v14 H', Evl.Ex H H' → D.nx [some (.ref bx), some (.int (n : Int)), some (.ref p), some (.ref p2), some (.int (kd : Int)), some (.int (sp : Int)), some (.int (od : Int)), some (.int (mo : Int)), some (.int (tn : Int)), some (.int (way : Int)), some (.bl nm), v11, v12, v13, v14] H') :
    dLp K D [some (.ref bx), some (.int (n : Int)), some (.ref p), some (.ref p2), some (.int (kd : Int)), some (.int (sp : Int)), some (.int (od : Int)), some (.int (mo : Int)), some (.int (tn : Int)), some (.int (way : Int)), some (.bl nm), v11, v12, v13, v14] H := by
  refine .inl ⟨_, rfl, Sv.listOf (Sv.lst (K := K) hp2) fun a1 n1 => ⟨by show 1 ≤ sizeLine; decide, fun a2 n2 => ?_⟩⟩
  have y1 := Evl.Ex.new (o := .lst (IV ys)) n1
  have y2 := Evl.Ex.new (o := .lst [V.int 0]) n2
  have h1 := y2 _ _ (upd_same (H := H) (a := a1) (o := .lst (IV ys)))
  refine .inr (.inl ⟨a1, a2, _, _, rfl, rfl, h1, upd_same, by rw [iv_len]; exact Evl.sz_of (by show _ + 1 ≤ 100000; omega), fun a3 n3 => ?_⟩)
  have y3 := Evl.Ex.new (o := .lst (IV ys ++ [V.int 0])) n3
  have Y3 := (y1.trans y2).trans y3
  have h3 : _ = some (HO.lst (IV (ys ++ [0]))) := (upd_same (H := upd (upd H a1 (.lst (IV ys))) a2 (.lst [V.int 0])) (a := a3) (o := .lst (IV ys ++ [V.int 0]))).trans (by rw [iv_snoc])
  refine ⟨_, rfl, Sv.listOf (Sv.lst (K := K) (Y3 _ _ hp2)) fun b1 m1 => ?_⟩
  obtain ⟨zs, ez, oz, lz⟩ : ∃ zs : List Int, cutV (IV ys) (some 1) none = IV zs ∧ Oct zs ∧ zs.length ≤ 40 := by
    refine ⟨(ys.drop _).take _, by unfold cutV; rw [← List.map_drop, ← List.map_take], fun o ho => oy o (List.mem_of_mem_drop (List.mem_of_mem_take ho)), ?_⟩
    rw [List.length_take, List.length_drop]
    omega
  refine ⟨_, rfl, .inl ⟨b1, _, rfl, SqL.of upd_same, fun b2 m2 => ?_⟩⟩
  rw [ez]
  have y4 := (Evl.Ex.new (o := .lst (IV ys)) m1).trans (Evl.Ex.new (o := .lst (IV zs)) m2)
  have Y4 := Y3.trans y4
  have h3' := y4 _ _ h3
  have hb : _ = some (HO.lst (IV zs)) := upd_same (H := upd (upd (upd (upd H a1 (.lst (IV ys))) a2 (.lst [V.int 0])) a3 (.lst (IV ys ++ [V.int 0]))) b1 (.lst (IV ys))) (a := b2) (o := .lst (IV zs))
  refine ⟨by show 0 ≤ sizeLine; decide, fun c1 k1 => ⟨by show 3 ≤ sizeLine; decide, fun L nL => ⟨L, rfl, ⟨_, SqL.of upd_same⟩, ?_⟩⟩⟩
  have y5 := Evl.Ex.new (o := .lst []) k1
  have y6 := Evl.Ex.new (o := .lst [V.ref a3, .ref b2, .ref c1]) nL
  have Y6 := (Y4.trans y5).trans y6
  have H3 := (y5.trans y6) _ _ h3'
  have HB := (y5.trans y6) _ _ hb
  have HC := y6 _ _ (upd_same (H := upd (upd (upd (upd (upd H a1 (.lst (IV ys))) a2 (.lst [V.int 0])) a3 (.lst (IV ys ++ [V.int 0]))) b1 (.lst (IV ys))) b2 (.lst (IV zs))) (a := c1) (o := .lst []))
  have nab : a3 ≠ b2 := ne_of_none ((Evl.Ex.new (o := .lst (IV ys)) m1) _ _ h3) m2
  have nac : a3 ≠ c1 := ne_of_none h3' k1
  have nbc : b2 ≠ c1 := ne_of_none hb k1
  have naL : a3 ≠ L := ne_of_none (y5 _ _ h3') nL
  have nbL : b2 ≠ L := ne_of_none (y5 _ _ hb) nL
  have ncL : c1 ≠ L := ne_of_none (upd_same (H := upd (upd (upd (upd (upd H a1 (.lst (IV ys))) a2 (.lst [V.int 0])) a3 (.lst (IV ys ++ [V.int 0]))) b1 (.lst (IV ys))) b2 (.lst (IV zs))) (a := c1) (o := .lst [])) nL
  have fa : H a3 = none := Evl.fresh_back (y1.trans y2) n3
  have fb : H b2 = none := Evl.fresh_back (Y3.trans (Evl.Ex.new (o := .lst (IV ys)) m1)) m2
  have fc : H c1 = none := Evl.fresh_back Y4 k1
  have o3 : Oct (ys ++ [0]) := fun o ho => by
    rcases List.mem_append.mp ho with h | h
    · exact oy o h
    · have : o = 0 := by simpa using h
      omega
  have l3 : (ys ++ [0]).length ≤ 50 := by
    rw [List.length_append]
    show _ + 1 ≤ 50
    omega
  have HL := upd_same (H := upd (upd (upd (upd (upd (upd H a1 (.lst (IV ys))) a2 (.lst [V.int 0])) a3 (.lst (IV ys ++ [V.int 0]))) b1 (.lst (IV ys))) b2 (.lst (IV zs))) c1 (.lst [])) (a := L) (o := .lst [V.ref a3, .ref b2, .ref c1])
  generalize upd (upd (upd (upd (upd (upd (upd H a1 (.lst (IV ys))) a2 (.lst [V.int 0])) a3 (.lst (IV ys ++ [V.int 0]))) b1 (.lst (IV ys))) b2 (.lst (IV zs))) c1 (.lst [])) L (.lst [V.ref a3, .ref b2, .ref c1]) = G at Y6 H3 HB HC HL ⊢
  refine for_it walk_list (fun i σ H' => ∃ w11 w12 w13 w14 : Option V, σ = [some (.ref bx), some (.int (n : Int)), some (.ref p), some (.ref p2), some (.int (kd : Int)), some (.int (sp : Int)), some (.int (od : Int)), some (.int (mo : Int)), some (.int (tn : Int)), some (.int (way : Int)), some (.bl nm), w11, w12, w13, w14] ∧ Evl.Ex H H' ∧ H' L = some (.lst [.ref a3, .ref b2, .ref c1]) ∧ (i ≤ 0 → H' a3 = some (.lst (IV (ys ++ [0])))) ∧ (i ≤ 1 → H' b2 = some (.lst (IV zs))) ∧ (i ≤ 2 → H' c1 = some (.lst (IV [])))) ⟨_, _, _, _, rfl, Y6, HL, fun _ => H3, fun _ => HB, fun _ => HC⟩ (fun _ _ _ _ h => by obtain ⟨_, _, _, _, _, _, e, _⟩ := h; exact SqL.of e) ?_ ?_
  · rintro i x σ H7 H7' hi ⟨w11, w12, w13, w14, rfl, e7, hL, h3, hb, hc⟩ ⟨rfl, hx⟩
    have i3 : i < 3 := hi
    obtain ⟨a, us, rfl, hu, ou, lu, fu, nL', k2, k3⟩ : ∃ (a : Addr) (us : List Int), x = .ref a ∧ H7' a = some (.lst (IV us)) ∧ Oct us ∧ us.length ≤ 50 ∧ H a = none ∧ a ≠ L ∧ (i + 1 ≤ 1 → a ≠ b2) ∧ (i + 1 ≤ 2 → a ≠ c1) := by
      match i, i3, hx with
      | 0, _, hx => cases hx; exact ⟨a3, _, rfl, h3 (by decide), o3, l3, fa, naL, fun _ => nab, fun _ => nac⟩
      | 1, _, hx => cases hx; exact ⟨b2, _, rfl, hb (by decide), oz, by omega, fb, nbL, fun z => absurd z (by decide), fun _ => nbc⟩
      | 2, _, hx => cases hx; exact ⟨c1, _, rfl, hc (by decide), (fun _ z => by cases z), by decide, fc, ncL, fun z => absurd z (by decide), fun z => absurd z (by decide)⟩
    have rn : ∀ {a b : Addr}, a ≠ b → V.ref a ≠ .ref b := fun h z => h (by cases z; rfl)
    refine dws (way := way) (n := n) (nm := nm) (p := p) (a := a) (xs := xs) (zs := us) rfl rfl rfl rfl rfl (by show 14 < 15; decide) (e7 _ _ hp) hu ox ou lx n40 lu w3 w5 fun m H8 H9 e8 g => ?_
    exact ⟨_, _, _, _, rfl, g.ex (e7.trans e8) (fun a' z => by cases z; exact fu), g.keep (e8 _ _ hL) (rn nL'), fun z => absurd z (by omega), fun z => g.keep (e8 _ _ (hb (by omega))) (rn (k2 z)), fun z => g.keep (e8 _ _ (hc (by omega))) (rn (k3 z))⟩
  · rintro σ H7 ⟨w11, w12, w13, w14, rfl, e7, _⟩
    exact q _ _ _ _ _ e7
abbrev dS4 (K : PySem.W.Frag) : TS := tIfS (tTest (tOp (rI0 fun i j => V.bl (decide (j < i))) (tVar 9) (tC (V.int 2)))) (tSeq (tAsg (tCall (spSpo K) [] E0 (tCons (tVar 3) (tCons (tVar 4) (tCons (tVar 5) (tCons (tVar 6) tNil))))) (gName 11)) (tSeq (tIfS (tNot (tTru K (tCall (spSame K) [] E0 (tCons (tCall (spMet K) [] E0 (tCons (tVar 9) (tCons (tCB (rListI K) (tCons (tVar 2) tNil)) (tCons (tVar 11) (tCons (tVar 10) tNil))))) (tCons (tC (V.str "octets")) (tCons (tVar 11) tNil)))))) (tRet (tC (V.bl false))) tNext) (dLp K))) tNext
theorem d4 {D : Ends} {H : Hp} {way n : Nat} {nm : Bool} {bx p p2 : Addr} {xs ys : List Int} {kd sp od mo tn : Nat} {v11 v12 v13 v14 : Option V} (hp : H p = some (.lst (IV xs))) (hp2 : H p2 = some (.lst (IV ys)))
    (ox : Oct xs) (oy : Oct ys) (lx : xs.length = n) (ly : ys.length = n) (n40 : n ≤ 40) (hkd : kd < 16) (hod : od < 10) (w5 : way ≤ 5) (q : ∀ v11 v12 v13 v14 H', Evl.Ex H H' → D.nx [some (.ref bx), some (.int (n : Int)), some (.ref p), some (.ref p2), some (.int (kd : Int)), some (.int (sp : Int)), some (.int (od : Int)), some (.int (mo : Int)), some (.int (tn : Int)), some (.int (way : Int)), some (.bl nm), v11, v12, v13, v14] H') :
    dS4 K D [some (.ref bx), some (.int (n : Int)), some (.ref p), some (.ref p2), some (.int (kd : Int)), some (.int (sp : Int)), some (.int (od : Int)), some (.int (mo : Int)), some (.int (tn : Int)), some (.int (way : Int)), some (.bl nm), v11, v12, v13, v14] H := by
  refine ⟨_, rfl, _, _, rfl, rfl, _, rfl, ?_⟩
  by_cases c : (2 : Int) < (way : Int)
  · rw [decide_eq_true c]
    refine iteT ⟨_, rfl, _, rfl, _, rfl, _, rfl, p2, ys, kd, sp, od, rfl, hp2, oy, by omega, hkd, hod, fun v H1 e1 B => ?_⟩
    refine ⟨_, rfl, _, rfl, Sv.listOf (Sv.lst (K := K) (e1 _ _ hp)) fun l1 n1 => ?_⟩
    have y1 := Evl.Ex.new (o := .lst (IV xs)) n1
    have B1 := B.ex y1
    obtain ⟨d, a1, a2, a3⟩ := B1.at_
    have A1 : At K (upd H1 l1 (.lst (IV xs))) (.ref l1) (.sq false (IV xs)) := at_oct (Sv.lst upd_same) ox (by omega)
    refine ⟨_, rfl, _, rfl, met_bad (E := E0) w5 A1.val a1.val (fun _ => ⟨A1, a1⟩) (by show (IV xs).length ≤ 600; rw [iv_len]; omega) (due2 (by omega) (octs_t ox) a2) fun m H3 nm e3 hm => ⟨_, rfl, m, _, v, 0, rfl, hm, B1.bv.ex e3, by decide, (fun a z z2 => B1.bv.there a z (by rw [z2]; exact nm)), fun H4 g => ⟨true, rfl, iteF ?_⟩⟩⟩
    have E4 : Evl.Ex H H4 := g.ex ((e1.trans y1).trans e3) B.new
    exact dlp (E4 _ _ hp) (E4 _ _ hp2) ox oy lx ly n40 (by omega) w5 fun v11 v12 v13 v14 H' e' => q _ _ _ _ H' (E4.trans e')
  · rw [decide_eq_false c]
    exact iteF (q _ _ _ _ H (Evl.Ex.refl _))
abbrev dBd (K : PySem.W.Frag) : TS := tSeq (tAsg (tCall (spSpo K) [] E0 (tCons (tVar 2) (tCons (tVar 4) (tCons (tVar 5) (tCons (tVar 6) tNil))))) (gName 11)) (tSeq (tAsg (tOp (rIx K) (tLst (tCons (tCB (rListI K) (tCons (tVar 3) tNil)) (tCons (tCall (spSpo K) [] E0 (tCons (tVar 3) (tCons (tVar 7) (tCons (tVar 6) (tCons (tOp (rI (fun x j => 0 < j ∧ j < 1073741824) fun i j => V.int (i / j)) (tVar 5) (tC (V.int 4))) tNil))))) tNil))) (tVar 8)) (gName 12)) (tSeq (tIfS (tNot (tTru K (tCall (spSame K) [] E0 (tCons (tCall (spMet K) [] E0 (tCons (tVar 9) (tCons (tVar 11) (tCons (tVar 12) (tCons (tVar 10) tNil))))) (tCons (tC (V.str "octets")) (tCons (tVar 11) tNil)))))) (tRet (tC (V.bl false))) tNext) (tSeq (dS4 K) (dS5 K))))
theorem dbd {D : Ends} {H : Hp} {way n : Nat} {nm : Bool} {bx p p2 : Addr} {xs ys : List Int} {kd sp od mo tn : Nat} {v11 v12 v13 v14 : Option V} (hp : H p = some (.lst (IV xs))) (hp2 : H p2 = some (.lst (IV ys)))
    (ox : Oct xs) (oy : Oct ys) (lx : xs.length = n) (ly : ys.length = n) (n40 : n ≤ 40) (hkd : kd < 16) (hsp : sp < 34) (hod : od < 10) (hmo : mo < 16) (htn : tn < 2) (w1 : 1 ≤ way) (w5 : way ≤ 5) (q : ∀ v11 v12 v13 v14 H', Evl.Ex H H' → D.nx [some (.ref bx), some (.int (n : Int)), some (.ref p), some (.ref p2), some (.int (kd : Int)), some (.int (sp : Int)), some (.int (od : Int)), some (.int (mo : Int)), some (.int (tn : Int)), some (.int (way : Int)), some (.bl nm), v11, v12, v13, v14] H') :
    dBd K D [some (.ref bx), some (.int (n : Int)), some (.ref p), some (.ref p2), some (.int (kd : Int)), some (.int (sp : Int)), some (.int (od : Int)), some (.int (mo : Int)), some (.int (tn : Int)), some (.int (way : Int)), some (.bl nm), v11, v12, v13, v14] H := by
  refine ⟨_, rfl, _, rfl, _, rfl, _, rfl, p, xs, kd, sp, od, rfl, hp, ox, by omega, hkd, hod, fun v H1 e1 B => ?_⟩
  have hp1 := e1 _ _ hp2
  refine ⟨_, rfl, Sv.listOf (Sv.lst (K := K) hp1) fun l1 n1 => ?_⟩
  have y1 := Evl.Ex.new (o := .lst (IV ys)) n1
  have p4 : (0 : Int) < 4 ∧ (4 : Int) < 1073741824 := by decide
  refine ⟨_, rfl, _, rfl, _, rfl, _, rfl, _, _, rfl, rfl, p4, p2, ys, mo, od, sp / 4, by simp, y1 _ _ hp1, oy, by omega, hmo, by omega, fun u H2 e2 B2 => ⟨by show 2 ≤ sizeLine; decide, fun L nL => ⟨_, rfl, menu_v upd_same (by omega) (by show (tn : Int) < 2; omega) fun w hw => ?_⟩⟩⟩
  have yL := Evl.Ex.new (o := .lst [V.ref l1, u]) nL
  have X := (y1.trans e2).trans yL
  have EX := e1.trans X
  have hl1 := (e2.trans yL) _ _ (upd_same (H := H1) (a := l1) (o := .lst (IV ys)))
  obtain ⟨e, ae⟩ : ∃ e, At K (upd H2 L (.lst [V.ref l1, u])) w e := by
    simp only [List.mem_cons, List.not_mem_nil, or_false] at hw
    rcases hw with rfl | rfl
    · exact ⟨_, at_oct (Sv.lst hl1) oy (by omega)⟩
    · obtain ⟨e, a1, _⟩ := (B2.ex yL).at_
      exact ⟨e, a1⟩
  have BX := B.ex X
  obtain ⟨d, a1, a2, a3⟩ := BX.at_
  refine ⟨_, rfl, _, rfl, _, rfl, _, rfl, met_bad (E := E0) w5 a1.val ae.val (fun _ => ⟨a1, ae⟩) a3 (due1 (by omega) a2) fun m H3 nm e3 hm => ⟨_, rfl, m, _, v, 0, rfl, hm, BX.bv.ex e3, by decide, (fun a z z2 => BX.bv.there a z (by rw [z2]; exact nm)), fun H4 g => ⟨true, rfl, iteF ?_⟩⟩⟩
  have E4 : Evl.Ex H H4 := g.ex (EX.trans e3) B.new
  refine d4 (E4 _ _ hp) (E4 _ _ hp2) ox oy lx ly n40 hkd hod w5 fun v11 v12 v13 v14 H5 e5 => ?_
  have E5 := E4.trans e5
  exact d5 (way := way) rfl rfl rfl rfl (E5 _ _ hp) (E5 _ _ hp2) ox oy (by omega) (by omega) w1 w5 fun H6 e6 => q _ _ _ _ H6 (E5.trans e6)
def spDR : Sp := fun vs H Q _ => ∃ (bx : Addr) (c : Int), vs = [.ref bx] ∧ Box H bx c ∧ c < 50000000 ∧ ∀ H', Exb bx H H' → Box H' bx (c + 400) → Q (.bl true) H'
theorem ok_doors_right (hd : base.NoDigits) (T : Txt K mg) (F : FnP K "_law_doors_right" s__law_doors_right f fd) (C__law_take : Cal P w K mg base CX0 1 "_law_take" ["_law_box_here", "_law_many"] spTake) (C__law_octets : Cal P w K mg base CX0 2 "_law_octets" ["_law_box_here", "_law_size"] spOcts) (C__law_spoilt : Cal P w K mg base CX0 1 "_law_spoilt" ["_law_octets_here", "_law_kind", "_law_spot", "_law_odd_here"] (spSpo K))
    (C__law_met : Cal P w K mg base CX0 7 "_law_met" ["_law_way", "_law_one", "_law_other", "_law_named"] (spMet K)) (C__law_same : Cal P w K mg base CX0 1 "_law_same" ["_law_met_here", "_law_word", "_law_bad"] (spSame K)) : Fg P w K mg base CX0 8 f fd ["_law_box_here"] spDR := by
  refine fg_of F sc__law_doors_right (fun vs H Q E h => ?_) (fun cdv A outer s H vs Q E hr h => ⟨_, (PSs.nox (pss_cons (ps_set (i := 1) sc__law_doors_right.nd rfl (by first | exact Or.inl rfl | exact Or.inr rfl) (pe_ix (u_ix (K := K)) (pe_lst (pa_cons pe_int (pa_cons pe_int (pa_cons pe_int (pa_cons pe_int (pa_cons pe_int pa_nil)))))) (pe_cal C__law_take hr.le pass0 (pa_cons (pv 0) (pa_cons pe_int pa_nil))) (fun _ _ => rfl)))
  (pss_cons (ps_par (i := 2) (j := 3) rfl sc__law_doors_right.nd rfl rfl (by decide) rfl rfl (pa_cons (pe_cal C__law_octets hr.le pass0 (pa_cons (pv 0) (pa_cons (pv 1) pa_nil))) (pa_cons (pe_cal C__law_octets hr.le pass0 (pa_cons (pv 0) (pa_cons (pv 1) pa_nil))) pa_nil)) (by rfl))
  (pss_cons (ps_par3 (i := 4) (j := 5) (l := 6) rfl sc__law_doors_right.nd rfl rfl rfl (by decide) (by decide) (by decide) rfl rfl rfl (pa_cons (pe_cal C__law_take hr.le pass0 (pa_cons (pv 0) (pa_cons pe_int pa_nil))) (pa_cons (pe_cal C__law_take hr.le pass0 (pa_cons (pv 0) (pa_cons pe_int pa_nil))) (pa_cons (pe_cal C__law_take hr.le pass0 (pa_cons (pv 0) (pa_cons pe_int pa_nil))) pa_nil))) (by rfl))
  (pss_cons (ps_par (i := 7) (j := 8) rfl sc__law_doors_right.nd rfl rfl (by decide) rfl rfl (pa_cons (pe_cal C__law_take hr.le pass0 (pa_cons (pv 0) (pa_cons pe_int pa_nil))) (pa_cons (pe_cal C__law_take hr.le pass0 (pa_cons (pv 0) (pa_cons pe_int pa_nil))) pa_nil)) (by rfl))
  (pss_cons (ps_for PassesOwn.never rfl (pi_seq (K := K) (pe_lst (pa_cons pe_int (pa_cons pe_int (pa_cons pe_int (pa_cons pe_int (pa_cons pe_int pa_nil))))))) (pg_name (i := 9) sc__law_doors_right.nd rfl (by first | exact Or.inl rfl | exact Or.inr rfl))
  (pss_one (ps_for PassesOwn.never rfl (pi_seq (K := K) (pe_lst (pa_cons pe_bl (pa_cons pe_bl pa_nil)))) (pg_name (i := 10) sc__law_doors_right.nd rfl (by first | exact Or.inl rfl | exact Or.inr rfl))
  (pss_cons (ps_set (i := 11) sc__law_doors_right.nd rfl (by first | exact Or.inl rfl | exact Or.inr rfl) (pe_cal C__law_spoilt hr.le pass0 (pa_cons (pv 2) (pa_cons (pv 4) (pa_cons (pv 5) (pa_cons (pv 6) pa_nil))))))
  (pss_cons (ps_set (i := 12) sc__law_doors_right.nd rfl (by first | exact Or.inl rfl | exact Or.inr rfl) (pe_ix (u_ix (K := K)) (pe_lst (pa_cons (pe_callTy (u_listI (K := K)) (by rfl) T.f_list (by decide +kernel) (pa_cons (pv 3) pa_nil)) (pa_cons (pe_cal C__law_spoilt hr.le pass0 (pa_cons (pv 3) (pa_cons (pv 7) (pa_cons (pv 6) (pa_cons (pe_op u_fdiv (pv 5) pe_int) pa_nil))))) pa_nil))) (pv 8) (fun _ _ => rfl)))
  (pss_cons (ps_if (pt_not (pt_tru (K := K) (pe_cal C__law_same hr.le pass0 (pa_cons (pe_cal C__law_met hr.le pass0 (pa_cons (pv 9) (pa_cons (pv 11) (pa_cons (pv 12) (pa_cons (pv 10) pa_nil))))) (pa_cons pe_str (pa_cons (pv 11) pa_nil)))) (by intro _; rfl)))
  (pss_one (ps_ret pe_bl)) pss_nil)
  (pss_cons (ps_if (pt_cmpR op_gt (pv 9) pe_int (nomark _))
  (pss_cons (ps_set (i := 11) sc__law_doors_right.nd rfl (by first | exact Or.inl rfl | exact Or.inr rfl) (pe_cal C__law_spoilt hr.le pass0 (pa_cons (pv 3) (pa_cons (pv 4) (pa_cons (pv 5) (pa_cons (pv 6) pa_nil))))))
  (pss_cons (ps_if (pt_not (pt_tru (K := K) (pe_cal C__law_same hr.le pass0 (pa_cons (pe_cal C__law_met hr.le pass0 (pa_cons (pv 9) (pa_cons (pe_callTy (u_listI (K := K)) (by rfl) T.f_list (by decide +kernel) (pa_cons (pv 2) pa_nil)) (pa_cons (pv 11) (pa_cons (pv 10) pa_nil))))) (pa_cons pe_str (pa_cons (pv 11) pa_nil)))) (by intro _; rfl)))
  (pss_one (ps_ret pe_bl)) pss_nil)
  (pss_one (ps_for PassesOwn.never rfl (pi_seq (K := K) (pe_lst (pa_cons (pe_op (u_add (K := K)) (pe_callTy (u_listI (K := K)) (by rfl) T.f_list (by decide +kernel) (pa_cons (pv 3) pa_nil)) (pe_lst (pa_cons pe_int pa_nil))) (pa_cons (pe_slice (u_sl (K := K)) (pe_callTy (u_listI (K := K)) (by rfl) T.f_list (by decide +kernel) (pa_cons (pv 3) pa_nil)) (po_some pe_int) po_none) (pa_cons (pe_lst pa_nil) pa_nil))))) (pg_name (i := 13) sc__law_doors_right.nd rfl (by first | exact Or.inl rfl | exact Or.inr rfl))
  (pss_cons (ps_set (i := 14) sc__law_doors_right.nd rfl (by first | exact Or.inl rfl | exact Or.inr rfl) (pe_ifExp (pt_cmpR (u_ne (K := K) hr) (pe_callB (u_len (K := K)) (by rfl) T.f_len (by decide +kernel) (pa_cons (pv 13) pa_nil)) (pv 1) (nomark _)) (pe_cal C__law_met hr.le pass0 (pa_cons (pv 9) (pa_cons (pe_callTy (u_tupI (K := K)) (by rfl) T.f_tuple (by decide +kernel) (pa_cons (pv 2) pa_nil)) (pa_cons (pv 13) (pa_cons (pv 10) pa_nil))))) (pe_lst (pa_cons pe_str (pa_cons (pv 13) pa_nil)))))
  (pss_one (ps_if (pt_not (pt_tru (K := K) (pe_cal C__law_same hr.le pass0 (pa_cons (pv 14) (pa_cons pe_str (pa_cons (pv 13) pa_nil)))) (by intro _; rfl)))
  (pss_one (ps_ret pe_bl)) pss_nil))))))) pss_nil)
  (pss_one (ps_if (pt_cmpR (u_ne (K := K) hr) (pe_ix (u_ix (K := K)) (pe_cal C__law_met hr.le pass0 (pa_cons (pv 9) (pa_cons (pe_callTy (u_listI (K := K)) (by rfl) T.f_list (by decide +kernel) (pa_cons (pv 2) pa_nil)) (pa_cons (pe_callTy (u_tupI (K := K)) (by rfl) T.f_tuple (by decide +kernel) (pa_cons (pv 3) pa_nil)) (pa_cons (pv 10) pa_nil))))) pe_int (fun _ _ => rfl)) pe_str (nomark _))
  (pss_one (ps_ret pe_bl)) pss_nil)))))))))
  (pss_one (ps_ret pe_bl)))))))), ?_⟩)
  · obtain ⟨bx, c, rfl, _⟩ := h
    rfl
  · obtain ⟨bx, k, rfl, B, hk, q⟩ := h
    refine ⟨by show 5 ≤ sizeLine; decide, fun l0 nl0 => ⟨_, rfl, bx, 5, k, rfl, B.ex (Evl.Ex.new nl0), by omega, by omega, by omega, fun r H1 r0 r1 e1 B1 => menu_i (e1 _ _ (B.at nl0) (upd_same (H := H) (a := l0) (o := .lst (IV [0, 1, 2, 5, 31])))) r0 r1 fun sz hsz => ?_⟩⟩
    have E1 := (Exb.of (Evl.Ex.new (o := .lst (IV [0, 1, 2, 5, 31])) nl0)).trans e1
    obtain ⟨n, rfl, n40⟩ : ∃ n : Nat, sz = (n : Int) ∧ n ≤ 31 := by
      simp only [List.mem_cons, List.not_mem_nil, or_false] at hsz
      exact ⟨sz.toNat, by omega, by omega⟩
    refine ⟨_, rfl, _, rfl, bx, _, n, rfl, B1, by omega, by omega, fun xs p H2 ox lx np pb e2 B2 hp => ⟨_, rfl, _, rfl, bx, _, n, rfl, B2, by omega, by omega, fun ys p2 H3 oy ly np2 pb2 e3 B3 hp2 => ?_⟩⟩
    refine ⟨_, _, rfl, _, rfl, bx, 16, _, rfl, B3, by omega, by omega, by omega, fun kd H4 a0 a1 e4 B4 => ⟨_, rfl, bx, 34, _, rfl, B4, by omega, by omega, by omega, fun sp H5 b0 b1 e5 B5 => ⟨_, rfl, bx, 10, _, rfl, B5, by omega, by omega, by omega, fun od H6 c0 c1 e6 B6 => ⟨_, _, _, rfl, ?_⟩⟩⟩⟩
    refine ⟨_, rfl, bx, 16, _, rfl, B6, by omega, by omega, by omega, fun mo H7 d0 d1 e7 B7 => ⟨_, rfl, bx, 2, _, rfl, B7, by omega, by omega, by omega, fun tn H8 f0 f1 e8 B8 => ⟨_, _, rfl, ?_⟩⟩⟩
    obtain ⟨kd, rfl⟩ : ∃ n : Nat, kd = (n : Int) := ⟨kd.toNat, by omega⟩
    obtain ⟨sp, rfl⟩ : ∃ n : Nat, sp = (n : Int) := ⟨sp.toNat, by omega⟩
    obtain ⟨od, rfl⟩ : ∃ n : Nat, od = (n : Int) := ⟨od.toNat, by omega⟩
    obtain ⟨mo, rfl⟩ : ∃ n : Nat, mo = (n : Int) := ⟨mo.toNat, by omega⟩
    obtain ⟨tn, rfl⟩ : ∃ n : Nat, tn = (n : Int) := ⟨tn.toNat, by omega⟩
    have X8 := ((((((E1.trans e2).trans e3).trans e4).trans e5).trans e6).trans e7).trans e8
    have hp8 : H8 p = some (.lst (IV xs)) := e8 _ _ pb (e7 _ _ pb (e6 _ _ pb (e5 _ _ pb (e4 _ _ pb (e3 _ _ pb hp)))))
    have hp28 : H8 p2 = some (.lst (IV ys)) := e8 _ _ pb2 (e7 _ _ pb2 (e6 _ _ pb2 (e5 _ _ pb2 (e4 _ _ pb2 hp2))))
    refine .inl ⟨by show 5 ≤ sizeLine; decide, fun L nL => ⟨L, rfl, ⟨_, SqL.of upd_same⟩, ?_⟩⟩
    have yL := Evl.Ex.new (o := .lst [V.int 1, .int 2, .int 3, .int 4, .int 5]) nL
    refine for_it walk_list (fun i σ H' => ∃ v9 v10 v11 v12 v13 v14 : Option V, σ = [some (.ref bx), some (.int (n : Int)), some (.ref p), some (.ref p2), some (.int (kd : Int)), some (.int (sp : Int)), some (.int (od : Int)), some (.int (mo : Int)), some (.int (tn : Int)), v9, v10, v11, v12, v13, v14] ∧ Evl.Ex (upd H8 L (.lst [.int 1, .int 2, .int 3, .int 4, .int 5])) H') ⟨_, _, _, _, _, _, rfl, Evl.Ex.refl _⟩ (fun _ _ _ _ h => by obtain ⟨_, _, _, _, _, _, _, e⟩ := h; exact SqL.of (e _ _ upd_same)) ?_ ?_
    · rintro i x σ H9 H9' hi ⟨v9, v10, v11, v12, v13, v14, rfl, e9⟩ ⟨rfl, hx⟩
      obtain ⟨way, rfl, w1, w5⟩ : ∃ way : Nat, x = .int (way : Int) ∧ 1 ≤ way ∧ way ≤ 5 := by
        have hm := List.mem_of_getElem? hx
        simp only [List.mem_cons, List.not_mem_nil, or_false] at hm
        rcases hm with rfl | rfl | rfl | rfl | rfl
        · exact ⟨1, rfl, by decide, by decide⟩
        · exact ⟨2, rfl, by decide, by decide⟩
        · exact ⟨3, rfl, by decide, by decide⟩
        · exact ⟨4, rfl, by decide, by decide⟩
        · exact ⟨5, rfl, by decide, by decide⟩
      refine .inl ⟨by show 2 ≤ sizeLine; decide, fun L2 nL2 => ⟨L2, rfl, ⟨_, SqL.of upd_same⟩, ?_⟩⟩
      have yL2 := Evl.Ex.new (o := .lst [V.bl false, .bl true]) nL2
      refine for_it walk_list (fun i σ H' => ∃ v10 v11 v12 v13 v14 : Option V, σ = [some (.ref bx), some (.int (n : Int)), some (.ref p), some (.ref p2), some (.int (kd : Int)), some (.int (sp : Int)), some (.int (od : Int)), some (.int (mo : Int)), some (.int (tn : Int)), some (.int (way : Int)), v10, v11, v12, v13, v14] ∧ Evl.Ex (upd H9' L2 (.lst [.bl false, .bl true])) H') ⟨_, _, _, _, _, rfl, Evl.Ex.refl _⟩ (fun _ _ _ _ h => by obtain ⟨_, _, _, _, _, _, e⟩ := h; exact SqL.of (e _ _ upd_same)) ?_ ?_
      · rintro j x σ H10 H10' hj ⟨v10, v11, v12, v13, v14, rfl, e10⟩ ⟨rfl, hx⟩
        obtain ⟨nm, rfl⟩ : ∃ nm : Bool, x = .bl nm := by
          have hm := List.mem_of_getElem? hx
          simp only [List.mem_cons, List.not_mem_nil, or_false] at hm
          rcases hm with rfl | rfl
          · exact ⟨_, rfl⟩
          · exact ⟨_, rfl⟩
        have E10 := yL.trans (e9.trans (yL2.trans e10))
        exact dbd (E10 _ _ hp8) (E10 _ _ hp28) ox oy lx ly (by omega) (by omega) (by omega) (by omega) (by omega) (by omega) w1 w5 fun v11 v12 v13 v14 H11 e11 => ⟨_, _, _, _, _, rfl, e10.trans e11⟩
      · rintro σ H10 ⟨v10, v11, v12, v13, v14, rfl, e10⟩
        exact ⟨_, _, _, _, _, _, rfl, e9.trans (yL2.trans e10)⟩
    · rintro σ H9 ⟨v9, v10, v11, v12, v13, v14, rfl, e9⟩
      have E9 := yL.trans e9
      exact q _ (X8.trans (Exb.of E9)) ((B8.ex E9).le (by omega))
end
end K2
namespace K2
open PySem PySem.Spec PyProof.Rows L2 VB BM
section
variable {P : Program} {w : World} {K : PySem.W.Frag} {mg : Str → Option Value} {base : Heap} {f : Addr} {fd : FuncData}
/-- the objects that H knows among some -/
abbrev kno (H : Hp) (bs : List Addr) : List Addr := bs.filter fun b => (H b).isSome
mutual
theorem shw_kno {H : Hp} : ∀ {y : V} {t : Str} {bs : List Addr} {d : Nat}, Shw H y t bs d → Shw H y t (kno H bs) d
  | _, _, _, _, .flat x => .flat x
  | _, _, _, _, .dct (a := a) h p => by
    have e : kno H [a] = [a] := by simp [kno, h]
    rw [e]
    exact .dct h p
  | _, _, _, _, .lst0 h => .lst0 h
  | _, _, _, _, .lst (a := a) (bs := bs) h n s m => by
    have e : kno H (a :: bs) = a :: kno H bs := by simp [kno, h]
    rw [e]
    exact .lst h n (shwAll_kno s) (fun z => m ((List.mem_filter.mp z).1))
  | _, _, _, _, .tup (a := a) (bs := bs) h s m => by
    have e : kno H (a :: bs) = a :: kno H bs := by simp [kno, h]
    rw [e]
    exact .tup h (shwAll_kno s) (fun z => m ((List.mem_filter.mp z).1))
theorem shwAll_kno {H : Hp} : ∀ {ys : List V} {ts : List Str} {bs : List Addr} {d : Nat}, ShwAll H ys ts bs d → ShwAll H ys ts (kno H bs) d
  | _, _, _, _, .nil => .nil
  | _, _, _, _, .cons s hb l t => .cons (shw_kno s) (fun b z => List.mem_filter.mpr ⟨hb b ((List.mem_filter.mp z).1), (List.mem_filter.mp z).2⟩) l (shwAll_kno t)
end
/-- a list with a word and a value -/
theorem shw_pair {H H' : Hp} {l : Addr} {v : V} {t : Str} {bs : List Addr} {d : Nat} {wd : Str} (s : Shw H v t bs d) (e : Evl.Ex H H') (nl : H l = none) (hl : H' l = some (.lst [.str wd, v])) (hw : (reprText wd).length ≤ 60) :
    Shw H' (.ref l) (listText [reprText wd, t]) (l :: kno H bs) (d + 1) := by
  refine .lst hl (fun z => by cases z) (.cons (.flat (.str wd (Nat.le_trans hw (by decide)))) (fun _ z => by cases z) (Nat.zero_le _) (.cons ((shw_kno s).ex e) (fun _ z => z) (Nat.le_refl _) .nil)) (fun z => ?_)
  have := (List.mem_filter.mp z).2
  rw [nl] at this
  cases this
theorem pair_len {wd t : Str} (hw : (reprText wd).length ≤ 60) (ht : t.length ≤ 10000) : (listText [reprText wd, t]).length ≤ 20100 := by
  have := listText_le (b := 10000) [reprText wd, t] (fun u hu => by
    simp only [List.mem_cons, List.not_mem_nil, or_false] at hu
    rcases hu with rfl | rfl
    · omega
    · exact ht)
  have e : [reprText wd, t].length = 2 := rfl
  rw [e] at this
  omega
theorem dm1 {v u z : V} {d e : Dn} (o : d.octs = false) : dueMask v u z d e = some (("octets" : Str), v) := by
  unfold dueMask
  rw [if_pos o]
theorem dm2 {v u z : V} {d e : Dn} (o : d.octs = true) (o2 : e.octs = false) : dueMask v u z d e = some (("octets" : Str), u) := by
  unfold dueMask
  rw [if_neg (by rw [o]; simp), if_pos o2]
theorem dm3 {v u z : V} {d e : Dn} (o : d.octs = true) (o2 : e.octs = true) (n : d.len ≠ e.len) : dueMask v u z d e = some (("octets" : Str), u) := by
  unfold dueMask
  rw [if_neg (by rw [o]; simp), if_neg (by rw [o2]; simp), if_pos n]
theorem dm4 {v u z : V} {d e : Dn} (o : d.octs = true) (o2 : e.octs = true) (n : d.len = e.len) (m : isM z = false) : dueMask v u z d e = some (("mask" : Str), z) := by
  unfold dueMask
  rw [if_neg (by rw [o]; simp), if_neg (by rw [o2]; simp), if_neg (fun k => k n), if_pos m]
theorem dm0 {v u z : V} {d e : Dn} (o : d.octs = true) (o2 : e.octs = true) (n : d.len = e.len) (m : isM z = true) : dueMask v u z d e = none := by
  unfold dueMask
  rw [if_neg (by rw [o]; simp), if_neg (by rw [o2]; simp), if_neg (fun k => k n), if_neg (by rw [m]; simp)]
theorem msk_bad {H : Hp} {Q : VK} {E : XK} {v u z y : V} {d e : Dn} {nm : Bool} {wd : Str} (av : At K H v d) (au : At K H u e) (hz : Val K H z) (l : d.len ≤ 600) (due : dueMask v u z d e = some (wd, y)) (q : ∀ (l : Addr) (H' : Hp), H l = none → Evl.Ex H H' → H' l = some (.lst [.str wd, y]) → Q (.ref l) H') : spMasked K [v, u, z, .bl nm] H Q E := by
  have no : ∀ (t u' : Bool) (xs ys : List Int) (m : Int), d = .sq t (IV xs) → e = .sq u' (IV ys) → Oct xs → Oct ys → xs.length = ys.length → z = .int m → 0 ≤ m → m < MM → False := fun t u' xs ys m ed ee ox oy hl em m0 m1 => by
    have : dueMask v u z d e = none := dm0 (by rw [ed]; exact octs_t ox) (by rw [ee]; exact octs_t oy) (by rw [ed, ee]; show (IV xs).length = (IV ys).length; rw [iv_len, iv_len]; exact hl) (by
      rw [em]
      show (decide (0 ≤ m) && decide (m < MM)) = true
      rw [decide_eq_true m0, decide_eq_true m1]
      rfl)
    rw [due] at this
    cases this
  refine ⟨v, u, z, d, e, nm, rfl, av, au, hz, l, fun wd' y' h => ?_, fun t u' xs ys m ed ee ox oy hl em m0 m1 => (no t u' xs ys m ed ee ox oy hl em m0 m1).elim⟩
  rw [due] at h
  cases h
  exact q
abbrev mRep (K : PySem.W.Frag) : TS := tIfS (tTest (tOp (rNeU K) (tCB rReprS (tCons (tCall (spMasked K) [] E0 (tCons (tCB (rListI K) (tCons (tVar 2) tNil)) (tCons (tVar 3) (tCons (tVar 8) (tCons (tVar 9) tNil))))) tNil)) (tCB rReprS (tCons (tLst (tCons (tC (V.str "mask")) (tCons (tVar 8) tNil))) tNil)))) (tRet (tC (V.bl false))) tNext
abbrev mBd (K : PySem.W.Frag) : TS := tSeq (mRep K) (tSeq (tAsg (tCall (spSpo K) [] E0 (tCons (tVar 2) (tCons (tOp (rAddU K) (tC (V.int 4)) (tVar 6)) (tCons (tOp (rI (fun x j => 0 < j ∧ j < 1073741824) fun i j => V.int (i / j)) (tVar 5) (tC (V.int 20))) (tCons (tVar 6) tNil))))) (gName 10)) (tSeq (tIfS (tNot (tTru K (tCall (spSame K) [] E0 (tCons (tCall (spMasked K) [] E0 (tCons (tVar 10) (tCons (tCB (rListI K) (tCons (tVar 3) tNil)) (tCons (tVar 8) (tCons (tVar 9) tNil))))) (tCons (tC (V.str "octets")) (tCons (tVar 10) tNil)))))) (tRet (tC (V.bl false))) tNext) (tSeq (tAsg (tCall (spSpo K) [] E0 (tCons (tVar 3) (tCons (tOp (rAddU K) (tC (V.int 4)) (tVar 6)) (tCons (tOp (rI (fun x j => 0 < j ∧ j < 1073741824) fun i j => V.int (i / j)) (tVar 5) (tC (V.int 20))) (tCons (tVar 6) tNil))))) (gName 10)) (tSeq (tIfS (tNot (tTru K (tCall (spSame K) [] E0 (tCons (tCall (spMasked K) [] E0 (tCons (tCB (rListI K) (tCons (tVar 2) tNil)) (tCons (tVar 10) (tCons (tVar 8) (tCons (tVar 9) tNil))))) (tCons (tC (V.str "octets")) (tCons (tVar 10) tNil)))))) (tRet (tC (V.bl false))) tNext) (tSeq (tAsg (tOp (rAddU K) (tCB (rListI K) (tCons (tVar 3) tNil)) (tLst (tCons (tC (V.int 0)) tNil))) (gName 10)) (tIfS (tNot (tTru K (tCall (spSame K) [] E0 (tCons (tCall (spMasked K) [] E0 (tCons (tCB (rListI K) (tCons (tVar 2) tNil)) (tCons (tVar 10) (tCons (tVar 8) (tCons (tVar 9) tNil))))) (tCons (tC (V.str "octets")) (tCons (tVar 10) tNil)))))) (tRet (tC (V.bl false))) tNext))))))
theorem mbd {D : Ends} {H : Hp} {n : Nat} {nm : Bool} {x : V} {bx p p2 : Addr} {xs ys : List Int} {kd lw od : Nat} {v10 v11 v12 v13 v14 : Option V} (hp : H p = some (.lst (IV xs))) (hp2 : H p2 = some (.lst (IV ys)))
    (ox : Oct xs) (oy : Oct ys) (lx : xs.length = n) (ly : ys.length = n) (n40 : n ≤ 40) (hod : od < 10) (mx : isM x = false) (bx' : Bv K H 0 x) (q : ∀ v10 v11 v12 v13 v14 H', Evl.Ex H H' → D.nx [some (.ref bx), some (.int (n : Int)), some (.ref p), some (.ref p2), some (.int (kd : Int)), some (.int (lw : Int)), some (.int (od : Int)), some (.int MM), some x, some (.bl nm), v10, v11, v12, v13, v14] H') :
    mBd K D [some (.ref bx), some (.int (n : Int)), some (.ref p), some (.ref p2), some (.int (kd : Int)), some (.int (lw : Int)), some (.int (od : Int)), some (.int MM), some x, some (.bl nm), v10, v11, v12, v13, v14] H := by
  have ll : (Dn.sq false (IV xs)).len = (Dn.sq false (IV ys)).len := by show (IV xs).length = (IV ys).length; rw [iv_len, iv_len]; omega
  have l6 : (Dn.sq false (IV xs)).len ≤ 600 := by show (IV xs).length ≤ 600; rw [iv_len]; omega
  have sz : (20100 : Nat) ≤ sizeLine := by decide
  have p20 : (0 : Int) < 20 ∧ (20 : Int) < 1073741824 := by decide
  have hw : (reprText "mask").length ≤ 60 := by decide +kernel
  obtain ⟨t, bs, d, s1, s2, s3⟩ := bx'.shw
  -- told alike
  refine ⟨_, rfl, Sv.listOf (Sv.lst (K := K) hp) fun l1 n1 => ?_⟩
  have y1 := Evl.Ex.new (o := .lst (IV xs)) n1
  have A1 : At K (upd H l1 (.lst (IV xs))) (.ref l1) (.sq false (IV xs)) := at_oct (Sv.lst upd_same) ox (by omega)
  have A2 : At K (upd H l1 (.lst (IV xs))) (.ref p2) (.sq false (IV ys)) := at_oct (Sv.lst (y1 _ _ hp2)) oy (by omega)
  refine ⟨_, rfl, _, rfl, _, rfl, msk_bad (E := E0) A1 A2 (bx'.val.ex y1) l6 (dm4 (octs_t ox) (octs_t oy) ll mx) fun m H2 nm2 e2 hm => ?_⟩
  have E2 := y1.trans e2
  have sA := shw_pair s1 E2 (Evl.fresh_back y1 nm2) hm hw
  refine ⟨.ref m, _, _, _, rfl, sA, by omega, Nat.le_trans (pair_len hw (by omega)) sz, _, rfl, by show 2 ≤ sizeLine; decide, fun m2 nm3 => ?_⟩
  have y3 := Evl.Ex.new (o := .lst [V.str "mask", x]) nm3
  have E3 := E2.trans y3
  have sB := shw_pair s1 E3 (Evl.fresh_back E2 nm3) (upd_same (H := H2) (a := m2) (o := .lst [V.str "mask", x])) hw
  refine ⟨.ref m2, _, _, _, rfl, sB, by omega, Nat.le_trans (pair_len hw (by omega)) sz, .inl ⟨rfl, _, rfl, same_ne ?_⟩⟩
  -- the first one spoilt
  refine ⟨_, rfl, _, rfl, .inl ⟨_, _, rfl, rfl, _, rfl, _, _, rfl, rfl, p20, _, rfl, p, xs, 4 + od, lw / 20, od, by simp, E3 _ _ hp, ox, by omega, by omega, hod, fun v H4 e4 B => ?_⟩⟩
  have E4 := E3.trans e4
  refine ⟨_, rfl, _, rfl, Sv.listOf (Sv.lst (K := K) (E4 _ _ hp2)) fun l2 n2 => ?_⟩
  have y4 := Evl.Ex.new (o := .lst (IV ys)) n2
  have B4 := B.ex y4
  obtain ⟨d4, a4, a5, a6⟩ := B4.at_
  have A3 : At K (upd H4 l2 (.lst (IV ys))) (.ref l2) (.sq false (IV ys)) := at_oct (Sv.lst upd_same) oy (by omega)
  refine ⟨_, rfl, _, rfl, msk_bad (E := E0) a4 A3 (bx'.val.ex (E4.trans y4)) a6 (dm1 a5) fun m4 H5 nm5 e5 hm5 => ⟨_, rfl, m4, _, v, 0, rfl, hm5, B4.bv.ex e5, by decide, (fun a z z2 => B4.bv.there a z (by rw [z2]; exact nm5)), fun H6 g => ⟨true, rfl, iteF ?_⟩⟩⟩
  have E6 : Evl.Ex H H6 := g.ex ((E4.trans y4).trans e5) (fun a z => Evl.fresh_back E3 (B.new a z))
  -- the second one spoilt
  refine ⟨_, rfl, _, rfl, .inl ⟨_, _, rfl, rfl, _, rfl, _, _, rfl, rfl, p20, _, rfl, p2, ys, 4 + od, lw / 20, od, by simp, E6 _ _ hp2, oy, by omega, by omega, hod, fun v2 H7 e7 C => ?_⟩⟩
  have E7 := E6.trans e7
  refine ⟨_, rfl, Sv.listOf (Sv.lst (K := K) (E7 _ _ hp)) fun l3 n3 => ?_⟩
  have y7 := Evl.Ex.new (o := .lst (IV xs)) n3
  have C7 := C.ex y7
  obtain ⟨d7, a7, a8, a9⟩ := C7.at_
  have A4 : At K (upd H7 l3 (.lst (IV xs))) (.ref l3) (.sq false (IV xs)) := at_oct (Sv.lst upd_same) ox (by omega)
  refine ⟨_, rfl, _, rfl, _, rfl, msk_bad (E := E0) A4 a7 (bx'.val.ex (E7.trans y7)) l6 (dm2 (octs_t ox) a8) fun m8 H8 nm8 e8 hm8 => ⟨_, rfl, m8, _, v2, 0, rfl, hm8, C7.bv.ex e8, by decide, (fun a z z2 => C7.bv.there a z (by rw [z2]; exact nm8)), fun H9 g2 => ⟨true, rfl, iteF ?_⟩⟩⟩
  have E9 : Evl.Ex H H9 := g2.ex ((E7.trans y7).trans e8) (fun a z => Evl.fresh_back E6 (C.new a z))
  -- one octet too many
  refine ⟨_, rfl, Sv.listOf (Sv.lst (K := K) (E9 _ _ hp2)) fun l5 n5 => ⟨by show 1 ≤ sizeLine; decide, fun l9 n6 => ?_⟩⟩
  have y9 := Evl.Ex.new (o := .lst (IV ys)) n5
  have y10 := Evl.Ex.new (o := .lst [V.int 0]) n6
  have h5 := y10 _ _ (upd_same (H := H9) (a := l5) (o := .lst (IV ys)))
  refine .inr (.inl ⟨l5, l9, _, _, rfl, rfl, h5, upd_same, by rw [iv_len]; exact Evl.sz_of (by show _ + 1 ≤ 100000; omega), fun a3 n7 => ?_⟩)
  have y11 := Evl.Ex.new (o := .lst (IV ys ++ [V.int 0])) n7
  have E11 := E9.trans ((y9.trans y10).trans y11)
  have fa : H a3 = none := Evl.fresh_back (E9.trans (y9.trans y10)) n7
  have h3 : _ = some (HO.lst (IV (ys ++ [0]))) := (upd_same (H := upd (upd H9 l5 (.lst (IV ys))) l9 (.lst [V.int 0])) (a := a3) (o := .lst (IV ys ++ [V.int 0]))).trans (by rw [iv_snoc])
  have o3 : Oct (ys ++ [0]) := fun o ho => by
    rcases List.mem_append.mp ho with h | h
    · exact oy o h
    · have : o = 0 := by simpa using h
      omega
  have l3' : (ys ++ [0]).length = n + 1 := by
    rw [List.length_append, ly]
    rfl
  generalize upd (upd (upd H9 l5 (.lst (IV ys))) l9 (.lst [V.int 0])) a3 (.lst (IV ys ++ [V.int 0])) = H11 at E11 h3 ⊢
  refine ⟨_, rfl, Sv.listOf (Sv.lst (K := K) (E11 _ _ hp)) fun l7 n8 => ?_⟩
  have y12 := Evl.Ex.new (o := .lst (IV xs)) n8
  have b3 := bv_octs (K := K) (y12 _ _ h3) o3 (by omega)
  have A5 : At K (upd H11 l7 (.lst (IV xs))) (.ref l7) (.sq false (IV xs)) := at_oct (Sv.lst upd_same) ox (by omega)
  have A6 : At K (upd H11 l7 (.lst (IV xs))) (.ref a3) (.sq false (IV (ys ++ [0]))) := at_oct (Sv.lst (y12 _ _ h3)) o3 (by omega)
  refine ⟨_, rfl, _, rfl, _, rfl, msk_bad (E := E0) A5 A6 (bx'.val.ex (E11.trans y12)) l6 (dm3 (octs_t ox) (octs_t o3) (by show (IV xs).length ≠ (IV (ys ++ [0])).length; rw [iv_len, iv_len]; omega)) fun m9 H12 nm9 e12 hm9 => ⟨_, rfl, m9, _, _, 0, rfl, hm9, b3.ex e12, by decide, (fun a z z2 => b3.there a z (by rw [z2]; exact nm9)), fun H13 g3 => ⟨true, rfl, iteF ?_⟩⟩⟩
  exact q _ _ _ _ _ _ (g3.ex ((E11.trans y12).trans e12) (fun a z => by cases z; exact fa))
theorem tup_raw {H : Hp} {a : Addr} {xs : List V} {Q : VK} (h : H a = some (.lst xs)) (q : ∀ p, H p = none → Q (.ref p) (upd H p (.tup xs))) : rTupI K [.ref a] H Q := by
  unfold rTupI
  exact ⟨a, xs, rfl, .inl ⟨Sv.lst h, q⟩⟩
abbrev tdT (xs : List Int) : Str := listText [reprText "told", tupleText (xs.map txI)]
theorem shw_two {H : Hp} {L m1 t1 m2 t2 : Addr} {xs ys : List Int} (hL : H L = some (.lst [.ref m1, .ref m2])) (h1 : H m1 = some (.lst [.str "told", .ref t1])) (k1 : H t1 = some (.tup (IV xs))) (h2 : H m2 = some (.lst [.str "told", .ref t2])) (k2 : H t2 = some (.tup (IV ys)))
    (ox : Oct xs) (oy : Oct ys) (lx : xs.length ≤ 40) (ly : ys.length ≤ 40) : Shw H (.ref L) (listText [tdT xs, tdT ys]) [L, m1, t1, m2, t2] 3 ∧ (listText [tdT xs, tdT ys]).length ≤ 5000 := by
  have s1 := shw_told h1 k1 ox lx
  have s2 := shw_told h2 k2 oy ly
  refine ⟨.lst hL (fun z => by cases z) (.cons s1.1 (fun b z => ?_) (Nat.le_refl 2) (.cons s2.1 (fun b z => ?_) (Nat.le_refl 2) .nil)) (fun z => ?_), ?_⟩
  · simp only [List.mem_cons, List.not_mem_nil, or_false] at z ⊢
    rcases z with rfl | rfl
    · exact .inl rfl
    · exact .inr (.inl rfl)
  · simp only [List.mem_cons, List.not_mem_nil, or_false] at z ⊢
    rcases z with rfl | rfl
    · exact .inr (.inr (.inl rfl))
    · exact .inr (.inr (.inr rfl))
  · simp only [List.mem_cons, List.not_mem_nil, or_false] at z
    rcases z with e | e | e | e
    · rw [e, h1] at hL; cases hL
    · rw [e, k1] at hL; cases hL
    · rw [e, h2] at hL; cases hL
    · rw [e, k2] at hL; cases hL
  · have := listText_le (b := 2000) [tdT xs, tdT ys] (fun u hu => by
      simp only [List.mem_cons, List.not_mem_nil, or_false] at hu
      rcases hu with rfl | rfl
      · exact s1.2
      · exact s2.2)
    have e : [tdT xs, tdT ys].length = 2 := rfl
    rw [e] at this
    omega
theorem unlike_le : ∀ as bs : List Int, unlike as bs ≤ as.length
  | [], _ => by cases ‹List Int› <;> exact Nat.zero_le _
  | a :: as, [] => Nat.zero_le _
  | a :: as, b :: bs => by
    have := unlike_le as bs
    show (if a = b then 0 else 1) + unlike as bs ≤ as.length + 1
    split <;> omega
theorem turn_0 {xs ys : List Int} (ox : Oct xs) (l : xs.length = ys.length) : octetsL (turned (bitsL xs) (bitsL ys) 0) = xs := by
  rw [turned_zero _ _ (by rw [bitsL_len, bitsL_len, l]), octetsL_bitsL ox]
theorem turn_1 {xs ys : List Int} (oy : Oct ys) (l : xs.length = ys.length) (h : xs.length ≤ 40) : octetsL (turned (bitsL xs) (bitsL ys) (MM - 1)) = ys := by
  have u := unlike_le (bitsL xs) (bitsL ys)
  rw [bitsL_len] at u
  have e : turned (bitsL xs) (bitsL ys) (2 ^ 4096 - 1) = bitsL ys := turned_ones _ _ 4096 (by rw [bitsL_len, bitsL_len, l]) (by omega)
  show octetsL (turned (bitsL xs) (bitsL ys) (2 ^ 4096 - 1)) = ys
  rw [e, octetsL_bitsL oy]
theorem msk_ok {H : Hp} {Q : VK} {E : XK} {p p2 : Addr} {xs ys : List Int} {m : Int} {nm : Bool} (A1 : At K H (.ref p) (.sq false (IV xs))) (A2 : At K H (.ref p2) (.sq false (IV ys))) (ox : Oct xs) (oy : Oct ys) (l : xs.length = ys.length) (lx : xs.length ≤ 40) (m0 : 0 ≤ m) (m1 : m < MM) (bm : m.natAbs < 10 ^ 1300)
    (q : ∀ (t l : Addr) (H' : Hp), H l = none → Evl.Ex H H' → H' t = some (.tup (IV (octetsL (turned (bitsL xs) (bitsL ys) m)))) → H' l = some (.lst [.str "told", .ref t]) → Q (.ref l) H') : spMasked K [.ref p, .ref p2, .int m, .bl nm] H Q E := by
  refine ⟨_, _, _, _, _, nm, rfl, A1, A2, .flat (.int m bm), by show (IV xs).length ≤ 600; rw [iv_len]; omega, fun wd y h => ?_, fun t u' xs' ys' m' ed ee _ _ _ em _ _ => ?_⟩
  · rw [dm0 (octs_t ox) (octs_t oy) (by show (IV xs).length = (IV ys).length; rw [iv_len, iv_len]; exact l) (by
      show (decide (0 ≤ m) && decide (m < MM)) = true
      rw [decide_eq_true m0, decide_eq_true m1]
      rfl)] at h
    cases h
  · have e1 : IV xs = IV xs' := by injection ed
    have e2 : IV ys = IV ys' := by injection ee
    have e3 := V.int.inj em
    rw [← iv_inj e1, ← iv_inj e2, ← e3]
    exact q
theorem isM_no {m : Int} (h : m < 0 ∨ MM ≤ m) : isM (.int m) = false := by
  show (decide (0 ≤ m) && decide (m < MM)) = false
  rcases h with h | h
  · rw [decide_eq_false (by omega)]
    rfl
  · rw [decide_eq_false (show ¬ m < MM by omega)]
    simp
theorem ok_masks_right (hd : base.NoDigits) (T : Txt K mg) (F : FnP K "_law_masks_right" s__law_masks_right f fd) (C__law_take : Cal P w K mg base CX0 1 "_law_take" ["_law_box_here", "_law_many"] spTake) (C__law_octets : Cal P w K mg base CX0 2 "_law_octets" ["_law_box_here", "_law_size"] spOcts) (C__law_spoilt : Cal P w K mg base CX0 1 "_law_spoilt" ["_law_octets_here", "_law_kind", "_law_spot", "_law_odd_here"] (spSpo K))
    (C__law_odd : Cal P w K mg base CX0 1 "_law_odd" ["_law_kind"] (spOdd K)) (C__law_masked : Cal P w K mg base CX0 7 "_law_masked" ["_law_one", "_law_other", "_law_mask", "_law_named"] (spMasked K)) (C__law_same : Cal P w K mg base CX0 1 "_law_same" ["_law_met_here", "_law_word", "_law_bad"] (spSame K)) : Fg P w K mg base CX0 8 f fd ["_law_box_here"] spDR := by
  refine fg_of F sc__law_masks_right (fun vs H Q E h => ?_) (fun cdv A outer s H vs Q E hr h => ⟨_, (PSs.nox (pss_cons (ps_set (i := 1) sc__law_masks_right.nd rfl (by first | exact Or.inl rfl | exact Or.inr rfl) (pe_ix (u_ix (K := K)) (pe_lst (pa_cons pe_int (pa_cons pe_int (pa_cons pe_int (pa_cons pe_int pa_nil))))) (pe_cal C__law_take hr.le pass0 (pa_cons (pv 0) (pa_cons pe_int pa_nil))) (fun _ _ => rfl)))
  (pss_cons (ps_asg (pe_tup (pa_cons (pe_cal C__law_octets hr.le pass0 (pa_cons (pv 0) (pa_cons (pv 1) pa_nil))) (pa_cons (pe_cal C__law_octets hr.le pass0 (pa_cons (pv 0) (pa_cons (pv 1) pa_nil))) pa_nil))) (pg_tupU (K := K) (n := 2) rfl (pgs_cons (pg_name (i := 2) sc__law_masks_right.nd rfl (by first | exact Or.inl rfl | exact Or.inr rfl)) (pgs_cons (pg_name (i := 3) sc__law_masks_right.nd rfl (by first | exact Or.inl rfl | exact Or.inr rfl)) pgs_nil))))
  (pss_cons (ps_asg (pe_tup (pa_cons (pe_cal C__law_take hr.le pass0 (pa_cons (pv 0) (pa_cons pe_int pa_nil))) (pa_cons (pe_cal C__law_take hr.le pass0 (pa_cons (pv 0) (pa_cons pe_int pa_nil))) (pa_cons (pe_cal C__law_take hr.le pass0 (pa_cons (pv 0) (pa_cons pe_int pa_nil))) pa_nil)))) (pg_tupU (K := K) (n := 3) rfl (pgs_cons (pg_name (i := 4) sc__law_masks_right.nd rfl (by first | exact Or.inl rfl | exact Or.inr rfl)) (pgs_cons (pg_name (i := 5) sc__law_masks_right.nd rfl (by first | exact Or.inl rfl | exact Or.inr rfl)) (pgs_cons (pg_name (i := 6) sc__law_masks_right.nd rfl (by first | exact Or.inl rfl | exact Or.inr rfl)) pgs_nil)))))
  (pss_cons (ps_set (i := 7) sc__law_masks_right.nd rfl (by first | exact Or.inl rfl | exact Or.inr rfl) (pe_op (op_oneShl.or op_shl) pe_int pe_int))
  (pss_cons (ps_for PassesOwn.never rfl (pi_seq (K := K) (pe_lst (pa_cons (pe_un un_neg pe_int) (pa_cons (pv 7) (pa_cons (pe_op (u_add (K := K)) (pv 7) (pv 5)) (pa_cons (pe_op op_sub (pe_un un_neg pe_int) (pv 5)) (pa_cons (pe_op op_sub pe_int (pv 7)) (pa_cons (pe_cal C__law_odd hr.le pass0 (pa_cons (pv 4) pa_nil)) pa_nil)))))))) (pg_name (i := 8) sc__law_masks_right.nd rfl (by first | exact Or.inl rfl | exact Or.inr rfl))
  (pss_one (ps_for PassesOwn.never rfl (pi_seq (K := K) (pe_lst (pa_cons pe_bl (pa_cons pe_bl pa_nil)))) (pg_name (i := 9) sc__law_masks_right.nd rfl (by first | exact Or.inl rfl | exact Or.inr rfl))
  (pss_cons (ps_if (pt_cmpR (u_ne (K := K) hr) (pe_callB (call_reprS hr hd) (by rfl) T.f_repr (by decide +kernel) (pa_cons (pe_cal C__law_masked hr.le pass0 (pa_cons (pe_callTy (u_listI (K := K)) (by rfl) T.f_list (by decide +kernel) (pa_cons (pv 2) pa_nil)) (pa_cons (pv 3) (pa_cons (pv 8) (pa_cons (pv 9) pa_nil))))) pa_nil)) (pe_callB (call_reprS hr hd) (by rfl) T.f_repr (by decide +kernel) (pa_cons (pe_lst (pa_cons pe_str (pa_cons (pv 8) pa_nil))) pa_nil)) (nomark _))
  (pss_one (ps_ret pe_bl)) pss_nil)
  (pss_cons (ps_set (i := 10) sc__law_masks_right.nd rfl (by first | exact Or.inl rfl | exact Or.inr rfl) (pe_cal C__law_spoilt hr.le pass0 (pa_cons (pv 2) (pa_cons (pe_op (u_add (K := K)) pe_int (pv 6)) (pa_cons (pe_op u_fdiv (pv 5) pe_int) (pa_cons (pv 6) pa_nil))))))
  (pss_cons (ps_if (pt_not (pt_tru (K := K) (pe_cal C__law_same hr.le pass0 (pa_cons (pe_cal C__law_masked hr.le pass0 (pa_cons (pv 10) (pa_cons (pe_callTy (u_listI (K := K)) (by rfl) T.f_list (by decide +kernel) (pa_cons (pv 3) pa_nil)) (pa_cons (pv 8) (pa_cons (pv 9) pa_nil))))) (pa_cons pe_str (pa_cons (pv 10) pa_nil)))) (by intro _; rfl)))
  (pss_one (ps_ret pe_bl)) pss_nil)
  (pss_cons (ps_set (i := 10) sc__law_masks_right.nd rfl (by first | exact Or.inl rfl | exact Or.inr rfl) (pe_cal C__law_spoilt hr.le pass0 (pa_cons (pv 3) (pa_cons (pe_op (u_add (K := K)) pe_int (pv 6)) (pa_cons (pe_op u_fdiv (pv 5) pe_int) (pa_cons (pv 6) pa_nil))))))
  (pss_cons (ps_if (pt_not (pt_tru (K := K) (pe_cal C__law_same hr.le pass0 (pa_cons (pe_cal C__law_masked hr.le pass0 (pa_cons (pe_callTy (u_listI (K := K)) (by rfl) T.f_list (by decide +kernel) (pa_cons (pv 2) pa_nil)) (pa_cons (pv 10) (pa_cons (pv 8) (pa_cons (pv 9) pa_nil))))) (pa_cons pe_str (pa_cons (pv 10) pa_nil)))) (by intro _; rfl)))
  (pss_one (ps_ret pe_bl)) pss_nil)
  (pss_cons (ps_set (i := 10) sc__law_masks_right.nd rfl (by first | exact Or.inl rfl | exact Or.inr rfl) (pe_op (u_add (K := K)) (pe_callTy (u_listI (K := K)) (by rfl) T.f_list (by decide +kernel) (pa_cons (pv 3) pa_nil)) (pe_lst (pa_cons pe_int pa_nil))))
  (pss_one (ps_if (pt_not (pt_tru (K := K) (pe_cal C__law_same hr.le pass0 (pa_cons (pe_cal C__law_masked hr.le pass0 (pa_cons (pe_callTy (u_listI (K := K)) (by rfl) T.f_list (by decide +kernel) (pa_cons (pv 2) pa_nil)) (pa_cons (pv 10) (pa_cons (pv 8) (pa_cons (pv 9) pa_nil))))) (pa_cons pe_str (pa_cons (pv 10) pa_nil)))) (by intro _; rfl)))
  (pss_one (ps_ret pe_bl)) pss_nil)))))))))))
  (pss_cons (ps_set (i := 11) sc__law_masks_right.nd rfl (by first | exact Or.inl rfl | exact Or.inr rfl) (pe_lst (pa_cons pe_int pa_nil)))
  (pss_cons (ps_if (pt_not (pt_tru (K := K) (pe_cal C__law_same hr.le pass0 (pa_cons (pe_cal C__law_masked hr.le pass0 (pa_cons (pv 2) (pa_cons (pv 3) (pa_cons (pv 11) (pa_cons pe_bl pa_nil))))) (pa_cons pe_str (pa_cons (pv 11) pa_nil)))) (by intro _; rfl)))
  (pss_one (ps_ret pe_bl)) pss_nil)
  (pss_cons (ps_set (i := 12) sc__law_masks_right.nd rfl (by first | exact Or.inl rfl | exact Or.inr rfl) (pe_callB (call_reprS hr hd) (by rfl) T.f_repr (by decide +kernel) (pa_cons (pe_lst (pa_cons (pe_lst (pa_cons pe_str (pa_cons (pe_callTy (u_tupI (K := K)) (by rfl) T.f_tuple (by decide +kernel) (pa_cons (pv 2) pa_nil)) pa_nil))) (pa_cons (pe_lst (pa_cons pe_str (pa_cons (pe_callTy (u_tupI (K := K)) (by rfl) T.f_tuple (by decide +kernel) (pa_cons (pv 3) pa_nil)) pa_nil))) pa_nil))) pa_nil)))
  (pss_cons (ps_setLc (i := 13) (own := [("_law_mask", 14)]) rfl sc__law_masks_right.nd rfl rfl (sw_true rfl rfl rfl (by decide +kernel)) (pi_seq (K := K) (pe_lst (pa_cons pe_int (pa_cons (pe_op op_sub (pv 7) pe_int) pa_nil)))) (blkOk_by (own := [("_law_mask", 14)]) (N := ["_law_box_here", "_law_size", "_law_octets_here", "_law_other", "_law_kind", "_law_low", "_law_odd_here", "_law_great", "_law_wrong", "_law_named", "_law_bad", "_law_grown", "_law_due", "_law_ends", "_law_mask"]) (sc := defScope s__law_masks_right) (by decide +kernel)) (fun _ _ _ _ _ => (pg_name (i := 14) sc__law_masks_right.nd rfl (by first | exact Or.inl rfl | exact Or.inr rfl))) (fun _ _ _ _ _ => pts_nil) (fun _ _ _ _ _ => (pe_cal C__law_masked hr.le pass0 (pa_cons (pv 2) (pa_cons (pv 3) (pa_cons (pv 14) (pa_cons (pe_cmpR op_gt (pv 5) pe_int (nomark _)) pa_nil)))))))
  (pss_one (ps_ret (pe_cmpR (u_eq (K := K) hr) (pe_callB (call_reprS hr hd) (by rfl) T.f_repr (by decide +kernel) (pa_cons (pv 13) pa_nil)) (pv 12) (nomark _)))))))))))))), ?_⟩)
  · obtain ⟨bx, c, rfl, _⟩ := h
    rfl
  · obtain ⟨bx, k, rfl, B, hk, q⟩ := h
    refine ⟨by show 4 ≤ sizeLine; decide, fun l0 nl0 => ⟨_, rfl, bx, 4, k, rfl, B.ex (Evl.Ex.new nl0), by omega, by omega, by omega, fun r H1 r0 r1 e1 B1 => menu_i (e1 _ _ (B.at nl0) (upd_same (H := H) (a := l0) (o := .lst (IV [0, 1, 2, 31])))) r0 r1 fun sz hsz => ?_⟩⟩
    have E1 := (Exb.of (Evl.Ex.new (o := .lst (IV [0, 1, 2, 31])) nl0)).trans e1
    obtain ⟨n, rfl, n40⟩ : ∃ n : Nat, sz = (n : Int) ∧ n ≤ 31 := by
      simp only [List.mem_cons, List.not_mem_nil, or_false] at hsz
      exact ⟨sz.toNat, by omega, by omega⟩
    refine ⟨_, rfl, _, rfl, bx, _, n, rfl, B1, by omega, by omega, fun xs p H2 ox lx np pb e2 B2 hp => ⟨_, rfl, _, rfl, bx, _, n, rfl, B2, by omega, by omega, fun ys p2 H3 oy ly np2 pb2 e3 B3 hp2 => ?_⟩⟩
    refine ⟨by show 2 ≤ sizeLine; decide, fun t1 nt1 => ⟨t1, _, rfl, SqT.of upd_same, rfl, _, _, rfl, _, _, rfl, rfl, ?_⟩⟩
    have y1 := Evl.Ex.new (o := .tup [V.ref p, .ref p2]) nt1
    refine ⟨_, rfl, bx, 14, _, rfl, B3.ex y1, by omega, by omega, by omega, fun kd H4 a0 a1 e4 B4 => ⟨_, rfl, bx, 999, _, rfl, B4, by omega, by omega, by omega, fun lw H5 b0 b1 e5 B5 => ⟨_, rfl, bx, 10, _, rfl, B5, by omega, by omega, by omega, fun od H6 c0 c1 e6 B6 => ⟨by show 3 ≤ sizeLine; decide, fun t2 nt2 => ⟨t2, _, rfl, SqT.of upd_same, rfl, _, _, rfl, _, _, rfl, _, _, rfl, rfl, ?_⟩⟩⟩⟩⟩
    obtain ⟨kd, rfl⟩ : ∃ n : Nat, kd = (n : Int) := ⟨kd.toNat, by omega⟩
    obtain ⟨lw, rfl⟩ : ∃ n : Nat, lw = (n : Int) := ⟨lw.toNat, by omega⟩
    obtain ⟨od, rfl⟩ : ∃ n : Nat, od = (n : Int) := ⟨od.toNat, by omega⟩
    have y2 := Evl.Ex.new (o := .tup [V.int (kd : Int), .int (lw : Int), .int (od : Int)]) nt2
    have X6 := ((((((E1.trans e2).trans e3).trans (Exb.of y1)).trans e4).trans e5).trans e6).trans (Exb.of y2)
    have hp6 := y2 _ _ (e6 _ _ pb (e5 _ _ pb (e4 _ _ pb (y1 _ _ (e3 _ _ pb hp)))))
    have hp26 := y2 _ _ (e6 _ _ pb2 (e5 _ _ pb2 (e4 _ _ pb2 (y1 _ _ hp2))))
    have B6' := B6.ex y2
    generalize upd H6 t2 (.tup [V.int (kd : Int), .int (lw : Int), .int (od : Int)]) = G at X6 hp6 hp26 B6' ⊢
    obtain ⟨N, eN, lN⟩ : ∃ N : Nat, MM = (N : Int) ∧ ∀ k, k ≤ N + 2000 → k < 10 ^ 1300 := ⟨2 ^ 4096, by show (2 : Int) ^ 4096 = _; rw [Int.natCast_pow]; rfl, fun k h => Nat.lt_of_le_of_lt h (by decide +kernel)⟩
    have N1 : 1 ≤ MM := by show (1 : Int) ≤ 2 ^ 4096; exact Int.pow_pos (by decide)
    refine .inl ⟨4096, rfl, rfl, by decide, ?_⟩
    have hM : (2 : Int) ^ 4096 = MM := rfl
    rw [hM]
    refine .inl ⟨_, rfl, _, rfl, _, rfl, _, rfl, .inl ⟨_, _, rfl, rfl, _, rfl, _, rfl, _, _, rfl, rfl, _, rfl, _, _, rfl, rfl, _, rfl, kd, rfl, by omega, fun v H7 e7 O => ⟨by show 6 ≤ sizeLine; decide, fun L nL => ⟨L, rfl, ⟨_, SqL.of upd_same⟩, ?_⟩⟩⟩⟩
    have y7 := Evl.Ex.new (o := .lst [.int (-1), .int MM, .int (MM + (lw : Int)), .int (-1 - (lw : Int)), .int (0 - MM), v]) nL
    have E7 := e7.trans y7
    have OB := O.bv.ex y7
    refine for_it walk_list (fun i σ H' => ∃ v8 v9 v10 v11 v12 v13 v14 : Option V, σ = [some (.ref bx), some (.int (n : Int)), some (.ref p), some (.ref p2), some (.int (kd : Int)), some (.int (lw : Int)), some (.int (od : Int)), some (.int MM), v8, v9, v10, v11, v12, v13, v14] ∧ Evl.Ex (upd H7 L (.lst [.int (-1), .int MM, .int (MM + (lw : Int)), .int (-1 - (lw : Int)), .int (0 - MM), v])) H') ⟨_, _, _, _, _, _, _, rfl, Evl.Ex.refl _⟩ (fun _ _ _ _ h => by obtain ⟨_, _, _, _, _, _, _, _, e⟩ := h; exact SqL.of (e _ _ upd_same)) ?_ ?_
    · rintro i x σ H8 H8' hi ⟨v8, v9, v10, v11, v12, v13, v14, rfl, e8⟩ ⟨rfl, hx⟩
      obtain ⟨mx, bx'⟩ : isM x = false ∧ Bv K H8' 0 x := by
        have mk : ∀ j : Int, (j < 0 ∨ MM ≤ j) → j.natAbs ≤ N + 2000 → isM (.int j) = false ∧ Bv K H8' 0 (.int j) := fun j h1 h2 => ⟨isM_no h1, bv_int (lN _ h2)⟩
        have hm := List.mem_of_getElem? hx
        simp only [List.mem_cons, List.not_mem_nil, or_false] at hm
        rcases hm with rfl | rfl | rfl | rfl | rfl | rfl
        · exact mk _ (.inl (by decide)) (by omega)
        · exact mk _ (.inr (Int.le_refl _)) (by omega)
        · exact mk _ (.inr (by omega)) (by omega)
        · exact mk _ (.inl (by omega)) (by omega)
        · exact mk _ (.inl (by omega)) (by omega)
        · refine ⟨?_, OB.ex e8⟩
          have := O.int
          cases x with
          | int i => cases this
          | _ => rfl
      refine .inl ⟨by show 2 ≤ sizeLine; decide, fun L2 nL2 => ⟨L2, rfl, ⟨_, SqL.of upd_same⟩, ?_⟩⟩
      have yL2 := Evl.Ex.new (o := .lst [V.bl false, .bl true]) nL2
      refine for_it walk_list (fun i σ H' => ∃ v9 v10 v11 v12 v13 v14 : Option V, σ = [some (.ref bx), some (.int (n : Int)), some (.ref p), some (.ref p2), some (.int (kd : Int)), some (.int (lw : Int)), some (.int (od : Int)), some (.int MM), some x, v9, v10, v11, v12, v13, v14] ∧ Evl.Ex (upd H8' L2 (.lst [.bl false, .bl true])) H') ⟨_, _, _, _, _, _, rfl, Evl.Ex.refl _⟩ (fun _ _ _ _ h => by obtain ⟨_, _, _, _, _, _, _, e⟩ := h; exact SqL.of (e _ _ upd_same)) ?_ ?_
      · rintro j z σ H10 H10' hj ⟨v9, v10, v11, v12, v13, v14, rfl, e10⟩ ⟨rfl, hz⟩
        obtain ⟨nm, rfl⟩ : ∃ nm : Bool, z = .bl nm := by
          have hm := List.mem_of_getElem? hz
          simp only [List.mem_cons, List.not_mem_nil, or_false] at hm
          rcases hm with rfl | rfl
          · exact ⟨_, rfl⟩
          · exact ⟨_, rfl⟩
        have E10 := E7.trans (e8.trans (yL2.trans e10))
        exact mbd (E10 _ _ hp6) (E10 _ _ hp26) ox oy lx ly (by omega) (by omega) mx ((bx'.ex yL2).ex e10) fun v10 v11 v12 v13 v14 H11 e11 => ⟨_, _, _, _, _, _, rfl, e10.trans e11⟩
      · rintro σ H10 ⟨v9, v10, v11, v12, v13, v14, rfl, e10⟩
        exact ⟨_, _, _, _, _, _, _, rfl, e8.trans (yL2.trans e10)⟩
    · rintro σ H8 ⟨v8, v9, v10, v11, v12, v13, v14, rfl, e8⟩
      have E8 := E7.trans e8
      -- a list for a mask
      refine ⟨by show 1 ≤ sizeLine; decide, fun g1 ng => ?_⟩
      have yg := Evl.Ex.new (o := .lst [V.int 7]) ng
      have Eg := E8.trans yg
      have hg : upd H8 g1 (.lst [V.int 7]) g1 = some (.lst (IV [7])) := upd_same
      have bg := bv_octs (K := K) hg (fun o ho => by
        have : o = 7 := (by simpa using ho)
        omega) (by decide)
      have fg : G g1 = none := Evl.fresh_back E8 ng
      generalize upd H8 g1 (.lst [V.int 7]) = H9 at Eg hg bg ⊢
      have ll : (Dn.sq false (IV xs)).len = (Dn.sq false (IV ys)).len := by show (IV xs).length = (IV ys).length; rw [iv_len, iv_len]; omega
      have l6 : (Dn.sq false (IV xs)).len ≤ 600 := by show (IV xs).length ≤ 600; rw [iv_len]; omega
      have at1 : ∀ {H' : Hp}, Evl.Ex G H' → At K H' (.ref p) (.sq false (IV xs)) := fun e => at_oct (Sv.lst (e _ _ hp6)) ox (by omega)
      have at2 : ∀ {H' : Hp}, Evl.Ex G H' → At K H' (.ref p2) (.sq false (IV ys)) := fun e => at_oct (Sv.lst (e _ _ hp26)) oy (by omega)
      refine ⟨_, rfl, _, rfl, _, rfl, msk_bad (E := E0) (at1 Eg) (at2 Eg) bg.val l6 (dm4 (octs_t ox) (octs_t oy) ll rfl) fun m H10 nm e10 hm => ⟨_, rfl, m, _, _, 0, rfl, hm, bg.ex e10, by decide, (fun a z z2 => bg.there a z (by rw [z2]; exact nm)), fun H11 g => ⟨true, rfl, iteF ?_⟩⟩⟩
      have E11 : Evl.Ex G H11 := g.ex (Eg.trans e10) (fun a z => by cases z; exact fg)
      -- what is due
      refine ⟨_, rfl, tup_raw (K := K) (E11 _ _ hp6) fun t1 nt1 => ⟨by show 2 ≤ sizeLine; decide, fun m1 nm1 => ?_⟩⟩
      have z1 := Evl.Ex.new (o := .tup (IV xs)) nt1
      have z2 := Evl.Ex.new (o := .lst [V.str "told", .ref t1]) nm1
      have E12 := (E11.trans z1).trans z2
      refine ⟨_, rfl, tup_raw (K := K) (E12 _ _ hp26) fun t2 nt2 => ⟨by show 2 ≤ sizeLine; decide, fun m2 nm2 => ⟨by show 2 ≤ sizeLine; decide, fun Ld nLd => ?_⟩⟩⟩
      have z3 := Evl.Ex.new (o := .tup (IV ys)) nt2
      have z4 := Evl.Ex.new (o := .lst [V.str "told", .ref t2]) nm2
      have z5 := Evl.Ex.new (o := .lst [V.ref m1, .ref m2]) nLd
      have sz : (5000 : Nat) ≤ sizeLine := by decide
      have sD := shw_two (upd_same (a := Ld) (o := .lst [V.ref m1, .ref m2])) (((z3.trans z4).trans z5) _ _ upd_same) ((((z2.trans z3).trans z4).trans z5) _ _ upd_same) (z5 _ _ upd_same) ((z4.trans z5) _ _ upd_same) ox oy (by omega) (by omega)
      refine ⟨.ref Ld, _, _, _, rfl, sD.1, by decide, Nat.le_trans sD.2 sz, ?_⟩
      have E13 := E12.trans ((z3.trans z4).trans z5)
      generalize upd (upd (upd (upd (upd H11 t1 (.tup (IV xs))) m1 (.lst [V.str "told", .ref t1])) t2 (.tup (IV ys))) m2 (.lst [V.str "told", .ref t2])) Ld (.lst [V.ref m1, .ref m2]) = H13 at E13 ⊢
      -- both ends
      refine .inl ⟨_, rfl, _, _, rfl, rfl, by show 2 ≤ sizeLine; decide, fun Lm nLm => ⟨Lm, rfl, ⟨_, SqL.of upd_same⟩, fun D hD => ?_⟩⟩
      have yM := Evl.Ex.new (o := .lst [V.int 0, .int (MM - 1)]) nLm
      have eM := upd_same (H := H13) (a := Lm) (o := .lst [V.int 0, .int (MM - 1)])
      have ED := E13.trans yM
      obtain ⟨H14, e14⟩ : ∃ X, X = upd H13 Lm (.lst [V.int 0, .int (MM - 1)]) := ⟨_, rfl⟩
      rw [← e14] at ED eM hD
      refine lc_it walk_list (fun i H' => Evl.Ex H14 H' ∧ (i = 0 → H' D = some (.lst [])) ∧ (i = 1 → ∃ m1 t1, H' D = some (.lst [.ref m1]) ∧ H' m1 = some (.lst [.str "told", .ref t1]) ∧ H' t1 = some (.tup (IV xs))) ∧ (i = 2 → ∃ m1 t1 m2 t2, H' D = some (.lst [.ref m1, .ref m2]) ∧ H' m1 = some (.lst [.str "told", .ref t1]) ∧ H' t1 = some (.tup (IV xs)) ∧ H' m2 = some (.lst [.str "told", .ref t2]) ∧ H' t2 = some (.tup (IV ys))))
        ⟨by rw [← e14]; exact Evl.Ex.new hD, fun _ => upd_same, fun z => absurd z (by decide), fun z => absurd z (by decide)⟩ (fun i H' _ h => SqL.of (h.1 _ _ eM)) ?_ ?_
      · rintro i x H15 H15' hi ⟨e15, q0, q1, _⟩ ⟨rfl, hx⟩
        have i2 : i < 2 := hi
        refine ⟨rfl, ?_⟩
        have EE := ED.trans e15
        have lxy : xs.length = ys.length := by omega
        match i, i2, hx, q0, q1 with
        | 0, _, hx, q0, _ =>
          cases hx
          refine ⟨_, rfl, _, rfl, _, rfl, _, rfl, _, _, rfl, rfl, msk_ok (E := E0) (at1 EE) (at2 EE) ox oy lxy (by omega) (by decide) (by omega) (by decide +kernel) fun t l H16 nl e16 ht hl => ?_⟩
          rw [turn_0 ox lxy] at ht
          have hD' := q0 rfl
          have nD : l ≠ D := fun z => by rw [z, hD'] at nl; cases nl
          have nt : t ≠ D := fun z => by rw [z, e16 _ _ hD'] at ht; cases ht
          refine ⟨[], e16 _ _ hD', by decide, Evl.Ex.mut (e15.trans e16) hD, fun z => absurd z (by decide), fun _ => ⟨l, t, upd_same, by rw [upd_ne nD]; exact hl, by rw [upd_ne nt]; exact ht⟩, fun z => absurd z (by decide)⟩
        | 1, _, hx, _, q1 =>
          cases hx
          refine ⟨_, rfl, _, rfl, _, rfl, _, rfl, _, _, rfl, rfl, msk_ok (E := E0) (at1 EE) (at2 EE) ox oy lxy (by omega) (by omega) (by omega) (lN _ (by omega)) fun t l H16 nl e16 ht hl => ?_⟩
          rw [turn_1 oy lxy (by omega)] at ht
          obtain ⟨m1, t1, hD', hm1, ht1⟩ := q1 rfl
          have nD : l ≠ D := fun z => by rw [z, hD'] at nl; cases nl
          have nt : t ≠ D := fun z => by rw [z, e16 _ _ hD'] at ht; cases ht
          have nD1 : m1 ≠ D := fun z => by rw [z, hD'] at hm1; cases hm1
          have nt1 : t1 ≠ D := fun z => by rw [z, hD'] at ht1; cases ht1
          refine ⟨[.ref m1], e16 _ _ hD', by show 1 < sizeLine; decide, Evl.Ex.mut (e15.trans e16) hD, fun z => absurd z (by decide), fun z => absurd z (by decide), fun _ => ⟨m1, t1, l, t, upd_same, by rw [upd_ne nD1]; exact e16 _ _ hm1, by rw [upd_ne nt1]; exact e16 _ _ ht1, by rw [upd_ne nD]; exact hl, by rw [upd_ne nt]; exact ht⟩⟩
      · rintro H15 ⟨e15, _, _, q2⟩
        obtain ⟨m1, t1, m2, t2, hD', hm1, ht1, hm2, ht2⟩ := q2 rfl
        have sE := shw_two hD' hm1 ht1 hm2 ht2 ox oy (by omega) (by omega)
        refine ⟨_, rfl, .ref D, _, _, _, rfl, sE.1, by decide, Nat.le_trans sE.2 sz, _, rfl, .inl ⟨rfl, ?_⟩⟩
        rw [decide_eq_true rfl]
        have EE := ED.trans e15
        exact q _ (X6.trans (Exb.of EE)) ((B6'.ex EE).le (by omega))
end
end K2
namespace K2
open PySem PySem.Spec PyProof.Rows L2 VB BM
section
variable {P : Program} {w : World} {K : PySem.W.Frag} {mg : Str → Option Value} {base : Heap} {f : Addr} {fd : FuncData}
def spLaw (K : PySem.W.Frag) : Sp := fun vs H Q _ => ∃ (a : Addr) (ns : List Int), vs = [.ref a] ∧ SqL K H a (ns.map V.int) ∧ ns.length ≤ 1000 ∧ ∀ H' : Hp, Q (.bl true) H'
theorem ok_law (T : Txt K mg) (F : FnP K "law" s_law f fd) (C__law_box : Cal P w K mg base CX0 1 "_law_box" ["_law_great"] spBox) (C__law_cell : Cal P w K mg base CX0 1 "_law_cell" ["_law_script", "_law_k"] (spCell K))
    (C__law_numbers_right : Cal P w K mg base CX0 6 "_law_numbers_right" ["_law_box_here"] spNR) (C__law_count_right : Cal P w K mg base CX0 8 "_law_count_right" ["_law_box_here"] spNR) (C__law_doors_right : Cal P w K mg base CX0 8 "_law_doors_right" ["_law_box_here"] spDR) (C__law_masks_right : Cal P w K mg base CX0 8 "_law_masks_right" ["_law_box_here"] spDR) :
    Fg P w K mg base CX0 9 f fd ["_law_script"] (spLaw K) := by
  refine fg_of F sc_law (fun vs H Q E h => ?_) (fun cdv A outer s H vs Q E hr h => ⟨_, (PSs.nox (pss_cons (ps_for PassesOwn.never rfl (pi_range1 rfl T.f_range (pa_cons (pe_callB (call_max2 rfl) (by rfl) T.f_max (by decide +kernel) (pa_cons pe_int (pa_cons (pe_callB (call_min2 rfl) (by rfl) T.f_min (by decide +kernel) (pa_cons pe_int (pa_cons (pe_callB (u_len (K := K)) (by rfl) T.f_len (by decide +kernel) (pa_cons (pv 0) pa_nil)) pa_nil))) pa_nil))) pa_nil)) (pg_name (i := 1) sc_law.nd rfl (by first | exact Or.inl rfl | exact Or.inr rfl))
  (pss_cons (ps_set (i := 2) sc_law.nd rfl (by first | exact Or.inl rfl | exact Or.inr rfl) (pe_cal C__law_box hr.le pass0 (pa_cons (pe_cal C__law_cell hr.le pass0 (pa_cons (pv 0) (pa_cons (pv 1) pa_nil))) pa_nil)))
  (pss_cons (ps_if (PW.pt (pw_or (pt_not (pt_tru (K := K) (pe_cal C__law_numbers_right hr.le pass0 (pa_cons (pv 2) pa_nil)) (by intro _; rfl))) (pw_or1 (pt_not (pt_tru (K := K) (pe_cal C__law_count_right hr.le pass0 (pa_cons (pv 2) pa_nil)) (by intro _; rfl))))))
  (pss_one (ps_ret pe_bl)) pss_nil)
  (pss_one (ps_if (PW.pt (pw_or (pt_not (pt_tru (K := K) (pe_cal C__law_doors_right hr.le pass0 (pa_cons (pv 2) pa_nil)) (by intro _; rfl))) (pw_or1 (pt_not (pt_tru (K := K) (pe_cal C__law_masks_right hr.le pass0 (pa_cons (pv 2) pa_nil)) (by intro _; rfl))))))
  (pss_one (ps_ret pe_bl)) pss_nil)))))
  (pss_one (ps_ret pe_bl)))), ?_⟩)
  · obtain ⟨a, ns, rfl, _⟩ := h
    rfl
  · obtain ⟨a, ns, rfl, S, hl, q⟩ := h
    refine ⟨_, rfl, _, _, rfl, .inl ⟨_, S, rfl⟩, _, _, rfl, _, _, rfl, ?_⟩
    obtain ⟨t, ht, t2⟩ : ∃ t : Nat, (if (2 : Int) < (if ((ns.map V.int).length : Int) < 4 then ((ns.map V.int).length : Int) else 4) then (if ((ns.map V.int).length : Int) < 4 then ((ns.map V.int).length : Int) else 4) else 2) = (t : Int) ∧ t ≤ 4 := by
      refine ⟨(if (2 : Int) < (if ((ns.map V.int).length : Int) < 4 then ((ns.map V.int).length : Int) else 4) then (if ((ns.map V.int).length : Int) < 4 then ((ns.map V.int).length : Int) else 4) else 2).toNat, ?_, ?_⟩
      · split <;> split <;> omega
      · split <;> split <;> omega
    rw [ht]
    refine ⟨(t : Int), rfl, by omega, by omega, ?_⟩
    have tt : ((t : Int)).toNat = t := by omega
    rw [tt]
    refine for_range (lo := 0) (n := t) (fun i σ H' => i ≤ t ∧ Evl.Ex H H' ∧ ∃ v1 v2 : Option V, σ = [some (.ref a), v1, v2]) ⟨by omega, Evl.Ex.refl _, _, _, rfl⟩ ?_ ?_
    · rintro i σ H1 hi ⟨_, e1, v1, v2, rfl⟩
      have ez : (0 : Int) + (i : Int) = (i : Int) := Int.zero_add _
      rw [ez]
      refine ⟨_, rfl, _, rfl, a, ns, (i : Int), rfl, Evl.ex_l e1 S, by omega, by omega, hl, fun g H2 e2 => ⟨g, rfl, fun p H3 n3 e3 B => ?_⟩⟩
      have E3 := (e1.trans e2).trans e3
      have nH : H p = none := Evl.fresh_back (e1.trans e2) n3
      refine ⟨_, rfl, p, 0, rfl, B, by omega, fun H4 x4 B4 => ⟨true, rfl, iteF ⟨_, rfl, p, _, rfl, B4, by omega, fun H5 x5 B5 => ⟨true, rfl, iteF ?_⟩⟩⟩⟩
      refine ⟨_, rfl, p, _, rfl, B5, by omega, fun H6 x6 B6 => ⟨true, rfl, iteF ⟨_, rfl, p, _, rfl, B6, by omega, fun H7 x7 B7 => ⟨true, rfl, iteF ?_⟩⟩⟩⟩
      exact ⟨by omega, ex_b E3 nH (((x4.trans x5).trans x6).trans x7), _, _, rfl⟩
    · rintro σ H1 ⟨_, e1, v1, v2, rfl⟩
      exact q H1
end
end K2
namespace K2
open PySem PySem.Spec PyProof.Rows L2 VB BM
section
variable {P : Program} {w : World} {K : PySem.W.Frag} {mg : Str → Option Value} {base : Heap} {f : Addr} {fd : FuncData}
theorem ini_InvalidOctets (F : FnM K "__init__" "InvalidOctets.__init__" s_InvalidOctets____init__ f fd) : FnOk P w K mg base CX0 1 f fd ["self", "given"] (spInit K "given") := by
  refine F.ok sc_InvalidOctets____init__ (fun vs H Q E h => ?_) (fun cdv A outer s H vs Q E hr h => ⟨_, pss_one (ps_ost (pv 0) (pv 1)), ?_⟩)
  · obtain ⟨a, C, y, rfl, _⟩ := h
    rfl
  · obtain ⟨a, C, y, rfl, T, no, ea, q⟩ := h
    exact ⟨_, rfl, _, rfl, a, C, rfl, T, no, .inl ⟨ea, fun dx n ne => q dx n ne⟩⟩
theorem ini_InvalidCount (F : FnM K "__init__" "InvalidCount.__init__" s_InvalidCount____init__ f fd) : FnOk P w K mg base CX0 1 f fd ["self", "given"] (spInit K "given") := by
  refine F.ok sc_InvalidCount____init__ (fun vs H Q E h => ?_) (fun cdv A outer s H vs Q E hr h => ⟨_, pss_one (ps_ost (pv 0) (pv 1)), ?_⟩)
  · obtain ⟨a, C, y, rfl, _⟩ := h
    rfl
  · obtain ⟨a, C, y, rfl, T, no, ea, q⟩ := h
    exact ⟨_, rfl, _, rfl, a, C, rfl, T, no, .inl ⟨ea, fun dx n ne => q dx n ne⟩⟩
theorem ini_InvalidNumber (F : FnM K "__init__" "InvalidNumber.__init__" s_InvalidNumber____init__ f fd) : FnOk P w K mg base CX0 1 f fd ["self", "given"] (spInit K "given") := by
  refine F.ok sc_InvalidNumber____init__ (fun vs H Q E h => ?_) (fun cdv A outer s H vs Q E hr h => ⟨_, pss_one (ps_ost (pv 0) (pv 1)), ?_⟩)
  · obtain ⟨a, C, y, rfl, _⟩ := h
    rfl
  · obtain ⟨a, C, y, rfl, T, no, ea, q⟩ := h
    exact ⟨_, rfl, _, rfl, a, C, rfl, T, no, .inl ⟨ea, fun dx n ne => q dx n ne⟩⟩
theorem ini_InvalidMask (F : FnM K "__init__" "InvalidMask.__init__" s_InvalidMask____init__ f fd) : FnOk P w K mg base CX0 1 f fd ["self", "given"] (spInit K "given") := by
  refine F.ok sc_InvalidMask____init__ (fun vs H Q E h => ?_) (fun cdv A outer s H vs Q E hr h => ⟨_, pss_one (ps_ost (pv 0) (pv 1)), ?_⟩)
  · obtain ⟨a, C, y, rfl, _⟩ := h
    rfl
  · obtain ⟨a, C, y, rfl, T, no, ea, q⟩ := h
    exact ⟨_, rfl, _, rfl, a, C, rfl, T, no, .inl ⟨ea, fun dx n ne => q dx n ne⟩⟩
end
end K2
set_option maxHeartbeats 0
namespace K2
open PySem PySem.Spec PyProof.Rows L2 VB
theorem facts {P : Program} {w : World} {K : PySem.W.Frag} {h : Heap} {mg : Str → Option Value} {f : Addr} (X : K.In h) (G : h.Ns mainGlobals mg) (hfa : mg ("law" : Str) = some (.ref f)) (cx : He.SaysX fal fnl [] [] exB w h K) :
    ∃ fd : FuncData, (∀ (s : Shared) (v : Value), BindsTo s fd ⟨[v], []⟩ [("_law_script", v)]) ∧ ∀ base : Heap, K.In base → base.Ns mainGlobals mg → base.NoDigits → Fg P w K mg base CX0 9 f fd ["_law_script"] (spLaw K) := by
  have c := cx.t.d
  have cm := cx.more
  have tb_ZEROS_OF_HALF : ∀ H : Hp, SqT K H (He.ga K "ZEROS_OF_HALF") (List.map V.int [4, 3, 3, 2, 3, 2, 2, 1, 3, 2, 2, 1, 2, 1, 1, 0]) := fun H => He.tupB_ok (He.ba cm).1 H
  have cm := (He.ba cm).2
  have cj0 := (He.ba cm).1
  have cm := (He.ba cm).2
  have cj1 := (He.ba cm).1
  have cm := (He.ba cm).2
  have cj2 := (He.ba cm).1
  have cm := (He.ba cm).2
  have cj3 := (He.ba cm).1
  have cm := (He.ba cm).2
  have cj4 := (He.ba cm).1
  have cm := (He.ba cm).2
  have cj5 := (He.ba cm).1
  have cm := (He.ba cm).2
  have cj6 := (He.ba cm).1
  have cm := (He.ba cm).2
  have cj7 := cm
  obtain ⟨fd__law_box, F__law_box⟩ := c.def_ 0 (d := d__law_box) rfl
  obtain ⟨fd__law_cell, F__law_cell⟩ := c.def_ 1 (d := d__law_cell) rfl
  obtain ⟨fd__law_take, F__law_take⟩ := c.def_ 2 (d := d__law_take) rfl
  obtain ⟨fd__law_octets, F__law_octets⟩ := c.def_ 3 (d := d__law_octets) rfl
  obtain ⟨fd__law_sum, F__law_sum⟩ := c.def_ 4 (d := d__law_sum) rfl
  obtain ⟨fd__law_is, F__law_is⟩ := c.def_ 5 (d := d__law_is) rfl
  obtain ⟨fd_is_list, F_is_list⟩ := c.def_ 6 (d := d_is_list) rfl
  obtain ⟨fd_is_octets, F_is_octets⟩ := c.def_ 7 (d := d_is_octets) rfl
  obtain ⟨fd__check_octets, F__check_octets⟩ := c.def_ 8 (d := d__check_octets) rfl
  obtain ⟨fd_number_told_by, F_number_told_by⟩ := c.def_ 9 (d := d_number_told_by) rfl
  obtain ⟨fd_number_in, F_number_in⟩ := c.def_ 10 (d := d_number_in) rfl
  obtain ⟨fd_is_int, F_is_int⟩ := c.def_ 11 (d := d_is_int) rfl
  obtain ⟨fd_is_int_from, F_is_int_from⟩ := c.def_ 12 (d := d_is_int_from) rfl
  obtain ⟨fd_octets_telling, F_octets_telling⟩ := c.def_ 13 (d := d_octets_telling) rfl
  obtain ⟨fd_in_octets, F_in_octets⟩ := c.def_ 14 (d := d_in_octets) rfl
  obtain ⟨fd__law_numbers_right, F__law_numbers_right⟩ := c.def_ 15 (d := d__law_numbers_right) rfl
  obtain ⟨fd__law_odd, F__law_odd⟩ := c.def_ 16 (d := d__law_odd) rfl
  obtain ⟨fd__law_parts, F__law_parts⟩ := c.def_ 17 (d := d__law_parts) rfl
  obtain ⟨fd_zero_bits, F_zero_bits⟩ := c.def_ 18 (d := d_zero_bits) rfl
  obtain ⟨fd_zeros, F_zeros⟩ := c.def_ 19 (d := d_zeros) rfl
  obtain ⟨fd__check_pair, F__check_pair⟩ := c.def_ 20 (d := d__check_pair) rfl
  obtain ⟨fd__worth, F__worth⟩ := c.def_ 21 (d := d__worth) rfl
  obtain ⟨fd__ones, F__ones⟩ := c.def_ 22 (d := d__ones) rfl
  obtain ⟨fd_falls, F_falls⟩ := c.def_ 23 (d := d_falls) rfl
  obtain ⟨fd_rises, F_rises⟩ := c.def_ 24 (d := d_rises) rfl
  obtain ⟨fd_is_mask, F_is_mask⟩ := c.def_ 25 (d := d_is_mask) rfl
  obtain ⟨fd_changed, F_changed⟩ := c.def_ 26 (d := d_changed) rfl
  obtain ⟨fd__law_met, F__law_met⟩ := c.def_ 27 (d := d__law_met) rfl
  obtain ⟨fd__law_same, F__law_same⟩ := c.def_ 28 (d := d__law_same) rfl
  obtain ⟨fd__law_count_right, F__law_count_right⟩ := c.def_ 29 (d := d__law_count_right) rfl
  obtain ⟨fd__law_spoilt, F__law_spoilt⟩ := c.def_ 30 (d := d__law_spoilt) rfl
  obtain ⟨fd__law_doors_right, F__law_doors_right⟩ := c.def_ 31 (d := d__law_doors_right) rfl
  obtain ⟨fd__law_masked, F__law_masked⟩ := c.def_ 32 (d := d__law_masked) rfl
  obtain ⟨fd__law_masks_right, F__law_masks_right⟩ := c.def_ 33 (d := d__law_masks_right) rfl
  obtain ⟨fd_law, F_law⟩ := c.def_ 34 (d := d_law) rfl
  obtain ⟨fd_InvalidOctets____init__, F_InvalidOctets____init__⟩ := c.def_ 35 (d := d_InvalidOctets____init__) rfl
  obtain ⟨fd_InvalidCount____init__, F_InvalidCount____init__⟩ := c.def_ 36 (d := d_InvalidCount____init__) rfl
  obtain ⟨fd_InvalidNumber____init__, F_InvalidNumber____init__⟩ := c.def_ 37 (d := d_InvalidNumber____init__) rfl
  obtain ⟨fd_InvalidMask____init__, F_InvalidMask____init__⟩ := c.def_ 38 (d := d_InvalidMask____init__) rfl
  have g__law_box := He.glo_ok X G (c.fact 0 (f := .glo "_law_box") rfl)
  have g__law_cell := He.glo_ok X G (c.fact 1 (f := .glo "_law_cell") rfl)
  have g__law_take := He.glo_ok X G (c.fact 2 (f := .glo "_law_take") rfl)
  have g__law_octets := He.glo_ok X G (c.fact 3 (f := .glo "_law_octets") rfl)
  have g__law_sum := He.glo_ok X G (c.fact 4 (f := .glo "_law_sum") rfl)
  have g__law_is := He.glo_ok X G (c.fact 5 (f := .glo "_law_is") rfl)
  have g_is_list := He.glo_ok X G (c.fact 6 (f := .glo "is_list") rfl)
  have g_is_octets := He.glo_ok X G (c.fact 7 (f := .glo "is_octets") rfl)
  have g__check_octets := He.glo_ok X G (c.fact 8 (f := .glo "_check_octets") rfl)
  have g_number_told_by := He.glo_ok X G (c.fact 9 (f := .glo "number_told_by") rfl)
  have g_number_in := He.glo_ok X G (c.fact 10 (f := .glo "number_in") rfl)
  have g_is_int := He.glo_ok X G (c.fact 11 (f := .glo "is_int") rfl)
  have g_is_int_from := He.glo_ok X G (c.fact 12 (f := .glo "is_int_from") rfl)
  have g_octets_telling := He.glo_ok X G (c.fact 13 (f := .glo "octets_telling") rfl)
  have g_in_octets := He.glo_ok X G (c.fact 14 (f := .glo "in_octets") rfl)
  have g__law_numbers_right := He.glo_ok X G (c.fact 15 (f := .glo "_law_numbers_right") rfl)
  have g__law_odd := He.glo_ok X G (c.fact 16 (f := .glo "_law_odd") rfl)
  have g__law_parts := He.glo_ok X G (c.fact 17 (f := .glo "_law_parts") rfl)
  have g_zero_bits := He.glo_ok X G (c.fact 18 (f := .glo "zero_bits") rfl)
  have g_zeros := He.glo_ok X G (c.fact 19 (f := .glo "zeros") rfl)
  have g__check_pair := He.glo_ok X G (c.fact 20 (f := .glo "_check_pair") rfl)
  have g__worth := He.glo_ok X G (c.fact 21 (f := .glo "_worth") rfl)
  have g__ones := He.glo_ok X G (c.fact 22 (f := .glo "_ones") rfl)
  have g_falls := He.glo_ok X G (c.fact 23 (f := .glo "falls") rfl)
  have g_rises := He.glo_ok X G (c.fact 24 (f := .glo "rises") rfl)
  have g_is_mask := He.glo_ok X G (c.fact 25 (f := .glo "is_mask") rfl)
  have g_changed := He.glo_ok X G (c.fact 26 (f := .glo "changed") rfl)
  have g__law_met := He.glo_ok X G (c.fact 27 (f := .glo "_law_met") rfl)
  have g__law_same := He.glo_ok X G (c.fact 28 (f := .glo "_law_same") rfl)
  have g__law_count_right := He.glo_ok X G (c.fact 29 (f := .glo "_law_count_right") rfl)
  have g__law_spoilt := He.glo_ok X G (c.fact 30 (f := .glo "_law_spoilt") rfl)
  have g__law_doors_right := He.glo_ok X G (c.fact 31 (f := .glo "_law_doors_right") rfl)
  have g__law_masked := He.glo_ok X G (c.fact 32 (f := .glo "_law_masked") rfl)
  have g__law_masks_right := He.glo_ok X G (c.fact 33 (f := .glo "_law_masks_right") rfl)
  have g_law := He.glo_ok X G (c.fact 34 (f := .glo "law") rfl)
  have T : Txt K mg := ⟨He.free_ok X G (c.fact 35 (f := .free "abs") rfl), He.free_ok X G (c.fact 36 (f := .free "all") rfl), He.free_ok X G (c.fact 37 (f := .free "bool") rfl), He.free_ok X G (c.fact 38 (f := .free "dict") rfl), He.free_ok X G (c.fact 39 (f := .free "enumerate") rfl), He.free_ok X G (c.fact 40 (f := .free "int") rfl), He.free_ok X G (c.fact 41 (f := .free "isinstance") rfl), He.free_ok X G (c.fact 42 (f := .free "len") rfl), He.free_ok X G (c.fact 43 (f := .free "list") rfl), He.free_ok X G (c.fact 44 (f := .free "max") rfl), He.free_ok X G (c.fact 45 (f := .free "min") rfl), He.free_ok X G (c.fact 46 (f := .free "range") rfl), He.free_ok X G (c.fact 47 (f := .free "repr") rfl), He.free_ok X G (c.fact 48 (f := .free "reversed") rfl), He.free_ok X G (c.fact 49 (f := .free "sum") rfl), He.free_ok X G (c.fact 50 (f := .free "tuple") rfl), He.free_ok X G (c.fact 51 (f := .free "zip") rfl), He.int_ok X G (c.fact 52 (f := .int "MASK_BITS" 4096) rfl), He.int_ok X G (c.fact 53 (f := .int "MOST_OCTETS_OF_A_NUMBER" 8) rfl), tb_ZEROS_OF_HALF, He.glo_ok X G (c.fact 54 (f := .glo "ZEROS_OF_HALF") rfl)⟩
  have gInvalidOctets := He.glo_ok X G (c.fact 55 (f := .glo "InvalidOctets") rfl)
  obtain ⟨errInvalidOctets, xOO⟩ := errB_ok cj0 gInvalidOctets
  have gInvalidCount := He.glo_ok X G (c.fact 56 (f := .glo "InvalidCount") rfl)
  obtain ⟨errInvalidCount, xCC⟩ := errB_ok cj1 gInvalidCount
  have gInvalidNumber := He.glo_ok X G (c.fact 57 (f := .glo "InvalidNumber") rfl)
  obtain ⟨errInvalidNumber, xNN⟩ := errB_ok cj2 gInvalidNumber
  have gInvalidMask := He.glo_ok X G (c.fact 58 (f := .glo "InvalidMask") rfl)
  obtain ⟨errInvalidMask, xMM⟩ := errB_ok cj3 gInvalidMask
  have xCO := of_decide_eq_true cj4
  have xNO := of_decide_eq_true cj5
  have xNC := of_decide_eq_true cj6
  have xMO := of_decide_eq_true cj7
  cases hfa.symm.trans g_law
  have b := FunD.bindsA (ps := ["_law_script"]) F_law fun _ _ _ _ _ _ us hl => match us, hl with | [_], _ => rfl
  refine ⟨fd_law, fun s v => b s [v] rfl, fun base _ _ hd => ?_⟩
  have E_InvalidOctets : MkE P w K mg base "InvalidOctets" "given" (He.ga K "InvalidOctets") (He.ma K (He.ga K "InvalidOctets") "__init__") := ⟨errInvalidOctets, fd_InvalidOctets____init__, ini_InvalidOctets F_InvalidOctets____init__, F_InvalidOctets____init__.bindsN fun _ _ _ _ _ _ us hl => match us, hl with | [_, _], _ => rfl⟩
  have E_InvalidCount : MkE P w K mg base "InvalidCount" "given" (He.ga K "InvalidCount") (He.ma K (He.ga K "InvalidCount") "__init__") := ⟨errInvalidCount, fd_InvalidCount____init__, ini_InvalidCount F_InvalidCount____init__, F_InvalidCount____init__.bindsN fun _ _ _ _ _ _ us hl => match us, hl with | [_, _], _ => rfl⟩
  have E_InvalidNumber : MkE P w K mg base "InvalidNumber" "given" (He.ga K "InvalidNumber") (He.ma K (He.ga K "InvalidNumber") "__init__") := ⟨errInvalidNumber, fd_InvalidNumber____init__, ini_InvalidNumber F_InvalidNumber____init__, F_InvalidNumber____init__.bindsN fun _ _ _ _ _ _ us hl => match us, hl with | [_, _], _ => rfl⟩
  have E_InvalidMask : MkE P w K mg base "InvalidMask" "given" (He.ga K "InvalidMask") (He.ma K (He.ga K "InvalidMask") "__init__") := ⟨errInvalidMask, fd_InvalidMask____init__, ini_InvalidMask F_InvalidMask____init__, F_InvalidMask____init__.bindsN fun _ _ _ _ _ _ us hl => match us, hl with | [_, _], _ => rfl⟩
  have G__law_box : Fg P w K mg base CX0 1 _ fd__law_box ["_law_great"] spBox := ok_box (F := F__law_box) (T := T)
  have G__law_cell : Fg P w K mg base CX0 1 _ fd__law_cell ["_law_script", "_law_k"] (spCell K) := ok_cell (F := F__law_cell) (T := T)
  have G__law_take : Fg P w K mg base CX0 1 _ fd__law_take ["_law_box_here", "_law_many"] spTake := ok_take (F := F__law_take) (T := T)
  have C__law_take_1 : Cal P w K mg base CX0 1 "_law_take" ["_law_box_here", "_law_many"] spTake := ⟨_, fd__law_take, G__law_take.le (by omega), g__law_take, F__law_take.kp, F__law_take.bindsN fun _ _ _ _ _ _ us hl => match us, hl with | [_, _], _ => rfl⟩
  have G__law_octets : Fg P w K mg base CX0 2 _ fd__law_octets ["_law_box_here", "_law_size"] spOcts := ok_octs (F := F__law_octets) (T := T) (C__law_take := C__law_take_1)
  have G__law_sum : Fg P w K mg base CX0 1 _ fd__law_sum ["_law_octets_here"] (spNum K) := ok_sum (F := F__law_sum) (T := T)
  have G__law_is : Fg P w K mg base CX0 1 _ fd__law_is ["_law_value", "_law_due"] (spIs K) := ok_is (F := F__law_is) (T := T)
  have G_is_list : Fg P w K mg base CX0 1 _ fd_is_list ["value"] (spIsList K) := ok_is_list (F := F_is_list) (T := T)
  have C_is_list_1 : Cal P w K mg base CX0 1 "is_list" ["value"] (spIsList K) := ⟨_, fd_is_list, G_is_list.le (by omega), g_is_list, F_is_list.kp, F_is_list.bindsN fun _ _ _ _ _ _ us hl => match us, hl with | [_], _ => rfl⟩
  have G_is_octets : Fg P w K mg base CX0 2 _ fd_is_octets ["value"] (spIsOct K) := ok_is_octets (F := F_is_octets) (T := T) (C_is_list := C_is_list_1)
  have C_is_octets_2 : Cal P w K mg base CX0 2 "is_octets" ["value"] (spIsOct K) := ⟨_, fd_is_octets, G_is_octets.le (by omega), g_is_octets, F_is_octets.kp, F_is_octets.bindsN fun _ _ _ _ _ _ us hl => match us, hl with | [_], _ => rfl⟩
  have G__check_octets : Fg P w K mg base (CX P w) 4 _ fd__check_octets ["octets"] (spChk K) := ok_chk (F := F__check_octets) (T := T) (E_InvalidOctets := E_InvalidOctets) (C_is_octets := C_is_octets_2)
  have G_number_told_by : Fg P w K mg base CX0 1 _ fd_number_told_by ["octets"] (spNum K) := ok_told (F := F_number_told_by) (T := T)
  have C__check_octets_4 : Cal P w K mg base (CX P w) 4 "_check_octets" ["octets"] (spChk K) := ⟨_, fd__check_octets, G__check_octets.le (by omega), g__check_octets, F__check_octets.kp, F__check_octets.bindsN fun _ _ _ _ _ _ us hl => match us, hl with | [_], _ => rfl⟩
  have C_number_told_by_1 : Cal P w K mg base CX0 1 "number_told_by" ["octets"] (spNum K) := ⟨_, fd_number_told_by, G_number_told_by.le (by omega), g_number_told_by, F_number_told_by.kp, F_number_told_by.bindsN fun _ _ _ _ _ _ us hl => match us, hl with | [_], _ => rfl⟩
  have G_number_in : Fg P w K mg base (CX P w) 5 _ fd_number_in ["octets"] (spNumIn K) := ok_num (F := F_number_in) (T := T) (C__check_octets := C__check_octets_4) (C_number_told_by := C_number_told_by_1)
  have G_is_int : Fg P w K mg base CX0 1 _ fd_is_int ["value"] (spIsInt K) := ok_is_int (F := F_is_int) (T := T)
  have G_is_int_from : Fg P w K mg base CX0 2 _ fd_is_int_from ["value", "least", "greatest"] (spIntFrom K) := ok_int_from (F := F_is_int_from) (T := T)
  have G_octets_telling : Fg P w K mg base CX0 1 _ fd_octets_telling ["number", "count"] spTell := ok_tell (F := F_octets_telling) (T := T)
  have C_is_int_1 : Cal P w K mg base CX0 1 "is_int" ["value"] (spIsInt K) := ⟨_, fd_is_int, G_is_int.le (by omega), g_is_int, F_is_int.kp, F_is_int.bindsN fun _ _ _ _ _ _ us hl => match us, hl with | [_], _ => rfl⟩
  have C_is_int_from_2 : Cal P w K mg base CX0 2 "is_int_from" ["value", "least", "greatest"] (spIntFrom K) := ⟨_, fd_is_int_from, G_is_int_from.le (by omega), g_is_int_from, F_is_int_from.kp, F_is_int_from.bindsN fun _ _ _ _ _ _ us hl => match us, hl with | [_, _, _], _ => rfl⟩
  have C_octets_telling_1 : Cal P w K mg base CX0 1 "octets_telling" ["number", "count"] spTell := ⟨_, fd_octets_telling, G_octets_telling.le (by omega), g_octets_telling, F_octets_telling.kp, F_octets_telling.bindsN fun _ _ _ _ _ _ us hl => match us, hl with | [_, _], _ => rfl⟩
  have G_in_octets : Fg P w K mg base (CX P w) 4 _ fd_in_octets ["number", "count"] (spIn K) := ok_in (F := F_in_octets) (T := T) (E_InvalidCount := E_InvalidCount) (E_InvalidNumber := E_InvalidNumber) (C_is_int := C_is_int_1) (C_is_int_from := C_is_int_from_2) (C_octets_telling := C_octets_telling_1)
  have C__law_octets_2 : Cal P w K mg base CX0 2 "_law_octets" ["_law_box_here", "_law_size"] spOcts := ⟨_, fd__law_octets, G__law_octets.le (by omega), g__law_octets, F__law_octets.kp, F__law_octets.bindsN fun _ _ _ _ _ _ us hl => match us, hl with | [_, _], _ => rfl⟩
  have C__law_sum_1 : Cal P w K mg base CX0 1 "_law_sum" ["_law_octets_here"] (spNum K) := ⟨_, fd__law_sum, G__law_sum.le (by omega), g__law_sum, F__law_sum.kp, F__law_sum.bindsN fun _ _ _ _ _ _ us hl => match us, hl with | [_], _ => rfl⟩
  have C__law_is_1 : Cal P w K mg base CX0 1 "_law_is" ["_law_value", "_law_due"] (spIs K) := ⟨_, fd__law_is, G__law_is.le (by omega), g__law_is, F__law_is.kp, F__law_is.bindsN fun _ _ _ _ _ _ us hl => match us, hl with | [_, _], _ => rfl⟩
  have C_number_in_5 : Cal P w K mg base (CX P w) 5 "number_in" ["octets"] (spNumIn K) := ⟨_, fd_number_in, G_number_in.le (by omega), g_number_in, F_number_in.kp, F_number_in.bindsN fun _ _ _ _ _ _ us hl => match us, hl with | [_], _ => rfl⟩
  have CK_number_in_0_octets_5 : CalK P w K mg base (CX P w) 5 "number_in" ["octets"] 0 ["octets"] g1 g1V (spNumIn K) := ⟨_, fd_number_in, G_number_in.le (by omega), g_number_in, F_number_in.kp, kb_of F_number_in (fun _ r => .cons (vals_getD r 0) (.nil)) fun _ _ _ _ _ _ us ws l1 l2 => match us, ws, l1, l2 with | [], [_], _, _ => rfl⟩
  have C_in_octets_4 : Cal P w K mg base (CX P w) 4 "in_octets" ["number", "count"] (spIn K) := ⟨_, fd_in_octets, G_in_octets.le (by omega), g_in_octets, F_in_octets.kp, F_in_octets.bindsN fun _ _ _ _ _ _ us hl => match us, hl with | [_, _], _ => rfl⟩
  have CK_in_octets_0_count_number_4 : CalK P w K mg base (CX P w) 4 "in_octets" ["number", "count"] 0 ["count", "number"] g21 g21V (spIn K) := ⟨_, fd_in_octets, G_in_octets.le (by omega), g_in_octets, F_in_octets.kp, kb_of F_in_octets (fun _ r => .cons (vals_getD r 1) (.cons (vals_getD r 0) (.nil))) fun _ _ _ _ _ _ us ws l1 l2 => match us, ws, l1, l2 with | [], [_, _], _, _ => rfl⟩
  have G__law_numbers_right : Fg P w K mg base CX0 6 _ fd__law_numbers_right ["_law_box_here"] spNR := ok_numbers_right (F := F__law_numbers_right) (T := T) (C__law_take := C__law_take_1) (C__law_octets := C__law_octets_2) (C__law_sum := C__law_sum_1) (C__law_is := C__law_is_1) (C_number_in := C_number_in_5) (CK_number_in_0_octets := CK_number_in_0_octets_5) (C_in_octets := C_in_octets_4) (CK_in_octets_0_count_number := CK_in_octets_0_count_number_4)
  have G__law_odd : Fg P w K mg base CX0 1 _ fd__law_odd ["_law_kind"] (spOdd K) := ok_odd (F := F__law_odd) (T := T)
  have G__law_parts : Fg P w K mg base CX0 1 _ fd__law_parts ["_law_number", "_law_count"] spParts := ok_parts (F := F__law_parts) (T := T)
  have G_zero_bits : Fg P w K mg base CX0 1 _ fd_zero_bits ["octets"] (spZB K) := ok_zero_bits (F := F_zero_bits) (T := T)
  have C_zero_bits_1 : Cal P w K mg base CX0 1 "zero_bits" ["octets"] (spZB K) := ⟨_, fd_zero_bits, G_zero_bits.le (by omega), g_zero_bits, F_zero_bits.kp, F_zero_bits.bindsN fun _ _ _ _ _ _ us hl => match us, hl with | [_], _ => rfl⟩
  have G_zeros : Fg P w K mg base (CX P w) 6 _ fd_zeros ["octets"] (spZeros K) := ok_zeros (F := F_zeros) (T := T) (C__check_octets := C__check_octets_4) (C_zero_bits := C_zero_bits_1)
  have G__check_pair : Fg P w K mg base (CX P w) 5 _ fd__check_pair ["old", "new"] (spPair K) := ok_pair (F := F__check_pair) (T := T) (E_InvalidOctets := E_InvalidOctets) (C__check_octets := C__check_octets_4)
  have G__worth : Fg P w K mg base CX0 1 _ fd__worth ["bit"] spWorth := ok_worth (F := F__worth) (T := T)
  have C__worth_1 : Cal P w K mg base CX0 1 "_worth" ["bit"] spWorth := ⟨_, fd__worth, G__worth.le (by omega), g__worth, F__worth.kp, F__worth.bindsN fun _ _ _ _ _ _ us hl => match us, hl with | [_], _ => rfl⟩
  have G__ones : Fg P w K mg base CX0 2 _ fd__ones ["octets"] (spOnes K) := ok_ones (F := F__ones) (T := T) (C__worth := C__worth_1)
  have C__check_pair_5 : Cal P w K mg base (CX P w) 5 "_check_pair" ["old", "new"] (spPair K) := ⟨_, fd__check_pair, G__check_pair.le (by omega), g__check_pair, F__check_pair.kp, F__check_pair.bindsN fun _ _ _ _ _ _ us hl => match us, hl with | [_, _], _ => rfl⟩
  have C__ones_2 : Cal P w K mg base CX0 2 "_ones" ["octets"] (spOnes K) := ⟨_, fd__ones, G__ones.le (by omega), g__ones, F__ones.kp, F__ones.bindsN fun _ _ _ _ _ _ us hl => match us, hl with | [_], _ => rfl⟩
  have G_falls : Fg P w K mg base (CX P w) 6 _ fd_falls ["old", "new"] (spTurns K) := ok_falls (F := F_falls) (T := T) (C__check_pair := C__check_pair_5) (C__ones := C__ones_2)
  have G_rises : Fg P w K mg base (CX P w) 6 _ fd_rises ["old", "new"] (spTurns K) := ok_rises (F := F_rises) (T := T) (C__check_pair := C__check_pair_5) (C__ones := C__ones_2)
  have G_is_mask : Fg P w K mg base CX0 2 _ fd_is_mask ["value"] (spIsMask K) := ok_is_mask (F := F_is_mask) (T := T) (C_is_int := C_is_int_1)
  have C_is_mask_2 : Cal P w K mg base CX0 2 "is_mask" ["value"] (spIsMask K) := ⟨_, fd_is_mask, G_is_mask.le (by omega), g_is_mask, F_is_mask.kp, F_is_mask.bindsN fun _ _ _ _ _ _ us hl => match us, hl with | [_], _ => rfl⟩
  have G_changed : Fg P w K mg base (CX P w) 6 _ fd_changed ["old", "new", "mask"] (spChg K) := ok_changed (F := F_changed) (T := T) (E_InvalidMask := E_InvalidMask) (C__check_pair := C__check_pair_5) (C__ones := C__ones_2) (C_is_mask := C_is_mask_2) (C__worth := C__worth_1)
  have C_zeros_6 : Cal P w K mg base (CX P w) 6 "zeros" ["octets"] (spZeros K) := ⟨_, fd_zeros, G_zeros.le (by omega), g_zeros, F_zeros.kp, F_zeros.bindsN fun _ _ _ _ _ _ us hl => match us, hl with | [_], _ => rfl⟩
  have CK_zeros_0_octets_6 : CalK P w K mg base (CX P w) 6 "zeros" ["octets"] 0 ["octets"] g1 g1V (spZeros K) := ⟨_, fd_zeros, G_zeros.le (by omega), g_zeros, F_zeros.kp, kb_of F_zeros (fun _ r => .cons (vals_getD r 0) (.nil)) fun _ _ _ _ _ _ us ws l1 l2 => match us, ws, l1, l2 with | [], [_], _, _ => rfl⟩
  have C_falls_6 : Cal P w K mg base (CX P w) 6 "falls" ["old", "new"] (spTurns K) := ⟨_, fd_falls, G_falls.le (by omega), g_falls, F_falls.kp, F_falls.bindsN fun _ _ _ _ _ _ us hl => match us, hl with | [_, _], _ => rfl⟩
  have CK_falls_0_new_old_6 : CalK P w K mg base (CX P w) 6 "falls" ["old", "new"] 0 ["new", "old"] g21 g21V (spTurns K) := ⟨_, fd_falls, G_falls.le (by omega), g_falls, F_falls.kp, kb_of F_falls (fun _ r => .cons (vals_getD r 1) (.cons (vals_getD r 0) (.nil))) fun _ _ _ _ _ _ us ws l1 l2 => match us, ws, l1, l2 with | [], [_, _], _, _ => rfl⟩
  have C_rises_6 : Cal P w K mg base (CX P w) 6 "rises" ["old", "new"] (spTurns K) := ⟨_, fd_rises, G_rises.le (by omega), g_rises, F_rises.kp, F_rises.bindsN fun _ _ _ _ _ _ us hl => match us, hl with | [_, _], _ => rfl⟩
  have CK_rises_0_new_old_6 : CalK P w K mg base (CX P w) 6 "rises" ["old", "new"] 0 ["new", "old"] g21 g21V (spTurns K) := ⟨_, fd_rises, G_rises.le (by omega), g_rises, F_rises.kp, kb_of F_rises (fun _ r => .cons (vals_getD r 1) (.cons (vals_getD r 0) (.nil))) fun _ _ _ _ _ _ us ws l1 l2 => match us, ws, l1, l2 with | [], [_, _], _, _ => rfl⟩
  have C_changed_6 : Cal P w K mg base (CX P w) 6 "changed" ["old", "new", "mask"] (spChg K) := ⟨_, fd_changed, G_changed.le (by omega), g_changed, F_changed.kp, F_changed.bindsN fun _ _ _ _ _ _ us hl => match us, hl with | [_, _, _], _ => rfl⟩
  have CK_changed_0_new_mask_old_6 : CalK P w K mg base (CX P w) 6 "changed" ["old", "new", "mask"] 0 ["new", "mask", "old"] gC gCV (spChg K) := ⟨_, fd_changed, G_changed.le (by omega), g_changed, F_changed.kp, kb_of F_changed (fun _ r => .cons (vals_getD r 2) (.cons (vals_getD r 0) (.cons (vals_getD r 1) (.nil)))) fun _ _ _ _ _ _ us ws l1 l2 => match us, ws, l1, l2 with | [], [_, _, _], _, _ => rfl⟩
  have G__law_met : Fg P w K mg base CX0 7 _ fd__law_met ["_law_way", "_law_one", "_law_other", "_law_named"] (spMet K) := ok_met (F := F__law_met) (T := T) (E_InvalidOctets := E_InvalidOctets) (E_InvalidCount := E_InvalidCount) (E_InvalidNumber := E_InvalidNumber) (xOO := xOO) (xCO := xCO) (xCC := xCC) (xNO := xNO) (xNC := xNC) (xNN := xNN) (C_in_octets := C_in_octets_4) (CK_in_octets_0_count_number := CK_in_octets_0_count_number_4) (C_number_in := C_number_in_5) (CK_number_in_0_octets := CK_number_in_0_octets_5) (C_zeros := C_zeros_6) (CK_zeros_0_octets := CK_zeros_0_octets_6) (C_falls := C_falls_6) (CK_falls_0_new_old := CK_falls_0_new_old_6) (C_rises := C_rises_6) (CK_rises_0_new_old := CK_rises_0_new_old_6) (C_changed := C_changed_6) (CK_changed_0_new_mask_old := CK_changed_0_new_mask_old_6)
  have G__law_same : Fg P w K mg base CX0 1 _ fd__law_same ["_law_met_here", "_law_word", "_law_bad"] (spSame K) := ok_same (F := F__law_same) (hd := hd) (T := T)
  have C__law_odd_1 : Cal P w K mg base CX0 1 "_law_odd" ["_law_kind"] (spOdd K) := ⟨_, fd__law_odd, G__law_odd.le (by omega), g__law_odd, F__law_odd.kp, F__law_odd.bindsN fun _ _ _ _ _ _ us hl => match us, hl with | [_], _ => rfl⟩
  have C__law_parts_1 : Cal P w K mg base CX0 1 "_law_parts" ["_law_number", "_law_count"] spParts := ⟨_, fd__law_parts, G__law_parts.le (by omega), g__law_parts, F__law_parts.kp, F__law_parts.bindsN fun _ _ _ _ _ _ us hl => match us, hl with | [_, _], _ => rfl⟩
  have C__law_met_7 : Cal P w K mg base CX0 7 "_law_met" ["_law_way", "_law_one", "_law_other", "_law_named"] (spMet K) := ⟨_, fd__law_met, G__law_met.le (by omega), g__law_met, F__law_met.kp, F__law_met.bindsN fun _ _ _ _ _ _ us hl => match us, hl with | [_, _, _, _], _ => rfl⟩
  have C__law_same_1 : Cal P w K mg base CX0 1 "_law_same" ["_law_met_here", "_law_word", "_law_bad"] (spSame K) := ⟨_, fd__law_same, G__law_same.le (by omega), g__law_same, F__law_same.kp, F__law_same.bindsN fun _ _ _ _ _ _ us hl => match us, hl with | [_, _, _], _ => rfl⟩
  have G__law_count_right : Fg P w K mg base CX0 8 _ fd__law_count_right ["_law_box_here"] spNR := ok_count_right (F := F__law_count_right) (hd := hd) (T := T) (C__law_take := C__law_take_1) (C__law_odd := C__law_odd_1) (C__law_parts := C__law_parts_1) (C__law_met := C__law_met_7) (C__law_same := C__law_same_1)
  have G__law_spoilt : Fg P w K mg base CX0 1 _ fd__law_spoilt ["_law_octets_here", "_law_kind", "_law_spot", "_law_odd_here"] (spSpo K) := ok_spoilt (F := F__law_spoilt) (T := T)
  have C__law_spoilt_1 : Cal P w K mg base CX0 1 "_law_spoilt" ["_law_octets_here", "_law_kind", "_law_spot", "_law_odd_here"] (spSpo K) := ⟨_, fd__law_spoilt, G__law_spoilt.le (by omega), g__law_spoilt, F__law_spoilt.kp, F__law_spoilt.bindsN fun _ _ _ _ _ _ us hl => match us, hl with | [_, _, _, _], _ => rfl⟩
  have G__law_doors_right : Fg P w K mg base CX0 8 _ fd__law_doors_right ["_law_box_here"] spDR := ok_doors_right (F := F__law_doors_right) (hd := hd) (T := T) (C__law_take := C__law_take_1) (C__law_octets := C__law_octets_2) (C__law_spoilt := C__law_spoilt_1) (C__law_met := C__law_met_7) (C__law_same := C__law_same_1)
  have CK_changed_0_mask_old_new_6 : CalK P w K mg base (CX P w) 6 "changed" ["old", "new", "mask"] 0 ["mask", "old", "new"] gM gMV (spChg K) := ⟨_, fd_changed, G_changed.le (by omega), g_changed, F_changed.kp, kb_of F_changed (fun _ r => .cons (vals_getD r 1) (.cons (vals_getD r 2) (.cons (vals_getD r 0) (.nil)))) fun _ _ _ _ _ _ us ws l1 l2 => match us, ws, l1, l2 with | [], [_, _, _], _, _ => rfl⟩
  have G__law_masked : Fg P w K mg base CX0 7 _ fd__law_masked ["_law_one", "_law_other", "_law_mask", "_law_named"] (spMasked K) := ok_masked (F := F__law_masked) (T := T) (E_InvalidOctets := E_InvalidOctets) (E_InvalidMask := E_InvalidMask) (xOO := xOO) (xMO := xMO) (xMM := xMM) (C_changed := C_changed_6) (CK_changed_0_mask_old_new := CK_changed_0_mask_old_new_6)
  have C__law_masked_7 : Cal P w K mg base CX0 7 "_law_masked" ["_law_one", "_law_other", "_law_mask", "_law_named"] (spMasked K) := ⟨_, fd__law_masked, G__law_masked.le (by omega), g__law_masked, F__law_masked.kp, F__law_masked.bindsN fun _ _ _ _ _ _ us hl => match us, hl with | [_, _, _, _], _ => rfl⟩
  have G__law_masks_right : Fg P w K mg base CX0 8 _ fd__law_masks_right ["_law_box_here"] spDR := ok_masks_right (F := F__law_masks_right) (hd := hd) (T := T) (C__law_take := C__law_take_1) (C__law_octets := C__law_octets_2) (C__law_spoilt := C__law_spoilt_1) (C__law_odd := C__law_odd_1) (C__law_masked := C__law_masked_7) (C__law_same := C__law_same_1)
  have C__law_box_1 : Cal P w K mg base CX0 1 "_law_box" ["_law_great"] spBox := ⟨_, fd__law_box, G__law_box.le (by omega), g__law_box, F__law_box.kp, F__law_box.bindsN fun _ _ _ _ _ _ us hl => match us, hl with | [_], _ => rfl⟩
  have C__law_cell_1 : Cal P w K mg base CX0 1 "_law_cell" ["_law_script", "_law_k"] (spCell K) := ⟨_, fd__law_cell, G__law_cell.le (by omega), g__law_cell, F__law_cell.kp, F__law_cell.bindsN fun _ _ _ _ _ _ us hl => match us, hl with | [_, _], _ => rfl⟩
  have C__law_numbers_right_6 : Cal P w K mg base CX0 6 "_law_numbers_right" ["_law_box_here"] spNR := ⟨_, fd__law_numbers_right, G__law_numbers_right.le (by omega), g__law_numbers_right, F__law_numbers_right.kp, F__law_numbers_right.bindsN fun _ _ _ _ _ _ us hl => match us, hl with | [_], _ => rfl⟩
  have C__law_count_right_8 : Cal P w K mg base CX0 8 "_law_count_right" ["_law_box_here"] spNR := ⟨_, fd__law_count_right, G__law_count_right.le (by omega), g__law_count_right, F__law_count_right.kp, F__law_count_right.bindsN fun _ _ _ _ _ _ us hl => match us, hl with | [_], _ => rfl⟩
  have C__law_doors_right_8 : Cal P w K mg base CX0 8 "_law_doors_right" ["_law_box_here"] spDR := ⟨_, fd__law_doors_right, G__law_doors_right.le (by omega), g__law_doors_right, F__law_doors_right.kp, F__law_doors_right.bindsN fun _ _ _ _ _ _ us hl => match us, hl with | [_], _ => rfl⟩
  have C__law_masks_right_8 : Cal P w K mg base CX0 8 "_law_masks_right" ["_law_box_here"] spDR := ⟨_, fd__law_masks_right, G__law_masks_right.le (by omega), g__law_masks_right, F__law_masks_right.kp, F__law_masks_right.bindsN fun _ _ _ _ _ _ us hl => match us, hl with | [_], _ => rfl⟩
  exact ok_law (F := F_law) (T := T) (C__law_box := C__law_box_1) (C__law_cell := C__law_cell_1) (C__law_numbers_right := C__law_numbers_right_6) (C__law_count_right := C__law_count_right_8) (C__law_doors_right := C__law_doors_right_8) (C__law_masks_right := C__law_masks_right_8)
end K2
open PySem PySem.W PySem.Calls PyProof.Rows
theorem PySem.Challenge.cw_onewaybits_k02_numbers_and_refused_octet_holds : PySem.Challenge.rw_onewaybits_k02_numbers_and_refused_octet.Holds := by
  w_on; o_law
  refine HandSHeadRun.head_any (r := OpenLaw.row PySem.Challenge.rw_onewaybits_k02_numbers_and_refused_octet) (q := view (OpenLaw.row PySem.Challenge.rw_onewaybits_k02_numbers_and_refused_octet).prog [46]) (H := K2.hk) (ob := K2.ob) (M := 30000) (loose := K2.lns) (d := HandSHeadRun.topDef (OpenLaw.row PySem.Challenge.rw_onewaybits_k02_numbers_and_refused_octet).prog 46) (kwd := []) K2.ob_eq
    (by kernel_rfl) (fun s => by kernel_rfl) K2.run (by kernel_rfl) (by kernel_rfl) (by kernel_rfl) (by rfl) (by first | assumption | decide +kernel) (by decide +kernel) ⟨rfl, rfl, rfl, rfl, rfl, by decide +kernel⟩ ?hw ?hc
  case hw => w_witness2
  case hc =>
    refine VB.law_walkD (l := PySem.Challenge.rw_onewaybits_k02_numbers_and_refused_octet) (n := 63) (k := 9) (x := "_law_script") (CX := L2.CX0) rfl (by decide) (by kernel_rfl) ⟨⟨rfl, by decide, by decide⟩, rfl⟩ ?F (fun _ _ _ _ z => z)
    intro w mg fa h Y G hmg0 _hd
    obtain ⟨K, KX, c⟩ := Y
    have hmg : mg ("law" : PySem.Str) = some (.ref fa) := by
      have e : (HandSHeadRun.topDef (OpenLaw.row PySem.Challenge.rw_onewaybits_k02_numbers_and_refused_octet).prog 46).name = ("law" : PySem.Str) := by kernel_rfl
      rw [← e]
      exact hmg0
    obtain ⟨fd, hb, hF⟩ := K2.facts (P := (PySem.Challenge.rw_onewaybits_k02_numbers_and_refused_octet).prog) (w := w) KX G hmg c
    exact ⟨K, fd, (K2.spLaw K), KX, hb, fun H a ns hl _ hS => ⟨a, ns, rfl, hS, by omega, fun _ => rfl⟩, hF⟩
