import PyProof.Rows.All
import Wide.All
import OpenK.AllK
import Wide.FinOn
import HandS.ForMost
import HandS.Evl
import HandS.IsInst
import HandS.Walk
import HandS.Conv
import HandS.TupMul
import HandS.WideBits
import HandS.Wide
import HandS.Defaults
import HandS.HeadHook2
import HandS.RaiseMore
import HandS.Zip
import HandS.Style
import HandS.SetFor
import HandS.Text
import PyProof.ReprText
import PyProof.Rows.StrJoinMade
import KE.KxField
import HandS.FStr
import HandS.Zip0
import KE.BitLaws
import HandS.Exc
import HandS.ExcOwn
import HandS.ExcInit
import HandS.ExcField
import HandS.TryMany
import HandS.Small
import HandS.TupAny
import HandS.RevRange
import PyProof.CallFns
import HandS.TryOnly
import HandS.MakeKwOnly
import PyProof.AutoSeq1
import HandS.Head0
import HandS.Head1
import HandS.Head2
import HandS.HeadEnd
import HandS.HeadHook1
import HandS.HeadHook3
import HandS.HeadHook4
import PyProof.InstEq
import HandS.ExcIs
import KE.KExcIs
import HandS.Deep
import PySem.Challenge.RW_onewaybits_k03_reads_writes_and_erases
set_option Elab.async false
set_option linter.all false
set_option maxRecDepth 100000
set_option maxHeartbeats 4000000
namespace VB
open PySem PySem.Spec PyProof.Rows L2

/-! ## 1. Room, and no display under way -/
structure Rm (k : Nat) (A : Around) : Prop where
  rm : Room k A
  gd : A.guards = some []
theorem Rm.le {j k : Nat} {A : Around} (r : Rm k A) (h : j ≤ k := by omega) : Rm j A := ⟨r.rm.mono h, r.gd⟩
theorem Rm.down {k : Nat} {A : Around} (r : Rm (k + 1) A) (e : Env) : Rm k (A.deeper e) := ⟨r.rm.deeper e, r.gd⟩

section
variable {P : Program} {w : World} {K : PySem.W.Frag} {mg : Str → Option Value} {base : Heap} {CX : CXT} {k : Nat}

/-- a def's promise, kept wherever there is room and no display is under way -/
structure Fg (P : Program) (w : World) (K : PySem.W.Frag) (mg : Str → Option Value) (base : Heap)
    (CX : CXT) (k : Nat) (f : Addr) (fd : FuncData) (ps : List Str) (sp : Sp) : Prop where
  cnt : ∀ vs H Q E, sp vs H Q E → vs.length = ps.length
  go : ∀ (A : Around) (outer : List Env) (s : Shared) (H : Hp) (args : Args) (us : List Value) (vs : List V)
    (Q : VK) (E : XK), Rm k A → Env0 P w K mg base A outer s H → BindsTo s fd args (ps.zip us) →
    Vals vs us → sp vs H Q E → codeAny (model P w) A (.call (.ref f) args) (CR CX outer P w H s Q E) s

theorem Fg.le {j : Nat} {f : Addr} {fd : FuncData} {ps : List Str} {sp : Sp}
    (F : Fg P w K mg base CX j f fd ps sp) (h : j ≤ k) : Fg P w K mg base CX k f fd ps sp :=
  ⟨F.cnt, fun A o s H a us vs Q E r => F.go A o s H a us vs Q E (r.le h)⟩

/-- a def by its body -/
theorem fg_of {x qual : Str} {params : Arguments} {body : List Stmt} {scope : Scope} {dvs : List V}
    {kws : List (Str × V)} {f : Addr} {fd : FuncData} {N ps : List Str} {sp : Sp}
    (F : FunD K x qual params body scope dvs kws f fd) (S : FnScope N ps scope)
    (cnt : ∀ vs H Q E, sp vs H Q E → vs.length = ps.length)
    (hb : ∀ (cdv : Value) (A : Around) (outer : List Env) (s : Shared) (H : Hp) (vs : List V) (Q : VK) (E : XK),
      Rm k (A.deeper (envOfC qual scope s.heap.objs.size f cdv)) → sp vs H Q E →
      ∃ t, PSs (cxOf CX P w K mg base N qual scope f cdv A outer s H E) body t ∧
        t { nx := fun _ H' => Q .non H', rt := Q } (start N vs) H) :
    Fg P w K mg base CX (k + 1) f fd ps sp := by
  obtain ⟨oc, od, dV, kV, doc, pm, an, cdv, ct, osl, rfl, lk, hcd, _, _⟩ := F.ex
  refine ⟨cnt, ?_⟩
  intro A outer s H args us vs Q E hr e0 hbind hv hsp
  have kin : K.In s.heap := e0.mod.kin.keeps (fun b o e => (e0.bs b o e).1)
  have nol : s.heap.NoLimit := e0.mod.nolimit.keeps (fun b o e => (e0.bs b o e).1)
  have hk : ∀ y ∈ ps.zip us, scope.names.lookup y.1 = some .local ∨
      (scope.names.lookup y.1 = some .cell ∧
        ((cellsFrom (s.heap.objs.size + 1) scope.names []).lookup y.1).isSome = true) := by
    rintro ⟨n, v⟩ hy
    cases S.par n (List.of_mem_zip hy).1 with
    | inl q => exact .inl q
    | inr q => exact .inr ⟨q, PySem.W.cellsFrom_some _ _ _ (.inl q)⟩
  refine codeAny_call_function hr.rm.depth (kin _ _ lk) rfl S.co S.gen rfl
    (PySem.W.codeRec_of kin hcd) (hbind _ _ _ _ (wpAny_newFunctionEnv_cells S.kind hk ?_))
  intro env he s1 x
  subst he
  refine ⟨nol.keeps x.toInCall.keep, codeAny_func ?_⟩
  obtain ⟨t, ht, hq⟩ := hb cdv A outer s H vs Q E (hr.down _) hsp
  have I := inv_start (CX := CX) (E := E) S hr.rm.hd e0 (cnt _ _ _ _ hsp) hv x
  refine wpAny_mono (ht.run [] s1 (start N vs) H _ I hq) ?_ (fun e s' hs => hs)
  intro fl s' hs
  cases fl with
  | ret u =>
    obtain ⟨v, σ', H', J, rv, q⟩ := hs
    exact ⟨v, H', J.os, J.bare, J.base, J.hok, rv, q⟩
  | next =>
    obtain ⟨σ', H', J, q⟩ := hs
    exact ⟨.non, H', J.os, J.bare, J.base, J.hok, rfl, q⟩
  | brk => exact (hs.choose_spec.choose_spec.2 : False).elim
  | cont => exact (hs.choose_spec.choose_spec.2 : False).elim

/-! ## 2. Calls by name -/
/-- a def of the module, told by its name -/
structure Cal (P : Program) (w : World) (K : PySem.W.Frag) (mg : Str → Option Value) (base : Heap)
    (CX : CXT) (k : Nat) (x : Str) (ps : List Str) (sp : Sp) : Prop where
  ex : ∃ (f : Addr) (fd : FuncData), Fg P w K mg base CX k f fd ps sp ∧ mg x = some (.ref f) ∧
    PySem.W.keepIn K (.ref f) = true ∧ Binds K fd ps []
/-- .. called with keywords -/
structure CalK (P : Program) (w : World) (K : PySem.W.Frag) (mg : Str → Option Value) (base : Heap)
    (CX : CXT) (k : Nat) (x : Str) (ps : List Str) (n : Nat) (ks : List Str)
    (g : List Value → List Value → List Value) (gV : List V → List V → List V) (sp : Sp) : Prop where
  ex : ∃ (f : Addr) (fd : FuncData), Fg P w K mg base CX k f fd ps sp ∧ mg x = some (.ref f) ∧
    PySem.W.keepIn K (.ref f) = true ∧ KBn K fd ps n ks g gV
end

section
variable {X : Cx} {CX : CXT} {k n : Nat} {ps ks : List Str} {sp : Sp} {E : XK} {x : Str} {p pos : Pos}
  {e : Expr} {es : List Expr} {kws : List Keyword} {t tk : TA}
  {g : List Value → List Value → List Value} {gV : List V → List V → List V}

/-- the end of a call, where the caller stands -/
theorem back {pins : List (Addr × Obj)} {σ : L2.St} {H : Hp} {s s' : Shared} {Q : VK} {E : XK} {r : Result}
    (hx : Passes CX X E) (I : Inv X pins σ H s) (hq : CR CX X.stack X.prog X.w H s Q E r s') :
    match r with
    | .ok (.ret u) => EP X pins σ Q u s'
    | .ok _ => False
    | .error e => X.xe e s' := by
  cases r with
  | error e => exact hx pins σ H s e s' I hq
  | ok fl =>
    cases fl with
    | ret u => exact I.after hq
    | next => exact hq
    | brk => exact hq
    | cont => exact hq

theorem enter {f : Addr} {fd : FuncData} {pins : List (Addr × Obj)} {σ : L2.St} {H : Hp} {s : Shared} {Q : VK}
    {args : Args} {us : List Value} {vs : List V} (F : Fg X.prog X.w X.K X.mg X.base CX k f fd ps sp)
    (hr : Rm k X.A) (hx : Passes CX X E) (I : Inv X pins σ H s) (hb : BindsTo s fd args (ps.zip us))
    (r : Vals vs us) (h : sp vs H Q E) :
    wpAny (model X.prog X.w) X.A (call (.ref f) args.pos args.kw) (EP X pins σ Q) X.xe s := by
  refine wpAny_call (codeAny_mono (F.go X.A X.stack s H args us vs Q E hr I.env0 hb r h) ?_)
  intro r s' hq
  have z := back hx I hq
  cases r with
  | error e => exact z
  | ok fl =>
    cases fl with
    | ret u => exact z
    | next => exact z.elim
    | brk => exact z.elim
    | cont => exact z.elim

theorem pe_cal (C : Cal X.prog X.w X.K X.mg X.base CX k x ps sp) (hr : Rm k X.A) (hx : Passes CX X E)
    (ha : PA X (e :: es) t) (hg : Gl X x := by rfl) (hdb : (x == ("__debug__" : Str)) = false := by decide)
    (he : starEach (e :: es) X.env = (false, eval e X.env) :: starEach es X.env := by rfl)
    (hpl : (backTo pos (starEach es X.env)).any (·.1) = false := by rfl) :
    PE X (.Call (.Name x p) (e :: es) [] pos) (tCall sp [] E t) := by
  obtain ⟨f, fd, F, hm, hk, hb⟩ := C.ex
  constructor
  intro pins s σ H Q I h
  refine wpAny_Call_Name_kw (ld_glob I hg hm ?_ hdb)
  refine PySem.W.callWith_K (h₀ := X.base) I.ok.mod.kin hk (thn (ha.run pos pins s σ H _ I h) ?_) he hpl
  rintro us s1 ⟨vs, H1, I1, r, q⟩
  have q : sp (vs ++ []) H1 Q E := q
  rw [List.append_nil] at q
  have l : (us ++ []).length = ps.length := by
    rw [List.append_nil, ← r.length]
    exact F.cnt _ _ _ _ q
  have b := hb s1 us I1.kIn l
  rw [List.append_nil] at b
  exact ⟨I1.kIn, enter (args := ⟨us, []⟩) F hr hx I1 b r q⟩

theorem pe_cal0 (C : Cal X.prog X.w X.K X.mg X.base CX k x ps sp) (hr : Rm k X.A) (hx : Passes CX X E)
    (hg : Gl X x := by rfl) (hdb : (x == ("__debug__" : Str)) = false := by decide) :
    PE X (.Call (.Name x p) [] [] pos) (tCall sp [] E tNil) := by
  obtain ⟨f, fd, F, hm, hk, hb⟩ := C.ex
  constructor
  intro pins s σ H Q I h
  have q : sp [] H Q E := h
  refine wpAny_Call_Name_kw (ld_glob I hg hm ?_ hdb)
  refine PySem.W.callWith_K0 I.kIn hk ?_
  have b := hb s [] I.kIn (F.cnt _ _ _ _ q)
  exact enter (args := ⟨[], []⟩) F hr hx I b .nil q

/-- f(k = v, ..): no value by position -/
theorem pe_calk (C : CalK X.prog X.w X.K X.mg X.base CX k x ps 0 ks g gV sp) (hr : Rm k X.A) (hx : Passes CX X E)
    (hkw : PK X kws tk) (hg : Gl X x := by rfl)
    (hall : (backToKw pos (keywordEach kws X.env)).all (·.1.isSome) = true := by rfl)
    (hks : (backToKw pos (keywordEach kws X.env)).filterMap (·.1) = ks := by rfl)
    (hdb : (x == ("__debug__" : Str)) = false := by decide)
    (hpl : ((backTo pos (starEach [] X.env)).any (·.1) || (backToKw pos (keywordEach kws X.env)).any (·.1.isNone)) = false := by rfl) :
    PE X (.Call (.Name x p) [] kws pos) (tCallN 0 ks.length sp gV E tNil tk) := by
  obtain ⟨f, fd, F, hm, hk, hb⟩ := C.ex
  constructor
  intro pins s σ H Q I h
  refine wpAny_Call_Name_kw (ld_glob I hg hm ?_ hdb)
  have h : tk σ H fun zs H2 => ([] : List V).length = 0 ∧ zs.length = ks.length ∧ sp (gV [] zs) H2 Q E := h
  refine PySem.W.callWith_KW0 (h₀ := X.base) I.ok.mod.kin hk hall (thn (hkw.run pos pins s σ H _ I h) ?_) hpl
  rintro ws s2 ⟨zs, H2, I2, rz, _, l2, q2⟩
  refine ⟨I2.kIn, ?_⟩
  rw [hks]
  exact enter (args := ⟨[], ks.zip ws⟩) F hr hx I2
    (hb.to s2 [] ws I2.kIn rfl (rz.length.symm.trans l2)) (hb.rel .nil rz) q2
/-- f(e, .., k = v, ..) -/
theorem pe_calpk (C : CalK X.prog X.w X.K X.mg X.base CX k x ps n ks g gV sp) (hr : Rm k X.A) (hx : Passes CX X E)
    (ha : PA X (e :: es) t) (hkw : PK X kws tk) (hg : Gl X x := by rfl)
    (hall : (backToKw pos (keywordEach kws X.env)).all (·.1.isSome) = true := by rfl)
    (hks : (backToKw pos (keywordEach kws X.env)).filterMap (·.1) = ks := by rfl)
    (hdb : (x == ("__debug__" : Str)) = false := by decide)
    (he : starEach (e :: es) X.env = (false, eval e X.env) :: starEach es X.env := by rfl)
    (hpl : ((backTo pos (starEach (e :: es) X.env)).any (·.1) || (backToKw pos (keywordEach kws X.env)).any (·.1.isNone)) = false := by rfl) :
    PE X (.Call (.Name x p) (e :: es) kws pos) (tCallN n ks.length sp gV E t tk) := by
  obtain ⟨f, fd, F, hm, hk, hb⟩ := C.ex
  constructor
  intro pins s σ H Q I h
  refine wpAny_Call_Name_kw (ld_glob I hg hm ?_ hdb)
  refine PySem.W.callWith_KW (h₀ := X.base) I.ok.mod.kin hk hall (thn (ha.run pos pins s σ H _ I h) ?_) hpl he
  rintro us s1 ⟨vs, H1, I1, r, q⟩
  refine thn (hkw.run pos pins s1 σ H1 _ I1 q) ?_
  rintro ws s2 ⟨zs, H2, I2, rz, l1, l2, q2⟩
  refine ⟨I2.kIn, ?_⟩
  rw [hks]
  exact enter (args := ⟨us, ks.zip ws⟩) F hr hx I2
    (hb.to s2 us ws I2.kIn (r.length.symm.trans l1) (rz.length.symm.trans l2)) (hb.rel r rz) q2
end

/-! ## 3. The law's own call -/
theorem first_call {P : Program} {w : World} {K : PySem.W.Frag} {mg mb : Str → Option Value} {CX : CXT} {k : Nat}
    {fa a : Addr} {fd : FuncData} {x : Str} {sp : Sp} {s : Shared} {vs : List Value} {ns : List Int}
    (KX : K.In s.heap) (hns : s.heap.Ns mainGlobals mg) (hb : s.heap.Ns builtinsNs mb)
    (hbb : ∀ x : Str, x ≠ "__name__" → mb x = bootBuiltins x) (hlim : s.heap.NoLimit) (hg : s.gens = #[])
    (ha : s.heap.get? a = some { cls := .type "list", data := .seq vs.toArray }) (hi : IntsAre vs ns)
    (hl : ns.length ≤ sizeLine) (hr : Rm k callerA)
    (F : ∀ base : Heap, K.In base → base.Ns mainGlobals mg → Fg P w K mg base CX k fa fd [x] sp)
    (hbind : ∀ (s : Shared) (u : Value), BindsTo s fd ⟨[u], []⟩ [(x, u)])
    (hsp : ∀ H : Hp, Only H → SqL K H a (ns.map V.int) → sp [.ref a] H (fun v _ => v = .bl true) fun _ _ _ => False)
    (hCX : ∀ H e s', CX [] H s (fun _ _ _ => False) e s' → False) :
    codeAny (model P w) callerA (.call (.ref fa) ⟨[.ref a], []⟩)
      (fun r s' => r = .ok (.ret (.bool true)) ∧ OldK s.heap s'.heap ∧ s'.os = s.os ∧ AllBare s'.gens) s := by
  -- what is tracked at first: the script at most
  let o : Obj := { cls := .type "list", data := .seq vs.toArray }
  have main : ∀ H : Hp, (∀ b, H b = none ∨ (b = a ∧ H b = some (.frz o (.lst (ns.map V.int))) ∧ K.lookup a = none)) →
      SqL K H a (ns.map V.int) → HOk P w H s.heap → codeAny (model P w) callerA (.call (.ref fa) ⟨[.ref a], []⟩)
      (fun r s' => r = .ok (.ret (.bool true)) ∧ OldK s.heap s'.heap ∧ s'.os = s.os ∧ AllBare s'.gens) s := by
    intro H hH hS hok
    have dictFree : ∀ {b : Addr} {ob : Obj} {es : Array DictEntry} {ep : Nat}, s.heap.get? b = some ob →
        ob.data = .dict es ep → H b = none := by
      intro b ob es ep e d
      rcases hH b with q | ⟨rfl, q, _⟩
      · exact q
      · rw [ha] at e
        cases e
        exact nomatch d
    have nsB : ∀ {b : Addr} {m : Str → Option Value}, s.heap.Ns b m → (hidT s.heap H).Ns b m := by
      rintro b m ⟨ob, es, ep, e, d, r⟩
      exact ⟨ob, es, ep, hidT_get e (dictFree e d), d, r⟩
    have kB : K.In (hidT s.heap H) := by
      intro b ob e
      refine hidT_get (KX b ob e) ?_
      rcases hH b with q | ⟨rfl, _, q⟩
      · exact q
      · rw [e] at q
        cases q
    have lim' : (hidT s.heap H).NoLimit := by
      obtain ⟨mc, h1, h2⟩ := hlim
      exact ⟨mc, nsB h1, h2⟩
    have md : Mod K mg (hidT s.heap H) := ⟨kB, nsB hns, ⟨mb, nsB hb, hbb⟩, lim'⟩
    have nob : ∀ b ∈ frs ([] : List Env), H b = none := fun b hb => by cases hb
    have e0 : Env0 P w K mg (hidT s.heap H) callerA [] s H :=
      ⟨rfl, md, fun b ob e => of_hidT e, Nat.le_of_eq (hidT_size _ _), trivial, nob, hok, .of_eq hg⟩
    have oH : Only H := by
      intro b
      rcases hH b with q | ⟨_, q, _⟩
      · exact .inl q
      · exact .inr ⟨_, _, q⟩
    have run := (F _ kB (nsB hns)).go callerA [] s H ⟨[.ref a], []⟩ [.ref a] [.ref a] _ _ hr e0
      (hbind s (.ref a)) (.cons rfl .nil) (hsp H oH hS)
    refine codeAny_mono run ?_
    intro r s' h
    match r, h with
    | .error e, h => exact (hCX H e s' h).elim
    | .ok .next, h => exact False.elim h
    | .ok .brk, h => exact False.elim h
    | .ok .cont, h => exact False.elim h
    | .ok (.ret u), h =>
      obtain ⟨v, H', os, bare, un, hok', rv, q⟩ := h
      have q : v = .bl true := q
      subst q
      have ru : u = Value.bool true := rv
      subst ru
      refine ⟨rfl, OldK.of_keep ?_, os, bare⟩
      intro b ob e
      rcases hH b with q | ⟨_, q, _⟩
      · exact un.keep b ob e q (fun z => by cases z) (fun z => by cases z)
      · obtain ⟨e1, _⟩ := hok b _ q
        obtain ⟨e2, _⟩ := hok' b _ (un.frzs b o _ q)
        rw [e] at e1
        cases e1
        exact e2
  have rv := vals_ints hi
  cases hk : K.lookup a with
  | some ob =>
    have e := KX a ob hk
    rw [ha] at e
    cases e
    refine main (fun _ => none) (fun b => .inl rfl) (.inr ⟨_, vs.toArray, _, hk, rfl, rfl, rfl, ?_, by simpa using rv⟩) (fun b u z => by cases z)
    rw [List.size_toArray, hi.length]
    exact hl
  | none =>
    let H1 : Hp := fun b => if b = a then some (.frz o (.lst (ns.map V.int))) else none
    have at1 : H1 a = some (.frz o (.lst (ns.map V.int))) := if_pos rfl
    refine main H1 ?_ (.inl (.inr ⟨o, at1⟩)) ?_
    · intro b
      by_cases hb : b = a
      · subst hb
        exact .inr ⟨rfl, at1, hk⟩
      · exact .inl (if_neg hb)
    · intro b u z
      by_cases hb : b = a
      · subst hb
        rw [at1] at z
        cases z
        exact ⟨ha, by rw [List.length_map]; exact hl, vs, _, rv, ha⟩
      · have z' : H1 b = none := if_neg hb
        rw [z'] at z
        cases z

/-- the goal behind the head -/
theorem law_walk {l : PySem.W.OpenLaw} {n k : Nat} {q : Program} {loose : List Str} {XP : (Str → Option Value) → Heap → Prop}
    {YP : World → Heap → Prop} {d : DefRec} {CX : CXT} {x : Str}
    (hn : l.most = some n) (hn2 : n ≤ sizeLine) (hdf : d.params.defaults = []) (hr : Rm k callerA)
    (F : ∀ (w : World) (mg : Str → Option Value) (fa : Addr) (h : Heap), YP w h → h.Ns mainGlobals mg → mg d.name = some (.ref fa) →
      ∃ (K : PySem.W.Frag) (fd : FuncData) (sp : Sp), K.In h ∧ (∀ (s : Shared) (u : Value), BindsTo s fd ⟨[u], []⟩ [(x, u)]) ∧
        (∀ (H : Hp) (a : Addr) (ns : List Int), ns.length ≤ n → Only H → SqL K H a (ns.map V.int) →
          sp [.ref a] H (fun v _ => v = .bl true) fun _ _ _ => False) ∧
        ∀ base : Heap, K.In base → base.Ns mainGlobals mg → Fg l.prog w K mg base CX k fa fd [x] sp)
    (hCX : ∀ (H : Hp) (s : Shared) (e : Value) (s' : Shared), CX [] H s (fun _ _ _ => False) e s' → False) :
    PySem.W.WalkO q loose XP YP l.row.toRowW d [] (fun f vs => PySem.call f vs) := by
  refine Att.attach_call hn hdf ?_
  intro w s₀ s₁ mg mb fa o pm cd doc a vs ns G Y ho hd hcd hmg hobj hints hlen hg
  obtain ⟨K, fd, sp, KX, hb, hsp, hF⟩ := F w mg fa _ Y G.T.g hmg
  exact first_call KX G.T.g G.T.b G.T.builtins G.T.nolimit hg hobj hints (Nat.le_trans hlen hn2) hr hF hb
    (fun H hO hS => hsp H a ns hlen hO hS) (fun H e s' => hCX H s₁ e s')
end VB
namespace VB
open PySem PySem.Spec PyProof.Rows L2
mutual
theorem dp_noDict {K : PySem.W.Frag} {H : Hp} : ∀ {d : PyData} {v : V}, Dp K H v d → d.hasDict = false
  | .none, _, _ => by simp only [PyData.hasDict]
  | .bool _, _, _ => by simp only [PyData.hasDict]
  | .int _, _, _ => by simp only [PyData.hasDict]
  | .str _, _, _ => by simp only [PyData.hasDict]
  | .list ds, _, .lst _ h => by
    simp only [PyData.hasDict]
    exact dpAll_noDict h
  | .tuple ds, _, .tup _ h => by
    simp only [PyData.hasDict]
    exact dpAll_noDict h
  | .dict _, _, h => nomatch h
theorem dpAll_noDict {K : PySem.W.Frag} {H : Hp} : ∀ {ds : List PyData} {vs : List V}, DpAll K H vs ds → PyData.hasDictAll ds = false
  | [], _, _ => by simp only [PyData.hasDictAll]
  | d :: ds, _, .cons h t => by simp only [PyData.hasDictAll, dp_noDict h, dpAll_noDict t, Bool.or_self]
end
section
variable {X : Cx} {k : Nat}
/-- repr(x), x data of any depth without dicts -/
@[irreducible] def rRepr (K : PySem.W.Frag) : List V → Hp → VK → Prop := fun xs H Q => ∃ (a : Addr) (d : PyData), xs = [.ref a] ∧
  Dp K H (.ref a) d ∧ d.showable = true ∧ d.depth ≤ 60 ∧ d.shown.length ≤ sizeLine ∧ Q (.str d.shown) H
theorem call_repr (hr : Rm k X.A) : CallR X (.builtin "repr") (rRepr X.K) := by
  intro pins s σ H xs us Q I r h
  unfold rRepr at h
  obtain ⟨a, d, rfl, hd, hs, hdep, hl, q⟩ := h
  obtain ⟨u, rfl, ru⟩ := vals1 r
  obtain ⟨as, rd⟩ := Dp.reads I d _ u hd ru
  cases (show u = Value.ref a from ru)
  have hu := hr.rm.un
  refine repr_of_reads' rd hs (PyData.noDict_hsm (dp_noDict hd)) hr.gd (by omega) (fun _ _ e => e) ?_ hl
  intro h' u tk kp
  refine ⟨.str d.shown, H, ?_, ⟨u, rfl⟩, q⟩
  exact I.un (Un.kept kp) (I.hok.kept kp)
end
end VB
namespace VB
open PySem PySem.Spec PyProof.Rows L2
section
variable {X : Cx} {K : PySem.W.Frag}
def rAddU (K : PySem.W.Frag) : R2 := fun x y H Q => rI0 (fun i j => .int (i + j)) x y H Q ∨ (rCat x y H Q ∨ rCatT K x y H Q)
theorem u_add (hK : X.K = K := by rfl) : OpR X (binaryOp .Add) (rAddU K) := by
  subst hK
  exact op_add.or (op_cat.or op_catT)
def rMulU (K : PySem.W.Frag) : R2 := fun x y H Q => rI CMulX (fun i j => .int (i * j)) x y H Q ∨ (rRep x y H Q ∨ rRepT K x y H Q)
theorem u_mul (hK : X.K = K := by rfl) : OpR X (binaryOp .Mult) (rMulU K) := by
  subst hK
  exact op_mulX.or (op_rep.or op_repT)
def rEqU (K : PySem.W.Frag) : R2 := fun x y H Q => rEq x y H Q ∨ rEqD K x y H Q
theorem u_eq {k : Nat} (hr : Rm k X.A) (hK : X.K = K := by rfl) : OpR X (compareOp .Eq) (rEqU K) := by
  subst hK
  exact op_eq.or (op_eqD hr.rm.units)
def rNeU (K : PySem.W.Frag) : R2 := fun x y H Q => rNe x y H Q ∨ rNeD K x y H Q
theorem u_ne {k : Nat} (hr : Rm k X.A) (hK : X.K = K := by rfl) : OpR X (compareOp .NotEq) (rNeU K) := by
  subst hK
  exact op_ne.or (op_neD hr.rm.units)
def rSlU (K : PySem.W.Frag) : V → Option Int → Option Int → Hp → VK → Prop := fun x lo hi H Q => rSlL K x lo hi H Q ∨ (rSlT K x lo hi H Q ∨ rSlS x lo hi H Q)
theorem u_sl (hK : X.K = K := by rfl) : SlR X (rSlU K) := by
  subst hK
  exact sl_list.or (sl_tup.or sl_str)
theorem u_ix (hK : X.K = K := by rfl) : IxR X (rIx K) := by
  subst hK
  exact ix_seq
theorem u_in (hK : X.K = K := by rfl) : OpR X (compareOp .In) (rIn K false) := by
  subst hK
  exact op_in_seq
theorem u_notin (hK : X.K = K := by rfl) : OpR X (compareOp .NotIn) (rIn K true) := by
  subst hK
  exact op_notIn_seq
def rLenU (K : PySem.W.Frag) : List V → Hp → VK → Prop := fun xs H Q => ∃ x n, xs = [x] ∧ LenV K x H n ∧ Q (.int n) H
theorem u_len (hK : X.K = K := by rfl) : CallR X (.builtin "len") (rLenU K) := by
  subst hK
  exact call_len
theorem u_isi (hK : X.K = K := by rfl) : CallR X (.builtin "isinstance") (rIsi K) := by
  subst hK
  exact call_isi
theorem u_isiT (hK : X.K = K := by rfl) : CallR X (.builtin "isinstance") (rIsiT K) := by
  subst hK
  exact call_isiT
theorem u_sum (hc : X.calm = true) (hK : X.K = K := by rfl) : CallR X (.builtin "sum") (rSum K) := by
  subst hK
  exact cr_sum hc
theorem u_all (hc : X.calm = true) (hK : X.K = K := by rfl) : CallR X (.builtin "all") (rAll K) := by
  subst hK
  exact cr_all hc
theorem u_any (hc : X.calm = true) (hK : X.K = K := by rfl) : CallR X (.builtin "any") (rAny K) := by
  subst hK
  exact cr_any hc
theorem u_repr {k : Nat} (hr : Rm k X.A) (hK : X.K = K := by rfl) : CallR X (.builtin "repr") (rRepr K) := by
  subst hK
  exact call_repr hr
def rListU (K : PySem.W.Frag) : List V → Hp → VK → Prop := fun xs H Q => ∃ p ys, xs = [.ref p] ∧ (SqL K H p ys ∨ SqT K H p ys) ∧ ∀ l, H l = none → Q (.ref l) (upd H l (.lst ys))
theorem u_list (hK : X.K = K := by rfl) : CallR X (.type "list") (rListU K) := by
  subst hK
  exact call_list_of
def rTupU (K : PySem.W.Frag) : List V → Hp → VK → Prop := fun xs H Q => ∃ p ys, xs = [.ref p] ∧ ((SqL K H p ys ∧ ∀ l, H l = none → Q (.ref l) (upd H l (.tup ys))) ∨ (SqT K H p ys ∧ Q (.ref p) H))
theorem u_tup (hK : X.K = K := by rfl) : CallR X (.type "tuple") (rTupU K) := by
  subst hK
  exact call_tuple_of
theorem u_count (hK : X.K = K := by rfl) : MtR X "list.count" (rCntI K) := by
  subst hK
  exact mt_lcount
def tTru (K : PySem.W.Frag) (ta : TE) : TT := fun σ H Q => ta σ H fun x H' => ∃ k, TruV K x H' k ∧ Q k H'
theorem pt_tru {a : Expr} {ta : TE} (ha : PE X a ta) (he : ∀ whole, isTrue a X.env whole = (do let v ← whole; standAt a.pos; holding [v] (truthy v))) (hK : X.K = K := by rfl) : PT X a (tTru K ta) := by
  subst hK
  exact pt_truth ha he
theorem pi_either {tg iter : Expr} {a b : TI} (h : PI X tg iter a) (h' : PI X tg iter b) : PI X tg iter (fun σ H R => a σ H R ∨ b σ H R) := by
  constructor
  intro pins s σ H R I q
  rcases q with q | q
  · exact h.run pins s σ H R I q
  · exact h'.run pins s σ H R I q
def iSeq (K : PySem.W.Frag) (t : TE) : TI := fun σ H R => iList K t σ H R ∨ iTup K t σ H R
theorem pi_seq {tg e : Expr} {t : TE} (h : PE X e t) (hK : X.K = K := by rfl) : PI X tg e (iSeq K t) := by
  subst hK
  exact pi_either (pi_list h) (pi_tup h)
theorem pi_enu {e : Expr} {ta : TA} {p pos tpos : Pos} {elts : List Expr} {kk : Nat} (hg : Gl X "enumerate") (hm : X.mg "enumerate" = none) (ha : PA X [e] ta) (hK : X.K = K := by rfl)
    (hs : starEach [e] X.env = (false, eval e X.env) :: starEach [] X.env := by rfl) : PI X (.Tuple elts kk tpos) (.Call (.Name "enumerate" p) [e] [] pos) (iEnum K ta) := by
  subst hK
  exact pi_enum hg hm ha hs
theorem pg_tupU {es : List Expr} {k : Nat} {t : TGs} {n : Nat} {pos : Pos} (hc : X.calm = true) (h : PGs X es t) (hK : X.K = K := by rfl)
    (hn : (assignEach es X.env).length = n := by rfl) (hst : (assignEach es X.env).findIdx? (·.1) = none := by rfl) : PG X (.Tuple es k pos) (gTup K n t) := by
  subst hK
  exact pg_tup hc h hn hst
/-- an int's remainder and quotient by a positive one, as they are -/
theorem fmodE {a b : Int} (h : 0 ≤ b := by decide) : a.fmod b = a % b := Int.fmod_eq_emod_of_nonneg a h
theorem fdivE {a b : Int} (h : 0 ≤ b := by decide) : a.fdiv b = a / b := Int.fdiv_eq_ediv_of_nonneg a h
/-- by a positive divisor -/
theorem u_mod : OpR X (binaryOp .Mod) (rI (fun _ j => 0 < j) fun i j => .int (i % j)) := by
  intro pins s σ H x y v u Q I rx ry h
  obtain ⟨i, j, rfl, rfl, hj, q⟩ := h
  refine op_modN pins s σ H _ _ v u Q I rx ry ⟨i, j, rfl, rfl, by omega, ?_⟩
  show Q (.int (i.fmod j)) H
  rw [fmodE (by omega)]
  exact q
theorem u_fdiv : OpR X (binaryOp .FloorDiv) (rI (fun _ j => 0 < j ∧ j < 1073741824) fun i j => .int (i / j)) := by
  intro pins s σ H x y v u Q I rx ry h
  obtain ⟨i, j, rfl, rfl, hj, q⟩ := h
  refine op_fdivN pins s σ H _ _ v u Q I rx ry ⟨i, j, rfl, rfl, ⟨by omega, by omega⟩, ?_⟩
  show Q (.int (i.fdiv j)) H
  rw [fdivE (by omega)]
  exact q
end
end VB
namespace VB
/-- what follows, shown once for several ways -/
theorem once {R G : Prop} (main : R → G) (rest : R) : G := main rest
end VB
/-! sequences: lists and tuples alike -/
namespace VB
open PySem PySem.Spec PyProof.Rows L2
/-- a list (false) or a tuple (true) of the values xs -/
def Sv (t : Bool) (K : PySem.W.Frag) (H : Hp) (a : Addr) (xs : List V) : Prop := match t with
  | false => SqL K H a xs
  | true => SqT K H a xs
section
variable {K : PySem.W.Frag} {H H' : Hp} {a : Addr} {xs : List V} {t : Bool}
theorem Sv.ex (h : Sv t K H a xs) (e : Evl.Ex H H') : Sv t K H' a xs := by
  cases t with
  | false => exact Evl.ex_l e (show SqL K H a xs from h)
  | true => exact Evl.ex_t e (show SqT K H a xs from h)
theorem Sv.lst (h : H a = some (.lst xs)) : Sv false K H a xs := SqL.of h
theorem Sv.tup (h : H a = some (.tup xs)) : Sv true K H a xs := SqT.of h
/-- a walk over what stands in a slot -/
theorem seq_var {i : Nat} {σ : L2.St} {R : It → Hp → Prop} (e : σ[i]? = some (some (.ref a))) (S : Sv t K H a xs)
    (h : ∀ J, Walk J xs.length (fun H => Sv t K H a xs) (YAt xs) → R J H) : iSeq K (tVar i) σ H R := by
  cases t with
  | false => exact .inl ⟨_, e, a, rfl, ⟨xs, S⟩, h _ walk_list⟩
  | true => exact .inr ⟨_, e, a, rfl, ⟨xs, S⟩, h _ walk_tup⟩
theorem Sv.len (S : Sv t K H a xs) : LenV K (.ref a) H xs.length := by
  cases t with
  | false => exact .inl ⟨xs, S, rfl⟩
  | true => exact .inr ⟨xs, S, rfl⟩
theorem Sv.ix {x v : V} {i : Int} {Q : VK} (S : Sv t K H a xs) (h : atI xs i = some v) (q : Q v H) : rIx K (.ref a) (.int i) H Q := by
  cases t with
  | false => exact .inl ⟨a, xs, i, v, rfl, rfl, S, h, q⟩
  | true => exact .inr (.inl ⟨a, xs, i, v, rfl, rfl, S, h, q⟩)
theorem Sv.either (S : Sv t K H a xs) : SqL K H a xs ∨ SqT K H a xs := by
  cases t with
  | false => exact .inl S
  | true => exact .inr S
end
/-- a range by a step upward -/
theorem rg_up {n c : Int} (hn : 0 ≤ n) (hn2 : n < 1000000) (hc : 0 < c) (hc2 : c < 1000000) : RgC 0 n c ((n + c - 1) / c).toNat := by
  refine ⟨by omega, by omega, ?_, ?_⟩
  · have z := PyProof.Rows.rangeSize_pos (len := n) (c := c) (by omega) hn
    have d : 0 ≤ (n + c - 1) / c := Int.ediv_nonneg (by omega) (by omega)
    have d2 : (n + c - 1) / c ≤ n + c - 1 := Int.ediv_le_self _ (by omega)
    have d3 : (n + c - 1) / c * c ≤ n + c - 1 := Int.ediv_mul_le _ (by omega)
    unfold Builtin.Range.small
    rw [z]
    simp only [Builtin.Range.rangeFitsLong, Bool.and_eq_true, Bool.or_eq_true, decide_eq_true_eq, beq_iff_eq, hc, gt_iff_lt, if_true]
    omega
  · have d : 0 ≤ (n + c - 1) / c := Int.ediv_nonneg (by omega) (by omega)
    rw [PyProof.Rows.rangeSize_pos (by omega) hn]
    omega
/-- the promises' shapes: a new list, a new tuple, a value; what stood stands -/
abbrev RL (xs : List V) (H : Hp) (Q : VK) : Prop := ∀ (p : Addr) (H' : Hp), H p = none → Evl.Ex H H' → H' p = some (.lst xs) → Q (.ref p) H'
abbrev RT (xs : List V) (H : Hp) (Q : VK) : Prop := ∀ (p : Addr) (H' : Hp), H p = none → Evl.Ex H H' → H' p = some (.tup xs) → Q (.ref p) H'
abbrev RV (v : V) (H : Hp) (Q : VK) : Prop := ∀ H' : Hp, Evl.Ex H H' → Q v H'
/-- ints as values -/
abbrev IV (ns : List Int) : List V := ns.map V.int
theorem iv_get {ns : List Int} {i : Nat} {x : V} (h : (IV ns)[i]? = some x) : ∃ n, ns[i]? = some n ∧ x = .int n := by
  rw [List.getElem?_map] at h
  cases e : ns[i]? with
  | none => rw [e] at h; cases h
  | some n =>
    rw [e] at h
    exact ⟨n, rfl, (Option.some.inj h).symm⟩
theorem iv_at {ns : List Int} {i : Nat} {n : Int} (h : ns[i]? = some n) : atI (IV ns) (i : Int) = some (.int n) := by
  apply atI_nat
  rw [List.getElem?_map, h]
  rfl
theorem iv_len (ns : List Int) : (IV ns).length = ns.length := List.length_map ..
theorem iv_snoc (ns : List Int) (n : Int) : IV ns ++ [V.int n] = IV (ns ++ [n]) := by simp
theorem take_snoc {α : Type} {l : List α} {i : Nat} {x : α} (h : l[i]? = some x) : l.take (i + 1) = l.take i ++ [x] := by
  rw [List.take_add_one, h]
  rfl
/-- a comprehension over a range that changes nothing: us its items -/
theorem lc_pureR {n j : Nat} {us : List Int} {te : TE} {vs : List Nat} {σ : L2.St} {H1 : Hp} {D : Addr} {Qd : Hp → Prop} (hl : us.length = n) (hz : n ≤ 60000) (hD : H1 D = none)
    (hw : ∀ x, wipe ((wipe σ vs).set j x) vs = wipe σ vs)
    (hs : ∀ (i : Nat) (u : Int) (H : Hp) (Q : VK), us[i]? = some u → Evl.Ex H1 H → (∀ H' : Hp, Evl.Ex H H' → Q (.int u) H') → te ((wipe σ vs).set j (some (.int (i : Int)))) H Q)
    (hd : ∀ H, Evl.Ex H1 H → H D = some (.lst (IV us)) → Qd H) :
    ∃ W : Nat → Nat → Hp → Prop, (∃ m, W 0 m (upd H1 D (.lst []))) ∧ ∀ i m H, W i m H →
      ((Itr 0 n).stop i H ∧ Qd H) ∨ ((Itr 0 n).go i H ∧ ∃ Nx : Hp → Prop, (∀ H', Nx H' → ∃ m', m' < m ∧ W (i + 1) m' H') ∧ ∀ x H', (Itr 0 n).yld i H x H' →
        gName j x (wipe σ vs) H' fun σ2 H2 => wipe σ2 vs = wipe σ vs ∧ tYes σ2 H2 fun b H3 =>
        if b = true then te σ2 H3 fun y H4 => ∃ acc, H4 D = some (.lst acc) ∧ acc.length < sizeLine ∧ Nx (upd H4 D (.lst (acc ++ [y]))) else Nx H3) := by
  refine lc_range (lo := 0) (n := n) (fun i H' => Evl.Ex H1 H' ∧ i ≤ n ∧ H' D = some (.lst (IV (us.take i)))) ⟨Evl.Ex.new hD, Nat.zero_le _, upd_same⟩ ?_ ?_
  · rintro i H hi ⟨e1, hi2, h1⟩
    have e0 : (0 : Int) + (i : Int) = (i : Int) := Int.zero_add _
    rw [e0]
    refine ⟨hw _, ?_⟩
    obtain ⟨u, hu⟩ : ∃ u, us[i]? = some u := ⟨us[i]'(by omega), by simp [show i < us.length by omega]⟩
    show te _ H _
    refine hs i u H _ hu e1 fun H' e2 => ⟨_, e2 D _ h1, ?_, Evl.Ex.mut (e1.trans e2) hD, by omega, ?_⟩
    · rw [iv_len, List.length_take]
      exact Evl.sz_lt (by omega)
    · rw [upd_same, iv_snoc, take_snoc hu]
  · rintro H ⟨e1, _, h1⟩
    refine hd H e1 ?_
    rw [h1, ← hl, List.take_length]
/-- .. over a sequence -/
theorem lc_pureS {J : It} {G : Hp → Prop} {n j : Nat} {us : List Int} {xs : List V} {te : TE} {vs : List Nat} {σ : L2.St} {H1 : Hp} {D : Addr} {Qd : Hp → Prop} (wk : Walk J n G (YAt xs)) (hG : ∀ H, Evl.Ex H1 H → G H)
    (hl : us.length = n) (hz : n ≤ 60000) (hD : H1 D = none) (hw : ∀ x, wipe ((wipe σ vs).set j x) vs = wipe σ vs)
    (hs : ∀ (i : Nat) (x : V) (u : Int) (H : Hp) (Q : VK), xs[i]? = some x → us[i]? = some u → Evl.Ex H1 H → (∀ H' : Hp, Evl.Ex H H' → Q (.int u) H') → te ((wipe σ vs).set j (some x)) H Q)
    (hd : ∀ H, Evl.Ex H1 H → H D = some (.lst (IV us)) → Qd H) :
    ∃ W : Nat → Nat → Hp → Prop, (∃ m, W 0 m (upd H1 D (.lst []))) ∧ ∀ i m H, W i m H →
      (J.stop i H ∧ Qd H) ∨ (J.go i H ∧ ∃ Nx : Hp → Prop, (∀ H', Nx H' → ∃ m', m' < m ∧ W (i + 1) m' H') ∧ ∀ x H', J.yld i H x H' →
        gName j x (wipe σ vs) H' fun σ2 H2 => wipe σ2 vs = wipe σ vs ∧ tYes σ2 H2 fun b H3 =>
        if b = true then te σ2 H3 fun y H4 => ∃ acc, H4 D = some (.lst acc) ∧ acc.length < sizeLine ∧ Nx (upd H4 D (.lst (acc ++ [y]))) else Nx H3) := by
  refine lc_it wk (fun i H' => Evl.Ex H1 H' ∧ i ≤ n ∧ H' D = some (.lst (IV (us.take i)))) ⟨Evl.Ex.new hD, Nat.zero_le _, upd_same⟩ (fun i H _ h => hG H h.1) ?_ ?_
  · rintro i x H H' hi ⟨e1, hi2, h1⟩ ⟨rfl, hx⟩
    refine ⟨hw _, ?_⟩
    obtain ⟨u, hu⟩ : ∃ u, us[i]? = some u := ⟨us[i]'(by omega), by simp [show i < us.length by omega]⟩
    show te _ H' _
    refine hs i x u H' _ hx hu e1 fun H'' e2 => ⟨_, e2 D _ h1, ?_, Evl.Ex.mut (e1.trans e2) hD, by omega, ?_⟩
    · rw [iv_len, List.length_take]
      exact Evl.sz_lt (by omega)
    · rw [upd_same, iv_snoc, take_snoc hu]
  · rintro H ⟨e1, _, h1⟩
    refine hd H e1 ?_
    rw [h1, ← hl, List.take_length]
end VB
/-! data of ints: what stands, what repr shows, what == says -/
namespace VB
open PySem PySem.Spec PyProof.Rows L2
abbrev DL (ns : List Int) : PyData := .list (ns.map .int)
abbrev DT (ns : List Int) : PyData := .tuple (ns.map .int)
section
variable {K : PySem.W.Frag} {H H' : Hp} {a : Addr} {ns : List Int} {t : Bool}
theorem dpAll_ints : ∀ ns : List Int, DpAll K H (IV ns) (ns.map .int)
  | [] => .nil
  | n :: ns => .cons (.int n) (dpAll_ints ns)
theorem dp_l (h : SqL K H a (IV ns)) : Dp K H (.ref a) (DL ns) := .lst h (dpAll_ints ns)
theorem dp_t (h : SqT K H a (IV ns)) : Dp K H (.ref a) (DT ns) := .tup h (dpAll_ints ns)
end
/-- what can be shown, its depth and its text's length bounded -/
structure Sh (d : PyData) (h b : Nat) : Prop where
  ok : d.showable = true
  dep : d.depth ≤ h
  len : d.shown.length ≤ b
theorem Sh.le {d : PyData} {h b h' b' : Nat} (s : Sh d h b) (h1 : h ≤ h' := by omega) (h2 : b ≤ b' := by omega) : Sh d h' b' :=
  ⟨s.ok, Nat.le_trans s.dep h1, Nat.le_trans s.len h2⟩
theorem pow2_lt : ∀ n : Nat, n < 2 ^ n
  | 0 => by decide
  | n + 1 => by
    have := pow2_lt n
    rw [Nat.pow_succ]
    omega
theorem log2_le_self (n : Nat) : n.log2 ≤ n := by
  by_cases h : n = 0
  · subst h
    decide
  · have q := Nat.log2_self_le h
    have p := pow2_lt n.log2
    omega
theorem sh_int {n : Int} (h : 0 ≤ n ∧ n < 10000 ∧ n.natAbs.log2 < 1920) : Sh (.int n) 0 4 := by
  refine ⟨by simp only [PyData.showable, decide_eq_true_eq]; exact h.2.2, by simp only [PyData.depth]; exact Nat.le_refl _, ?_⟩
  rw [PyData.shown_int]
  exact toString_length_le h.1 (by decide) (by omega)
theorem log_small {n : Int} (h : 0 ≤ n) (h2 : n < 10000) : n.natAbs.log2 < 1920 := by
  by_cases z : n.natAbs = 0
  · rw [z]
    decide
  · have q := Nat.log2_lt z (k := 1920)
    refine q.mpr (Nat.lt_of_lt_of_le (m := 2 ^ 14) (by omega) (Nat.pow_le_pow_right (by decide) (by decide)))
theorem piled_le {b : Nat} : ∀ ts : List Str, (∀ t ∈ ts, t.length ≤ b) → piled ts ≤ (b + 2) * ts.length
  | [], _ => Nat.zero_le _
  | t :: ts, h => by
    have a := h t (List.mem_cons_self ..)
    have c := piled_le ts fun u hu => h u (List.mem_cons_of_mem _ hu)
    rw [piled_cons, List.length_cons, Nat.mul_succ]
    omega
theorem join_le {b : Nat} (ts : List Str) (h : ∀ t ∈ ts, t.length ≤ b) : (Str.join ", " ts).length ≤ (b + 2) * ts.length := by
  by_cases z : ts = []
  · subst z
    exact Nat.zero_le _
  · have j := join_length_add ts z
    have p := piled_le ts h
    omega
theorem mem_shown {x : Str} : ∀ {ds : List PyData}, x ∈ PyData.shownAll ds → ∃ d ∈ ds, x = d.shown
  | [], h => by
    rw [PyData.shownAll_nil] at h
    cases h
  | d :: ds, h => by
    rw [PyData.shownAll_cons] at h
    cases h with
    | head => exact ⟨d, List.mem_cons_self .., rfl⟩
    | tail _ h =>
      obtain ⟨e, he, q⟩ := mem_shown h
      exact ⟨e, List.mem_cons_of_mem _ he, q⟩
theorem depAll {h : Nat} : ∀ {ds : List PyData}, (∀ d ∈ ds, d.depth ≤ h) → PyData.depthAll ds ≤ h
  | [], _ => by simp only [PyData.depthAll]; exact Nat.zero_le _
  | d :: ds, q => by
    simp only [PyData.depthAll]
    exact Nat.max_le.mpr ⟨q d (List.mem_cons_self ..), depAll fun e he => q e (List.mem_cons_of_mem _ he)⟩
theorem str_app (a b : Str) : (a ++ b).length = a.length + b.length := by
  exact strLen_append a b
theorem sh_list {ds : List PyData} {h b n : Nat} (q : ∀ d ∈ ds, Sh d h b) (hn : ds.length ≤ n) : Sh (.list ds) (h + 1) ((b + 2) * n + 4) := by
  refine ⟨?_, ?_, ?_⟩
  · simp only [PyData.showable]
    exact PySem.Spec.showableAll_of fun d hd => (q d hd).ok
  · simp only [PyData.depth]
    exact Nat.succ_le_succ (depAll fun d hd => (q d hd).dep)
  · rw [PyData.shown_list, str_app, str_app]
    have j := join_le (b := b) (PyData.shownAll ds) (by
      intro t ht
      obtain ⟨d, hd, rfl⟩ := mem_shown ht
      exact (q d hd).len)
    rw [PyData.shownAll_length] at j
    have l1 : ("[" : Str).length = 1 := by decide
    have l2 : ("]" : Str).length = 1 := by decide
    have m : (b + 2) * ds.length ≤ (b + 2) * n := Nat.mul_le_mul_left _ hn
    omega
theorem sh_tup {ds : List PyData} {h b n : Nat} (q : ∀ d ∈ ds, Sh d h b) (hn : ds.length ≤ n) : Sh (.tuple ds) (h + 1) ((b + 2) * n + 4) := by
  refine ⟨?_, ?_, ?_⟩
  · simp only [PyData.showable]
    exact PySem.Spec.showableAll_of fun d hd => (q d hd).ok
  · simp only [PyData.depth]
    exact Nat.succ_le_succ (depAll fun d hd => (q d hd).dep)
  · rw [PyData.shown_tuple, str_app, str_app]
    have j := join_le (b := b) (PyData.shownAll ds) (by
      intro t ht
      obtain ⟨d, hd, rfl⟩ := mem_shown ht
      exact (q d hd).len)
    rw [PyData.shownAll_length] at j
    have l1 : ("(" : Str).length = 1 := by decide
    have l2 : (if ds.length == 1 then ",)" else ")" : Str).length ≤ 2 := by
      split <;> decide
    have m : (b + 2) * ds.length ≤ (b + 2) * n := Nat.mul_le_mul_left _ hn
    have l3 : (Str.ofString (if ds.length == 1 then ",)" else ")" : String)).length ≤ 2 := by
      split <;> decide
    omega
/-- ints below 10000 -/
def Sm (ns : List Int) : Prop := ∀ n ∈ ns, 0 ≤ n ∧ n < 10000
theorem sm_ds {ns : List Int} (h : Sm ns) : ∀ d ∈ ns.map PyData.int, Sh d 0 4 := by
  intro d hd
  obtain ⟨n, hn, rfl⟩ := List.mem_map.mp hd
  have := h n hn
  exact sh_int ⟨this.1, this.2, log_small this.1 this.2⟩
theorem sh_l {ns : List Int} (h : Sm ns) (hl : ns.length ≤ 6000) : Sh (DL ns) 1 40000 := (sh_list (sm_ds h) (n := 6000) (by simpa using hl)).le
theorem sh_t {ns : List Int} (h : Sm ns) (hl : ns.length ≤ 6000) : Sh (DT ns) 1 40000 := (sh_tup (sm_ds h) (n := 6000) (by simpa using hl)).le
section
variable {K : PySem.W.Frag} {H : Hp} {a b : Addr} {ns ms : List Int} {Q : VK}
theorem rp {d : PyData} {h n : Nat} (e : Dp K H (.ref a) d) (s : Sh d h n) (q : Q (.str d.shown) H) (hh : h ≤ 60 := by decide) (hn : n ≤ 1000000 := by omega) : rRepr K [.ref a] H Q := by
  unfold rRepr
  exact ⟨a, d, rfl, e, s.ok, Nat.le_trans s.dep hh, Nat.le_trans (Nat.le_trans s.len hn) (by decide), q⟩
theorem rp_l (e : SqL K H a (IV ns)) (h : Sm ns) (hl : ns.length ≤ 6000) (q : Q (.str (DL ns).shown) H) : rRepr K [.ref a] H Q := rp (dp_l e) (sh_l h hl) q
theorem rp_t (e : SqT K H a (IV ns)) (h : Sm ns) (hl : ns.length ≤ 6000) (q : Q (.str (DT ns).shown) H) : rRepr K [.ref a] H Q := rp (dp_t e) (sh_t h hl) q
theorem eqvAll_ints : ∀ xs ys : List Int, PyData.eqvAll (xs.map .int) (ys.map .int) = decide (xs = ys)
  | [], [] => by simp [PyData.eqvAll]
  | [], _ :: _ => by simp [PyData.eqvAll]
  | _ :: _, [] => by simp [PyData.eqvAll]
  | x :: xs, y :: ys => by
    simp only [List.map_cons, PyData.eqvAll, PyData.eqv, eqvAll_ints xs ys]
    by_cases h : x = y <;> by_cases h2 : xs = ys <;> simp [h, h2]
theorem canAll : ∀ ns : List Int, PyData.canLayAll0 (ns.map .int) = true
  | [] => by simp [PyData.canLayAll0]
  | n :: ns => by simp [PyData.canLayAll0, PyData.canLay0, canAll ns]
theorem depInts : ∀ ns : List Int, PyData.depthAll (ns.map .int) = 0
  | [] => by simp [PyData.depthAll]
  | n :: ns => by simp [PyData.depthAll, PyData.depth, depInts ns]
theorem shp_l (ns : List Int) : SeqAt.shaped (DL ns) = true := by simp [SeqAt.shaped, PyData.canLay0, PyData.depth, canAll, depInts]
theorem shp_t (ns : List Int) : SeqAt.shaped (DT ns) = true := by simp [SeqAt.shaped, PyData.canLay0, PyData.depth, canAll, depInts]
theorem req_l (e : SqL K H a (IV ns)) (e' : SqL K H b (IV ms)) (q : Q (.bl (decide (ns = ms))) H) : rEqD K (.ref a) (.ref b) H Q := by
  refine ⟨DL ns, DL ms, dp_l e, dp_l e', shp_l _, shp_l _, ?_⟩
  rw [show PyData.eqv (DL ns) (DL ms) = decide (ns = ms) by simp only [DL, PyData.eqv]; exact eqvAll_ints ns ms]
  exact q
theorem req_t (e : SqT K H a (IV ns)) (e' : SqT K H b (IV ms)) (q : Q (.bl (decide (ns = ms))) H) : rEqD K (.ref a) (.ref b) H Q := by
  refine ⟨DT ns, DT ms, dp_t e, dp_t e', shp_t _, shp_t _, ?_⟩
  rw [show PyData.eqv (DT ns) (DT ms) = decide (ns = ms) by simp only [DT, PyData.eqv]; exact eqvAll_ints ns ms]
  exact q
theorem rne_l (e : SqL K H a (IV ns)) (e' : SqL K H b (IV ms)) (q : Q (.bl (!decide (ns = ms))) H) : rNeD K (.ref a) (.ref b) H Q := by
  refine ⟨DL ns, DL ms, dp_l e, dp_l e', shp_l _, shp_l _, ?_⟩
  rw [show PyData.eqv (DL ns) (DL ms) = decide (ns = ms) by simp only [DL, PyData.eqv]; exact eqvAll_ints ns ms]
  exact q
end
end VB
/-! a tuple once is the tuple -/
namespace VB
open PySem PySem.Spec PyProof.Rows L2
theorem tuple_mul1 (l : Addr) (items : Array Value) (n : Nat) (dd : Option Addr) (sl : Array (Option Value)) (x : Int) (u : Tok) (c0 : (decide (x < -(2 ^ 63)) || decide (x ≥ 2 ^ 63)) = false) (c1 : (items.isEmpty || x == 1) = true) :
    Meets (Builtin.«tuple.__mul__» ⟨[.ref l, .int x u], []⟩) (fun _ R s => s.heap.get? l = some { cls := .type "tuple", dict := dd, data := .seq items n, slots := sl } ∧
      R (.ok (.ret (.ref l))) s) :=
  .of_wp fun prog w A R s h => by
    obtain ⟨hp, g, d, tk, os⟩ := s
    obtain ⟨hl, h⟩ := h
    have f1 := AutoSeq1.idx_int
    wp_walk using wpAny_loadPart' hl
    repeat (first
      | (refine wpAny_ite_false (decide_eq_false (by rw [c0]; exact Bool.false_ne_true)) ?_; wp_walk using wpAny_loadPart' hl)
      | (refine wpAny_ite_true (decide_eq_true c1) ?_; wp_walk using wpAny_loadPart' hl))
    exact ⟨_, rfl, h⟩
def rRepT1 (K : PySem.W.Frag) : R2 := fun x y H Q => ∃ l xs, x = .ref l ∧ y = .int 1 ∧ SqT K H l xs ∧ Q (.ref l) H
section
variable {X : Cx} {K : PySem.W.Frag}
theorem op_repT1 : OpR X (binaryOp .Mult) (rRepT1 X.K) := by
  intro pins s σ H x y v u Q I rx ry h
  obtain ⟨l, xs, rfl, rfl, hT, q⟩ := h
  cases rx
  obtain ⟨t, rfl⟩ := ry
  obtain ⟨its, r, ⟨⟨cls, dd, data, sl⟩, ho, hc, n, hd⟩, hs⟩ := I.tuple hT
  simp only at hc hd
  subst hc hd
  have c0 : (decide ((1 : Int) < -(2 ^ 63)) || decide ((1 : Int) ≥ 2 ^ 63)) = false := by decide
  have c1 : (its.toArray.isEmpty || (1 : Int) == 1) = true := by simp
  refine wpAny_binaryOp_repeat_ref (T := "tuple") (U := "int") (by decide) ⟨_, ho, rfl⟩ (fun s' => typeIs_int s' 1 t) noFill_tuple_mul F.fills_int_mul F.slot_int_rmul repeat_tuple F.slot_int_index.lookup
    (call_meets F.slot_int_rmul (typeIs_int s 1 t) F.entry_int_rmul (F.args_int_rmul_2 _ _) (int_rmul_tuple 1 t l its.toArray n dd sl)
      ⟨ho, rfl, ⟨_, ho, rfl⟩, call_meets F.slot_tuple_mul ⟨_, ho, rfl⟩ F.entry_tuple_mul (F.args_tuple_mul_2 _ _) (tuple_mul1 l its.toArray n dd sl 1 t c0 c1) ⟨ho, ?_⟩⟩)
  exact ⟨.ref l, H, I, rfl, q⟩
/-- +, * of this law: tuples once, too -/
@[irreducible] def rMulU1 (K : PySem.W.Frag) : R2 := fun x y H Q => rMulU K x y H Q ∨ rRepT1 K x y H Q
theorem u_mul1 (hK : X.K = K := by rfl) : OpR X (binaryOp .Mult) (rMulU1 K) := by
  subst hK
  unfold rMulU1
  exact (u_mul rfl).or op_repT1
end
end VB
/-! readings that are never unfolded -/
namespace VB
open PySem PySem.Spec PyProof.Rows L2
section
variable {X : Cx} {K : PySem.W.Frag}
@[irreducible] def rTupI (K : PySem.W.Frag) : List V → Hp → VK → Prop := rTupU K
@[irreducible] def rListI (K : PySem.W.Frag) : List V → Hp → VK → Prop := rListU K
theorem u_tupI (hK : X.K = K := by rfl) : CallR X (.type "tuple") (rTupI K) := by
  unfold rTupI
  exact u_tup hK
theorem u_listI (hK : X.K = K := by rfl) : CallR X (.type "list") (rListI K) := by
  unfold rListI
  exact u_list hK
@[irreducible] def tIfI (c : TT) (t u : TS) : TS := tIfS c t u
theorem ps_ifI {test : Expr} {body orelse : List Stmt} {pos : Pos} {c : TT} {t u : TS} (hc : PT X test c) (ht : PSs X body t) (hu : PSs X orelse u) : PS X (.If test body orelse pos) (tIfI c t u) := by
  unfold tIfI
  exact ps_if hc ht hu
end
end VB
/-! bits of octets: plain mathematics -/
namespace BM
def bitsOf (o : Int) : List Int := [o / 128 % 2, o / 64 % 2, o / 32 % 2, o / 16 % 2, o / 8 % 2, o / 4 % 2, o / 2 % 2, o / 1 % 2]
def bitsL (os : List Int) : List Int := os.flatMap bitsOf
def octOf (bs : List Int) : Int := bs.foldl (fun n b => 2 * n + b) 0
def octetsN : Nat → List Int → List Int
  | 0, _ => []
  | n + 1, bs => octOf (bs.take 8) :: octetsN n (bs.drop 8)
def octetsL (bs : List Int) : List Int := octetsN ((bs.length + 7) / 8) bs
def Oct (os : List Int) : Prop := ∀ o ∈ os, 0 ≤ o ∧ o ≤ 255
def Bit (bs : List Int) : Prop := ∀ b ∈ bs, b = 0 ∨ b = 1
/-- the indices at which the first is 1 and the second 0 -/
def fallenL : Int → List Int → List Int → List Int
  | k, a :: as, b :: bs => if a = 1 ∧ b = 0 then k :: fallenL (k + 1) as bs else fallenL (k + 1) as bs
  | _, _, _ => []
/-- what a mask leaves on the way -/
def turned : List Int → List Int → Int → List Int
  | a :: as, b :: bs, m => if a = b then a :: turned as bs m else (if m % 2 = 1 then b else a) :: turned as bs (m / 2)
  | _, _, _ => []
def unlike : List Int → List Int → Nat
  | a :: as, b :: bs => (if a = b then 0 else 1) + unlike as bs
  | _, _ => 0

theorem bitsOf_bit {o b : Int} (h : b ∈ bitsOf o) : b = 0 ∨ b = 1 := by
  simp only [bitsOf, List.mem_cons, List.not_mem_nil, or_false] at h
  omega
theorem bitsL_bit (os : List Int) : Bit (bitsL os) := by
  intro b h
  obtain ⟨o, _, ho⟩ := List.mem_flatMap.mp h
  exact bitsOf_bit ho
theorem bitsL_nil : bitsL [] = [] := rfl
theorem bitsL_cons (o : Int) (os : List Int) : bitsL (o :: os) = bitsOf o ++ bitsL os := by simp [bitsL]
theorem bitsOf_len (o : Int) : (bitsOf o).length = 8 := rfl
theorem bitsL_len : ∀ os : List Int, (bitsL os).length = 8 * os.length
  | [] => rfl
  | o :: os => by
    rw [bitsL_cons, List.length_append, bitsL_len os, bitsOf_len, List.length_cons]
    omega
theorem bitsL_append (a b : List Int) : bitsL (a ++ b) = bitsL a ++ bitsL b := by simp [bitsL]
theorem octOf_bitsOf {o : Int} (h : 0 ≤ o ∧ o ≤ 255) : octOf (bitsOf o) = o := by
  have key : ∀ n : Fin 256, octOf (bitsOf ((n : Nat) : Int)) = ((n : Nat) : Int) := by decide +kernel
  have e := key ⟨o.toNat, by omega⟩
  have e2 : ((o.toNat : Nat) : Int) = o := Int.toNat_of_nonneg h.1
  simp only [e2] at e
  exact e
theorem eight {bs : List Int} (h : 8 ≤ bs.length) : ∃ a b c d e f g i r, bs = a :: b :: c :: d :: e :: f :: g :: i :: r := by
  match bs, h with
  | a :: b :: c :: d :: e :: f :: g :: i :: r, _ => exact ⟨a, b, c, d, e, f, g, i, r, rfl⟩
theorem octOf8 (a b c d e f g i : Int) : octOf [a, b, c, d, e, f, g, i] = 128 * a + 64 * b + 32 * c + 16 * d + 8 * e + 4 * f + 2 * g + i := by
  simp only [octOf, List.foldl_cons, List.foldl_nil]
  omega
theorem bit_le {x : Int} (h : x = 0 ∨ x = 1) : 0 ≤ x ∧ x ≤ 1 := by omega
theorem bitsOf_octOf {a b c d e f g i : Int} (h : Bit [a, b, c, d, e, f, g, i]) : bitsOf (octOf [a, b, c, d, e, f, g, i]) = [a, b, c, d, e, f, g, i] := by
  obtain ⟨a0, a1⟩ := bit_le (h a (by simp))
  obtain ⟨b0, b1⟩ := bit_le (h b (by simp))
  obtain ⟨c0, c1⟩ := bit_le (h c (by simp))
  obtain ⟨d0, d1⟩ := bit_le (h d (by simp))
  obtain ⟨e0, e1⟩ := bit_le (h e (by simp))
  obtain ⟨f0, f1⟩ := bit_le (h f (by simp))
  obtain ⟨g0, g1⟩ := bit_le (h g (by simp))
  obtain ⟨i0, i1⟩ := bit_le (h i (by simp))
  clear h
  rw [octOf8]
  simp only [bitsOf, List.cons.injEq, and_true]
  refine ⟨?_, ?_, ?_, ?_, ?_, ?_, ?_, ?_⟩ <;> omega
theorem octOf_range {a b c d e f g i : Int} (h : Bit [a, b, c, d, e, f, g, i]) : 0 ≤ octOf [a, b, c, d, e, f, g, i] ∧ octOf [a, b, c, d, e, f, g, i] ≤ 255 := by
  have ha := h a (by simp)
  have hb := h b (by simp)
  have hc := h c (by simp)
  have hd := h d (by simp)
  have he := h e (by simp)
  have hf := h f (by simp)
  have hg := h g (by simp)
  have hi := h i (by simp)
  rw [octOf8]
  omega
theorem Bit.split8 {a b c d e f g i : Int} {r : List Int} (h : Bit (a :: b :: c :: d :: e :: f :: g :: i :: r)) : Bit [a, b, c, d, e, f, g, i] ∧ Bit r := by
  constructor
  · intro x hx
    refine h x ?_
    simp only [List.mem_cons, List.not_mem_nil, or_false] at hx
    simp only [List.mem_cons]
    rcases hx with q | q | q | q | q | q | q | q <;> simp [q]
  · intro x hx
    exact h x (by simp [hx])
/-- bits of octets of bits -/
theorem octetsN_spec : ∀ (n : Nat) (bs : List Int), bs.length = 8 * n → Bit bs → bitsL (octetsN n bs) = bs ∧ Oct (octetsN n bs) ∧ (octetsN n bs).length = n
  | 0, bs, hl, _ => by
    have e : bs = [] := List.eq_nil_of_length_eq_zero (by omega)
    subst e
    exact ⟨rfl, fun _ h => (by cases h), rfl⟩
  | n + 1, bs, hl, hb => by
    obtain ⟨a, b, c, d, e, f, g, i, r, rfl⟩ := eight (bs := bs) (by omega)
    obtain ⟨h1, h2⟩ := hb.split8
    have hr : r.length = 8 * n := by
      simp only [List.length_cons] at hl
      omega
    obtain ⟨i1, i2, i3⟩ := octetsN_spec n r hr h2
    refine ⟨?_, ?_, ?_⟩
    · show bitsL (octOf [a, b, c, d, e, f, g, i] :: octetsN n r) = _
      rw [bitsL_cons, bitsOf_octOf h1, i1]
      rfl
    · intro o ho
      rcases List.mem_cons.mp ho with q | q
      · rw [q]
        exact octOf_range h1
      · exact i2 o q
    · show (octetsN n r).length + 1 = n + 1
      rw [i3]
theorem octetsL_spec {bs : List Int} {n : Nat} (hl : bs.length = 8 * n) (hb : Bit bs) : bitsL (octetsL bs) = bs ∧ Oct (octetsL bs) ∧ (octetsL bs).length = n := by
  have e : (bs.length + 7) / 8 = n := by omega
  unfold octetsL
  rw [e]
  exact octetsN_spec n bs hl hb
theorem octetsL_bitsL : ∀ {os : List Int}, Oct os → octetsL (bitsL os) = os := by
  intro os
  induction os with
  | nil => intro _; rfl
  | cons o os ih =>
    intro h
    have h1 := h o List.mem_cons_self
    have h2 : Oct os := fun x hx => h x (List.mem_cons_of_mem _ hx)
    have i := ih h2
    have l := bitsL_len os
    have l2 := bitsL_len (o :: os)
    unfold octetsL at i ⊢
    have e1 : ((bitsL os).length + 7) / 8 = os.length := by omega
    have e2 : ((bitsL (o :: os)).length + 7) / 8 = os.length + 1 := by
      rw [l2, List.length_cons]
      omega
    rw [e1] at i
    rw [e2, bitsL_cons]
    show octOf ((bitsOf o ++ bitsL os).take 8) :: octetsN os.length ((bitsOf o ++ bitsL os).drop 8) = _
    have t : (bitsOf o ++ bitsL os).take 8 = bitsOf o := by rw [List.take_append_of_le_length (by rw [bitsOf_len]; omega)]; rfl
    have d : (bitsOf o ++ bitsL os).drop 8 = bitsL os := rfl
    rw [t, d, octOf_bitsOf h1, i]
theorem turned_len : ∀ (as bs : List Int) (m : Int), as.length = bs.length → (turned as bs m).length = as.length
  | [], [], _, _ => rfl
  | a :: as, b :: bs, m, h => by
    unfold turned
    have h' : as.length = bs.length := by simpa using h
    split
    · rw [List.length_cons, turned_len as bs m h', List.length_cons]
    · rw [List.length_cons, turned_len as bs _ h', List.length_cons]
  | [], _ :: _, _, h => by simp at h
  | _ :: _, [], _, h => by simp at h
theorem turned_bit : ∀ (as bs : List Int) (m : Int), Bit as → Bit bs → Bit (turned as bs m)
  | [], _, _, _, _ => by
    unfold turned
    intro x h
    cases h
  | _ :: _, [], _, _, _ => by
    unfold turned
    intro x h
    cases h
  | a :: as, b :: bs, m, ha, hb => by
    have h1 := ha a List.mem_cons_self
    have h2 := hb b List.mem_cons_self
    have h3 : Bit as := fun x hx => ha x (List.mem_cons_of_mem _ hx)
    have h4 : Bit bs := fun x hx => hb x (List.mem_cons_of_mem _ hx)
    unfold turned
    split
    · intro x hx
      rcases List.mem_cons.mp hx with q | q
      · rw [q]; exact h1
      · exact turned_bit as bs m h3 h4 x q
    · intro x hx
      rcases List.mem_cons.mp hx with q | q
      · rw [q]
        split
        · exact h2
        · exact h1
      · exact turned_bit as bs _ h3 h4 x q
/-- below at each place -/
def Le : List Int → List Int → Prop
  | a :: as, b :: bs => a ≤ b ∧ Le as bs
  | [], [] => True
  | _, _ => False
theorem Le.refl : ∀ as : List Int, Le as as
  | [] => True.intro
  | a :: as => ⟨Int.le_refl a, Le.refl as⟩
theorem Le.len : ∀ {as bs : List Int}, Le as bs → as.length = bs.length
  | [], [], _ => rfl
  | _ :: as, _ :: bs, h => by rw [List.length_cons, List.length_cons, Le.len h.2]
  | [], _ :: _, h => h.elim
  | _ :: _, [], h => h.elim
/-- where nothing rises from as to bs, what is left lies between -/
theorem turned_down : ∀ {as bs : List Int} (m : Int), Le bs as → Le bs (turned as bs m) ∧ Le (turned as bs m) as
  | [], [], _, _ => ⟨True.intro, True.intro⟩
  | a :: as, b :: bs, m, h => by
    have i1 := turned_down (as := as) (bs := bs) m h.2
    have i2 := turned_down (as := as) (bs := bs) (m / 2) h.2
    have h1 := h.1
    unfold turned
    split
    · rename_i e
      exact ⟨⟨by omega, i1.1⟩, ⟨Int.le_refl a, i1.2⟩⟩
    · refine ⟨⟨?_, i2.1⟩, ⟨?_, i2.2⟩⟩ <;> split <;> omega
  | [], _ :: _, _, h => h.elim
  | _ :: _, [], _, h => h.elim
theorem turned_up : ∀ {as bs : List Int} (m : Int), Le as bs → Le as (turned as bs m) ∧ Le (turned as bs m) bs
  | [], [], _, _ => ⟨True.intro, True.intro⟩
  | a :: as, b :: bs, m, h => by
    have i1 := turned_up (as := as) (bs := bs) m h.2
    have i2 := turned_up (as := as) (bs := bs) (m / 2) h.2
    have h1 := h.1
    unfold turned
    split
    · rename_i e
      exact ⟨⟨Int.le_refl a, i1.1⟩, ⟨by omega, i1.2⟩⟩
    · refine ⟨⟨?_, i2.1⟩, ⟨?_, i2.2⟩⟩ <;> split <;> omega
  | [], _ :: _, _, h => h.elim
  | _ :: _, [], _, h => h.elim
theorem Le.trans : ∀ {as bs cs : List Int}, Le as bs → Le bs cs → Le as cs
  | [], [], [], _, _ => True.intro
  | _ :: _, _ :: _, _ :: _, h, h' => ⟨Int.le_trans h.1 h'.1, h.2.trans h'.2⟩
  | [], _ :: _, _, h, _ => h.elim
  | _ :: _, [], _, h, _ => h.elim
  | [], [], _ :: _, _, h => h.elim
  | _ :: _, _ :: _, [], _, h => h.elim
/-- nothing falls upward -/
theorem fallen_none : ∀ {as bs : List Int} (k : Int), Le as bs → fallenL k as bs = []
  | [], [], _, _ => rfl
  | a :: as, b :: bs, k, h => by
    have h1 := h.1
    unfold fallenL
    rw [if_neg (by omega)]
    exact fallen_none _ h.2
  | [], _ :: _, _, h => h.elim
  | _ :: _, [], _, h => h.elim
def zc (bs : List Int) : Int := ((bs.count 0 : Nat) : Int)
theorem zc_nil : zc [] = 0 := rfl
theorem zc_cons (b : Int) (bs : List Int) : zc (b :: bs) = (if b = 0 then 1 else 0) + zc bs := by
  unfold zc
  rw [List.count_cons]
  by_cases h : b = 0
  · simp [h]
    omega
  · simp [h]
/-- more zeros below, as many only if equal -/
theorem zc_le : ∀ {as bs : List Int}, Bit as → Bit bs → Le as bs → zc bs ≤ zc as ∧ (zc bs = zc as → as = bs)
  | [], [], _, _, _ => ⟨Int.le_refl _, fun _ => rfl⟩
  | a :: as, b :: bs, ha, hb, h => by
    have h1 := ha a List.mem_cons_self
    have h2 := hb b List.mem_cons_self
    have h3 : Bit as := fun x hx => ha x (List.mem_cons_of_mem _ hx)
    have h4 : Bit bs := fun x hx => hb x (List.mem_cons_of_mem _ hx)
    have h5 := h.1
    obtain ⟨i1, i2⟩ := zc_le h3 h4 h.2
    rw [zc_cons, zc_cons]
    rcases h1 with rfl | rfl <;> rcases h2 with rfl | rfl
    · refine ⟨by simp; omega, fun e => ?_⟩
      rw [i2 (by simp at e; omega)]
    · refine ⟨by simp; omega, fun e => ?_⟩
      simp at e
      omega
    · omega
    · refine ⟨by simp; omega, fun e => ?_⟩
      rw [i2 (by simp at e; omega)]
  | [], _ :: _, _, _, h => h.elim
  | _ :: _, [], _, _, h => h.elim
/-- zeros: what falls more, what rises less -/
theorem zc_diff : ∀ (as bs : List Int) (k l : Int), Bit as → Bit bs → as.length = bs.length → zc bs = zc as + ((fallenL k as bs).length : Int) - ((fallenL l bs as).length : Int)
  | [], [], _, _, _, _, _ => rfl
  | a :: as, b :: bs, k, l, ha, hb, hl => by
    have h1 := ha a List.mem_cons_self
    have h2 := hb b List.mem_cons_self
    have h3 : Bit as := fun x hx => ha x (List.mem_cons_of_mem _ hx)
    have h4 : Bit bs := fun x hx => hb x (List.mem_cons_of_mem _ hx)
    have i := zc_diff as bs (k + 1) (l + 1) h3 h4 (by simpa using hl)
    unfold fallenL
    rw [zc_cons, zc_cons]
    rcases h1 with rfl | rfl <;> rcases h2 with rfl | rfl <;> simp <;> omega
  | [], _ :: _, _, _, _, _, hl => by simp at hl
  | _ :: _, [], _, _, _, _, hl => by simp at hl
/-- both sets empty: equal -/
theorem fallen_both : ∀ (as bs : List Int) (k l : Int), Bit as → Bit bs → as.length = bs.length → fallenL k as bs = [] → fallenL l bs as = [] → as = bs
  | [], [], _, _, _, _, _, _, _ => rfl
  | a :: as, b :: bs, k, l, ha, hb, hl, e1, e2 => by
    have h1 := ha a List.mem_cons_self
    have h2 := hb b List.mem_cons_self
    have h3 : Bit as := fun x hx => ha x (List.mem_cons_of_mem _ hx)
    have h4 : Bit bs := fun x hx => hb x (List.mem_cons_of_mem _ hx)
    unfold fallenL at e1 e2
    rcases h1 with rfl | rfl <;> rcases h2 with rfl | rfl
    · simp at e1 e2
      rw [fallen_both as bs _ _ h3 h4 (by simpa using hl) e1 e2]
    · simp at e2
    · simp at e1
    · simp at e1 e2
      rw [fallen_both as bs _ _ h3 h4 (by simpa using hl) e1 e2]
  | [], _ :: _, _, _, _, _, hl, _, _ => by simp at hl
  | _ :: _, [], _, _, _, _, hl, _, _ => by simp at hl
theorem fallen_self : ∀ (as : List Int) (k : Int), fallenL k as as = []
  | [], _ => rfl
  | a :: as, k => by
    unfold fallenL
    rw [if_neg (by omega)]
    exact fallen_self as _
theorem fallen_len : ∀ (as bs : List Int) (k : Int), (fallenL k as bs).length ≤ as.length
  | [], _, _ => by simp [fallenL]
  | _ :: _, [], _ => by simp [fallenL]
  | a :: as, b :: bs, k => by
    unfold fallenL
    have i := fallen_len as bs (k + 1)
    split <;> simp only [List.length_cons] <;> omega
/-- the mask of no bit, and one that reaches beyond all -/
theorem turned_zero : ∀ (as bs : List Int), as.length = bs.length → turned as bs 0 = as
  | [], [], _ => rfl
  | a :: as, b :: bs, h => by
    have h' : as.length = bs.length := by simpa using h
    unfold turned
    split
    · rw [turned_zero as bs h']
    · have e : (0 : Int) / 2 = 0 := rfl
      rw [if_neg (by decide), e, turned_zero as bs h']
  | [], _ :: _, h => by simp at h
  | _ :: _, [], h => by simp at h
theorem unlike_eq : ∀ (as bs : List Int) (k l : Int), Bit as → Bit bs → as.length = bs.length → unlike as bs = (fallenL k as bs).length + (fallenL l bs as).length
  | [], [], _, _, _, _, _ => rfl
  | a :: as, b :: bs, k, l, ha, hb, hl => by
    have h1 := ha a List.mem_cons_self
    have h2 := hb b List.mem_cons_self
    have h3 : Bit as := fun x hx => ha x (List.mem_cons_of_mem _ hx)
    have h4 : Bit bs := fun x hx => hb x (List.mem_cons_of_mem _ hx)
    have i := unlike_eq as bs (k + 1) (l + 1) h3 h4 (by simpa using hl)
    unfold fallenL unlike
    rcases h1 with rfl | rfl <;> rcases h2 with rfl | rfl <;> simp <;> omega
  | [], _ :: _, _, _, _, _, hl => by simp at hl
  | _ :: _, [], _, _, _, _, hl => by simp at hl
theorem pow2_odd (n : Nat) : ((2 : Int) ^ (n + 1) - 1) % 2 = 1 ∧ ((2 : Int) ^ (n + 1) - 1) / 2 = 2 ^ n - 1 := by
  have e : (2 : Int) ^ (n + 1) = 2 * 2 ^ n := by rw [Int.pow_succ]; omega
  omega
/-- all ones up to the last unlike bit: the new ones -/
theorem turned_ones : ∀ (as bs : List Int) (n : Nat), as.length = bs.length → unlike as bs ≤ n → turned as bs (2 ^ n - 1) = bs
  | [], [], _, _, _ => rfl
  | a :: as, b :: bs, n, h, hu => by
    have h' : as.length = bs.length := by simpa using h
    unfold unlike at hu
    unfold turned
    split
    · rename_i e
      rw [if_pos e] at hu
      rw [turned_ones as bs n h' (by omega), e]
    · rename_i e
      rw [if_neg e] at hu
      obtain ⟨k, rfl⟩ : ∃ k, n = k + 1 := ⟨n - 1, by omega⟩
      obtain ⟨o1, o2⟩ := pow2_odd k
      rw [if_pos o1, o2, turned_ones as bs k h' (by omega)]
  | [], _ :: _, _, h, _ => by simp at h
  | _ :: _, [], _, h, _ => by simp at h
/-- a mask whose first n bits are 0, where at most n bits are unlike: nothing turns -/
theorem turned_beyond : ∀ (as bs : List Int) (n : Nat), as.length = bs.length → unlike as bs ≤ n → turned as bs (2 ^ n) = as
  | [], [], _, _, _ => rfl
  | a :: as, b :: bs, n, h, hu => by
    have h' : as.length = bs.length := by simpa using h
    unfold unlike at hu
    unfold turned
    split
    · rename_i e
      rw [if_pos e] at hu
      rw [turned_beyond as bs n h' (by omega)]
    · rename_i e
      rw [if_neg e] at hu
      obtain ⟨k, rfl⟩ : ∃ k, n = k + 1 := ⟨n - 1, by omega⟩
      have e1 : (2 : Int) ^ (k + 1) = 2 * 2 ^ k := by rw [Int.pow_succ]; omega
      have e2 : ((2 : Int) ^ (k + 1)) % 2 = 0 := by omega
      have e3 : ((2 : Int) ^ (k + 1)) / 2 = 2 ^ k := by omega
      rw [if_neg (by omega), e3, turned_beyond as bs k h' (by omega)]
  | [], _ :: _, _, h, _ => by simp at h
  | _ :: _, [], _, h, _ => by simp at h
/-- 4096 ones: the first 4096 unlike bits turn, the others stay -/
theorem turned_first : ∀ (n m : Nat), turned (List.replicate (n + m) 1) (List.replicate (n + m) 0) (2 ^ n - 1) = List.replicate n 0 ++ List.replicate m 1
  | 0, m => by
    have e : ((2 : Int) ^ 0 - 1) = 0 := rfl
    rw [e, Nat.zero_add, turned_zero _ _ (by simp)]
    simp
  | n + 1, m => by
    have e : n + 1 + m = (n + m) + 1 := by omega
    rw [e, List.replicate_succ, List.replicate_succ, List.replicate_succ]
    unfold turned
    obtain ⟨o1, o2⟩ := pow2_odd n
    rw [if_neg (by decide), if_pos o1, o2, turned_first n m]
    rfl
theorem fold_bound : ∀ (l : List Int) (n : Int), Bit l → 0 ≤ n → 0 ≤ l.foldl (fun n b => 2 * n + b) n ∧ l.foldl (fun n b => 2 * n + b) n + 1 ≤ (n + 1) * 2 ^ l.length
  | [], n, _, h => by simp [h]
  | b :: l, n, hb, h => by
    have h1 := hb b List.mem_cons_self
    have h2 : Bit l := fun x hx => hb x (List.mem_cons_of_mem _ hx)
    obtain ⟨i1, i2⟩ := fold_bound l (2 * n + b) h2 (by omega)
    refine ⟨i1, ?_⟩
    rw [List.foldl_cons, List.length_cons, Int.pow_succ]
    have p : (0 : Int) ≤ 2 ^ l.length := Int.pow_nonneg (by decide)
    have m : (2 * n + b + 1) * 2 ^ l.length ≤ (2 * (n + 1)) * 2 ^ l.length := Int.mul_le_mul_of_nonneg_right (by omega) p
    have e : (2 * (n + 1)) * 2 ^ l.length = (n + 1) * (2 ^ l.length * 2) := by
      rw [Int.mul_comm 2 (n + 1), Int.mul_assoc, Int.mul_comm 2]
    omega
theorem octOf_bound {l : List Int} (h : Bit l) (hl : l.length ≤ 8) : 0 ≤ octOf l ∧ octOf l < 256 := by
  obtain ⟨h1, h2⟩ := fold_bound l 0 h (Int.le_refl 0)
  have p : (2 : Int) ^ l.length ≤ 2 ^ 8 := by
    have q : (2 : Nat) ^ l.length ≤ 2 ^ 8 := Nat.pow_le_pow_right (by decide) hl
    exact_mod_cast q
  have e : (2 : Int) ^ 8 = 256 := rfl
  unfold octOf
  omega
theorem Bit.take {l : List Int} (h : Bit l) (n : Nat) : Bit (l.take n) := fun x hx => h x (List.mem_of_mem_take hx)
theorem Bit.drop {l : List Int} (h : Bit l) (n : Nat) : Bit (l.drop n) := fun x hx => h x (List.mem_of_mem_drop hx)
end BM
/-! bits of octets and the operators on bits -/
namespace BM
/-- bit k of a number, as an int -/
def tb (n k : Nat) : Int := if n.testBit k then 1 else 0
theorem tb_div (n k : Nat) : ((n : Int) / ((2 ^ k : Nat) : Int)) % 2 = tb n k := by
  unfold tb
  rw [Nat.testBit_eq_decide_div_mod_eq]
  have e : ((n : Int) / ((2 ^ k : Nat) : Int)) % 2 = ((n / 2 ^ k % 2 : Nat) : Int) := by simp
  rw [e]
  by_cases h : n / 2 ^ k % 2 = 1
  · rw [h]
    simp
  · have h0 : n / 2 ^ k % 2 = 0 := by omega
    rw [h0]
    simp
theorem bitsOf_tb (n : Nat) : bitsOf (n : Int) = [tb n 7, tb n 6, tb n 5, tb n 4, tb n 3, tb n 2, tb n 1, tb n 0] := by
  have h7 := tb_div n 7
  have h6 := tb_div n 6
  have h5 := tb_div n 5
  have h4 := tb_div n 4
  have h3 := tb_div n 3
  have h2 := tb_div n 2
  have h1 := tb_div n 1
  have h0 := tb_div n 0
  unfold bitsOf
  rw [← h7, ← h6, ← h5, ← h4, ← h3, ← h2, ← h1, ← h0]
  rfl
theorem tb_bit (n k : Nat) : tb n k = 0 ∨ tb n k = 1 := by
  unfold tb
  split
  · exact .inr rfl
  · exact .inl rfl
theorem tb_and (a b k : Nat) : tb (a &&& b) k = if tb a k = 1 ∧ tb b k = 1 then 1 else 0 := by
  unfold tb
  rw [Nat.testBit_and]
  cases a.testBit k <;> cases b.testBit k <;> simp
theorem tb_or (a b k : Nat) : tb (a ||| b) k = if tb a k = 1 ∨ tb b k = 1 then 1 else 0 := by
  unfold tb
  rw [Nat.testBit_or]
  cases a.testBit k <;> cases b.testBit k <;> simp
theorem tb_xor (a b k : Nat) : tb (a ^^^ b) k = if tb a k = tb b k then 0 else 1 := by
  unfold tb
  rw [Nat.testBit_xor]
  cases a.testBit k <;> cases b.testBit k <;> simp
theorem le_app : ∀ {a b c d : List Int}, Le a b → Le c d → Le (a ++ c) (b ++ d)
  | [], [], _, _, _, h => h
  | _ :: _, _ :: _, _, _, h, h' => ⟨h.1, le_app h.2 h'⟩
  | [], _ :: _, _, _, h, _ => h.elim
  | _ :: _, [], _, _, h, _ => h.elim
theorem and_le (a b : Nat) : Le (bitsOf ((a &&& b : Nat) : Int)) (bitsOf (a : Int)) := by
  have key : ∀ k, tb (a &&& b) k ≤ tb a k := by
    intro k
    rw [tb_and]
    have := tb_bit a k
    split <;> omega
  rw [bitsOf_tb, bitsOf_tb]
  exact ⟨key 7, key 6, key 5, key 4, key 3, key 2, key 1, key 0, True.intro⟩
theorem le_or (a b : Nat) : Le (bitsOf (a : Int)) (bitsOf ((a ||| b : Nat) : Int)) := by
  have key : ∀ k, tb a k ≤ tb (a ||| b) k := by
    intro k
    rw [tb_or]
    have := tb_bit a k
    split <;> omega
  rw [bitsOf_tb, bitsOf_tb]
  exact ⟨key 7, key 6, key 5, key 4, key 3, key 2, key 1, key 0, True.intro⟩
theorem bits255 : bitsOf 255 = [1, 1, 1, 1, 1, 1, 1, 1] := by decide
theorem le_255 (o : Int) : Le (bitsOf o) (bitsOf 255) := by
  have key : ∀ b ∈ bitsOf o, b ≤ 1 := fun b hb => by
    have := bitsOf_bit hb
    omega
  rw [bits255]
  unfold bitsOf at key ⊢
  exact ⟨key _ (by simp), key _ (by simp), key _ (by simp), key _ (by simp), key _ (by simp), key _ (by simp), key _ (by simp), key _ (by simp), True.intro⟩
/-- lists of octets, pair by pair -/
theorem bitsL_le : ∀ {xs ys : List Int}, xs.length = ys.length → (∀ p ∈ xs.zip ys, Le (bitsOf p.1) (bitsOf p.2)) → Le (bitsL xs) (bitsL ys)
  | [], [], _, _ => True.intro
  | x :: xs, y :: ys, hl, h => by
    rw [bitsL_cons, bitsL_cons]
    exact le_app (h (x, y) (by simp)) (bitsL_le (by simpa using hl) fun p hp => h p (by simp [hp]))
  | [], _ :: _, hl, _ => by simp at hl
  | _ :: _, [], hl, _ => by simp at hl
theorem nat_of {o : Int} (h : 0 ≤ o) : ∃ n : Nat, o = n := ⟨o.toNat, by omega⟩
theorem and_oct {a b : Nat} (ha : a ≤ 255) : (a &&& b) ≤ 255 := Nat.le_trans Nat.and_le_left ha
theorem or_oct {a b : Nat} (ha : a ≤ 255) (hb : b ≤ 255) : (a ||| b) ≤ 255 := by
  have h : (a ||| b) < 2 ^ 8 := Nat.or_lt_two_pow (by omega) (by omega)
  omega
theorem xor_oct {a b : Nat} (ha : a ≤ 255) (hb : b ≤ 255) : (a ^^^ b) ≤ 255 := by
  have h : (a ^^^ b) < 2 ^ 8 := Nat.xor_lt_two_pow (by omega) (by omega)
  omega
/-- one more bit -/
theorem fallen_snoc : ∀ (as bs : List Int) (k x y : Int), as.length = bs.length → fallenL k (as ++ [x]) (bs ++ [y]) = fallenL k as bs ++ (if x = 1 ∧ y = 0 then [k + (as.length : Int)] else [])
  | [], [], k, x, y, _ => by
    simp [fallenL]
  | a :: as, b :: bs, k, x, y, h => by
    have i := fallen_snoc as bs (k + 1) x y (by simpa using h)
    rw [List.cons_append, List.cons_append]
    unfold fallenL
    have e : k + 1 + (as.length : Int) = k + ((a :: as).length : Int) := by
      rw [List.length_cons]
      omega
    rw [e] at i
    split <;> simp [i]
  | [], _ :: _, _, _, _, h => by simp at h
  | _ :: _, [], _, _, _, h => by simp at h
end BM
/-! bits that are 1, bits that are unlike, one bit turned -/
namespace BM
/-- the indices of the ones, from k on -/
def onesL : Int → List Int → List Int
  | _, [] => []
  | k, b :: r => if b = 1 then k :: onesL (k + 1) r else onesL (k + 1) r
/-- the indices of the unlike ones -/
def diffL : Int → List Int → List Int → List Int
  | k, a :: as, b :: bs => if a = b then diffL (k + 1) as bs else k :: diffL (k + 1) as bs
  | _, _, _ => []
theorem onesL_app : ∀ (a b : List Int) (k : Int), onesL k (a ++ b) = onesL k a ++ onesL (k + (a.length : Int)) b
  | [], b, k => by simp [onesL]
  | x :: a, b, k => by
    have e : k + ((x :: a).length : Int) = k + 1 + (a.length : Int) := by simp; omega
    rw [List.cons_append, onesL, onesL, onesL_app a b (k + 1), e]
    split <;> simp
theorem onesL_snoc (a : List Int) (x : Int) : onesL 0 (a ++ [x]) = onesL 0 a ++ (if x = 1 then [(a.length : Int)] else []) := by
  rw [onesL_app]
  simp [onesL]
theorem onesL_len : ∀ (a : List Int) (k : Int), (onesL k a).length ≤ a.length
  | [], k => by simp [onesL]
  | x :: a, k => by
    have := onesL_len a (k + 1)
    rw [onesL]
    split <;> simp <;> omega
/-- of two bits -/
theorem ones_of {f : Int → Int → Int} (P : List Int → List Int → Int → List Int) (c : Int → Int → Prop) [∀ a b, Decidable (c a b)] (h0 : ∀ k, P [] [] k = []) (h1 : ∀ a as b bs k, P (a :: as) (b :: bs) k = if c a b then k :: P as bs (k + 1) else P as bs (k + 1))
    (h : ∀ a b, (a = 0 ∨ a = 1) → (b = 0 ∨ b = 1) → (f a b = 1 ↔ c a b)) : ∀ (as bs : List Int) (k : Int), as.length = bs.length → Bit as → Bit bs → onesL k (List.zipWith f as bs) = P as bs k
  | [], [], k, _, _, _ => by simp [onesL, h0]
  | [], _ :: _, k, e, _, _ => by simp at e
  | _ :: _, [], k, e, _, _ => by simp at e
  | a :: as, b :: bs, k, e, ha, hb => by
    have r := ones_of P c h0 h1 h as bs (k + 1) (by simpa using e) (fun x hx => ha x (List.mem_cons_of_mem _ hx)) (fun x hx => hb x (List.mem_cons_of_mem _ hx))
    have q := h a b (ha a (List.mem_cons_self ..)) (hb b (List.mem_cons_self ..))
    rw [List.zipWith_cons_cons, onesL, h1, r]
    by_cases z : c a b
    · rw [if_pos z, if_pos (q.mpr z)]
    · rw [if_neg z, if_neg (fun y => z (q.mp y))]
/-- the bits of two lists of octets, put together -/
theorem bitsL_both {g : Int → Int → Int} {f : Int → Int → Int} (h : ∀ x y, 0 ≤ x ∧ x ≤ 255 → 0 ≤ y ∧ y ≤ 255 → bitsOf (g x y) = List.zipWith f (bitsOf x) (bitsOf y)) :
    ∀ xs ys : List Int, Oct xs → Oct ys → bitsL ((xs.zip ys).map fun p => g p.1 p.2) = List.zipWith f (bitsL xs) (bitsL ys)
  | [], ys, _, _ => by simp [bitsL]
  | x :: xs, [], _, _ => by simp [bitsL]
  | x :: xs, y :: ys, hx, hy => by
    have r := bitsL_both h xs ys (fun o ho => hx o (List.mem_cons_of_mem _ ho)) (fun o ho => hy o (List.mem_cons_of_mem _ ho))
    have q := h x y (hx x (List.mem_cons_self ..)) (hy y (List.mem_cons_self ..))
    rw [List.zip_cons_cons, List.map_cons, bitsL_cons, bitsL_cons, bitsL_cons, r, q, List.zipWith_append (by rw [bitsOf_len, bitsOf_len])]
/-- where lists part -/
theorem diff_at : ∀ (as bs : List Int) (k p : Int) (rest : List Int), as.length = bs.length → diffL k as bs = p :: rest →
    ∃ (pre : List Int) (x y : Int) (as' bs' : List Int), as = pre ++ x :: as' ∧ bs = pre ++ y :: bs' ∧ x ≠ y ∧ p = k + (pre.length : Int) ∧ rest = diffL (p + 1) as' bs' ∧ as'.length = bs'.length ∧
      ∀ m, turned as bs m = pre ++ (if m % 2 = 1 then y else x) :: turned as' bs' (m / 2)
  | [], _, k, p, rest, _, h => by simp [diffL] at h
  | _ :: _, [], k, p, rest, e, h => by simp at e
  | a :: as, b :: bs, k, p, rest, e, h => by
    rw [diffL] at h
    by_cases z : a = b
    · rw [if_pos z] at h
      obtain ⟨pre, x, y, as', bs', h1, h2, h3, h4, h5, h6, h7⟩ := diff_at as bs (k + 1) p rest (by simpa using e) h
      refine ⟨a :: pre, x, y, as', bs', by rw [h1]; rfl, by rw [h2, z]; rfl, h3, by simp; omega, h5, h6, fun m => ?_⟩
      rw [turned, if_pos z, h7 m]
      rfl
    · rw [if_neg z] at h
      obtain ⟨rfl, rfl⟩ := List.cons.inj h
      refine ⟨[], a, b, as, bs, rfl, rfl, z, by simp, rfl, by simpa using e, fun m => ?_⟩
      rw [turned, if_neg z]
      rfl
theorem diff_nil : ∀ (as bs : List Int) (k : Int), as.length = bs.length → diffL k as bs = [] → as = bs
  | [], [], k, _, _ => rfl
  | [], _ :: _, k, e, h => by simp at e
  | _ :: _, [], k, e, h => by simp at e
  | a :: as, b :: bs, k, e, h => by
    rw [diffL] at h
    by_cases z : a = b
    · rw [if_pos z] at h
      rw [z, diff_nil as bs (k + 1) (by simpa using e) h]
    · rw [if_neg z] at h
      cases h
theorem turned_same : ∀ (as : List Int) (m : Int), turned as as m = as
  | [], m => by simp [turned]
  | a :: as, m => by rw [turned, if_pos rfl, turned_same as m]
/-- the j-th bit of an octet -/
theorem bit_at : ∀ o : Nat, o < 256 → ∀ j : Nat, j < 8 → (bitsOf (o : Int))[j]? = some (((o &&& (128 / 2 ^ j)) / (128 / 2 ^ j) : Nat) : Int) := by decide +kernel
theorem bit_on : ∀ o : Nat, o < 256 → ∀ j : Nat, j < 8 → (o &&& (128 / 2 ^ j) ≠ 0 ↔ (bitsOf (o : Int))[j]? = some 1) := by decide +kernel
theorem bit_turn : ∀ o : Nat, o < 256 → ∀ j : Nat, j < 8 → o ^^^ (128 / 2 ^ j) < 256 ∧ bitsOf ((o ^^^ (128 / 2 ^ j) : Nat) : Int) = (bitsOf (o : Int)).set j (1 - (bitsOf (o : Int)).getD j 0) := by decide +kernel
theorem bitsL_get : ∀ (os : List Int) (i j : Nat), j < 8 → (bitsL os)[8 * i + j]? = (os[i]?).bind fun o => (bitsOf o)[j]?
  | [], i, j, _ => by simp [bitsL]
  | o :: os, 0, j, h => by
    rw [bitsL_cons, Nat.mul_zero, Nat.zero_add, List.getElem?_append_left (by rw [bitsOf_len]; exact h)]
    simp
  | o :: os, i + 1, j, h => by
    have e : 8 * (i + 1) + j = 8 + (8 * i + j) := by omega
    rw [bitsL_cons, e, List.getElem?_append_right (by rw [bitsOf_len]; omega), bitsOf_len, Nat.add_sub_cancel_left, bitsL_get os i j h]
    simp
theorem bitsL_set : ∀ (os : List Int) (i j : Nat) (o o' : Int) (b : Int), j < 8 → os[i]? = some o → bitsOf o' = (bitsOf o).set j b → bitsL (os.set i o') = (bitsL os).set (8 * i + j) b
  | [], i, j, o, o', b, _, h, _ => by simp at h
  | x :: os, 0, j, o, o', b, hj, h, q => by
    have e : x = o := by simpa using h
    subst e
    rw [List.set_cons_zero, bitsL_cons, bitsL_cons, q, Nat.mul_zero, Nat.zero_add, List.set_append_left _ _ (by rw [bitsOf_len]; exact hj)]
  | x :: os, i + 1, j, o, o', b, hj, h, q => by
    have e : 8 * (i + 1) + j = 8 + (8 * i + j) := by omega
    have h' : os[i]? = some o := by simpa using h
    rw [List.set_cons_succ, bitsL_cons, bitsL_cons, bitsL_set os i j o o' b hj h' q, e, List.set_append_right _ _ (by rw [bitsOf_len]; omega), bitsOf_len, Nat.add_sub_cancel_left]
end BM
/-! f'{n:b}', n an octet -/
namespace PySem.W
open PySem PySem.Calls PyProof.Rows
open Builtin Builtin.Str Builtin.Int Builtin.Float
/-- the binary text of n -/
def binT (n : Nat) : PySem.Str := ⟨((Nat.toDigits 2 n).map Char.toNat).toArray⟩
theorem binT_len : ∀ n : Nat, n < 256 → (binT n).length ≤ 8 := by decide +kernel
theorem meets_bin' {spec : PySem.Str} {f : FormatSpec} (n : Nat) (hn : n < 256) (t u : Tok) (hne : (spec.length == 0) = false)
    (hasc : ((spec.cps.toList.drop 1).any (· ≥ 128) || (spec.cps.getD 0 0 ≥ 128 && !([60, 62, 61, 94] : List Nat).contains (spec.cps.getD 1 0))) = false)
    (hp : parseFormatSpec spec.cps.toList "int" 62 = .ok f) (hf : f = { align := 62, type := some 98 }) :
    Meets (Builtin.«int.__format__» ⟨[.int (n : Int) t, .str spec u], []⟩) (fun _ R s => ∀ t' k, R (.ok (.ret (.str (binT n) t'))) { s with toks := k }) := by
  apply KPc.meets_of
  intro prog w A s Q E h
  unfold Builtin.«int.__format__»
  simp only [selfAndOne, noKeywords, Int.intOfSelf, asInt?, asStr?, List.isEmpty_nil, if_true, pure_bind, bind_pure, bind_assoc, hne, hasc, Bool.false_eq_true, if_false,
    show (Value.str spec u == Value.none) = false from rfl]
  refine wpAny_bind (wpAny_typeNameOf (T := "str") (typeIs_str _ _ _) (by decide) fun _ => ?_)
  refine wpAny_bind (wpAny_typeNameOfCut_int ?_)
  simp only [hp]
  have hty : f.type = some 98 := by rw [hf]
  simp only [hty, Option.getD_some]
  rw [if_pos (by decide)]
  have hpr : f.precision = none := by rw [hf]
  have hz : f.noNeg0 = false := by rw [hf]
  have hal : f.alt = false := by rw [hf]
  have hw : f.width.getD 0 = 0 := by rw [hf]; rfl
  clear hp hasc hne
  show wpAny _ _ (if _ then _ else _) _ _ _
  rw [if_neg (by simp [hpr])]
  show wpAny _ _ (if _ then _ else _) _ _ _
  rw [if_neg (by simp [hz])]
  show wpAny _ _ (if _ then _ else _) _ _ _
  rw [if_neg (by decide)]
  show wpAny _ _ (if _ then _ else _) _ _ _
  rw [if_neg (by decide)]
  show wpAny _ _ (if _ then _ else _) _ _ _
  rw [if_neg (by omega)]
  refine KXf.ret_text (T := binT n) ?_ ?_ h
  · clear h
    subst hf
    clear hty hpr hz hal hw
    revert n
    decide +kernel
  · clear h
    subst hf
    clear hty hpr hz hal hw
    revert n
    decide +kernel
/-- {e:b}, a field of an octet -/
theorem bin_field {prog : Program} {w : World} {A : Around} {E : Value → Shared → Prop} {s : Shared} {n : Nat} {t : Tok} {Q : Value → Shared → Prop} (hn : n < 256) (h : ∀ t' k, Q (.str (binT n) t') { s with toks := k }) :
    wpAny (model prog w) A (formatField (.int (n : Int) t) "b") Q E s :=
  KXf.field_meets (by decide) (fun s' => typeIs_int s' n t) F.slot_int_format F.entry_int_format F.args_int_format_2 (by decide) (fun u => meets_bin' n hn t u (by decide) (by decide) (by rfl) rfl) h
theorem bin_count : ∀ n : Nat, n < 256 → PySem.Txt.count (binT n) "1" = (([n / 128 % 2, n / 64 % 2, n / 32 % 2, n / 16 % 2, n / 8 % 2, n / 4 % 2, n / 2 % 2, n / 1 % 2].count 1 : Nat) : Int) := by decide +kernel
end PySem.W
namespace VB
open PySem PySem.Spec PyProof.Rows L2
section
variable {X : Cx} {e : Expr} {te : TE} {p1 p2 p3 p4 : Pos} {j : Nat}
/-- f'{e:b}', e an octet -/
def tBin (te : TE) : TE := fun σ H Q => te σ H fun x H1 => ∃ n : Nat, x = .int (n : Int) ∧ n < 256 ∧ Q (.str (PySem.W.binT n)) H1
theorem pe_bin (he : PE X e te) : PE X (.JoinedStr [.FormattedValue e (-1) (some (.JoinedStr [.Constant (.str "b") j p1] p2)) p3] p4) (tBin te) := by
  refine pe_joined1 ⟨fun pins s σ H Q I h => wpAny_FormattedValue_spec (thn (he.run pins s σ H _ I h) fun v s1 hv => ?_)⟩
  obtain ⟨x, H1, I1, r1, n, rfl, hn, q⟩ := hv
  obtain ⟨t, rfl⟩ := r1
  refine thn ((pe_joined1 (pos := p2) (pe_str (x := "b") (j := j) (pos := p1))).run pins s1 σ H1 (fun y H2 => y = .str "b" ∧ H2 = H1) I1 ⟨rfl, rfl⟩) fun w s2 hw => ?_
  obtain ⟨y, H2, I2, r2, rfl, rfl⟩ := hw
  obtain ⟨t2, rfl⟩ := r2
  exact ⟨_, _, rfl, PySem.W.bin_field hn fun t' k => ⟨.str (PySem.W.binT n), H2, I2.tok _, ⟨_, rfl⟩, q⟩⟩
end
end VB
/-! zip of two sequences, each a list or a tuple -/
namespace VB
open PySem PySem.Spec PyProof.Rows L2
/-- a list (false) or a tuple (true) at l -/
def Sq (t : Bool) (h : Heap) (l : Addr) (xs : Array Value) : Prop := match t with
  | false => h.IsList l xs
  | true => h.IsTuple l xs
/-- its iterator at i, at the k-th place -/
def Si (t : Bool) (h : Heap) (i l : Addr) (k : Nat) : Prop := match t with
  | false => h.IsListIter i l k
  | true => h.IsTupleIter i l k
section
variable {t u : Bool} {h h' : Heap} {i l b : Addr} {k : Nat} {xs ys : Array Value}
theorem Sq.ext (x : Sq t h l xs) (e : Heap.ExtBut b h h') (n : l ≠ b) : Sq t h' l xs := by
  cases t with
  | false => exact Heap.IsList.extBut (show h.IsList l xs from x) e n
  | true => exact Heap.IsTuple.extBut (show h.IsTuple l xs from x) e n
theorem Si.ext (x : Si t h i l k) (e : Heap.ExtBut b h h') (n : i ≠ b) : Si t h' i l k := by
  cases t with
  | false => exact Heap.IsListIter.extBut (show h.IsListIter i l k from x) e n
  | true => exact Heap.IsTupleIter.extBut (show h.IsTupleIter i l k from x) e n
theorem Sq.psh (x : Sq t h l xs) (o : Obj) : Sq t (h.push o) l xs := by
  cases t with
  | false => exact Heap.IsList.push (show h.IsList l xs from x) o
  | true => exact Heap.IsTuple.push (show h.IsTuple l xs from x) o
theorem Si.stay (x : Si t h i l k) (e : ∀ o, h.get? i = some o → h'.get? i = some o) : Si t h' i l k := by
  cases t with
  | false => exact Heap.IsListIter.at (show h.IsListIter i l k from x) e
  | true => exact Heap.IsTupleIter.at (show h.IsTupleIter i l k from x) e
theorem Si.obj (x : Si t h i l k) : ∃ o, h.get? i = some o ∧ ∀ v, o.data ≠ .cell v := by
  cases t with
  | false =>
    obtain ⟨o, e, _, d⟩ := (show h.IsListIter i l k from x)
    exact ⟨o, e, fun v q => by rw [d] at q; cases q⟩
  | true =>
    obtain ⟨o, e, _, d⟩ := (show h.IsTupleIter i l k from x)
    exact ⟨o, e, fun v q => by rw [d] at q; cases q⟩
end
section
variable {prog : Program} {w : World} {A : Around} {E : Value → Shared → Prop} {s : Shared} {t u : Bool}
  {z T1 T2 i1 i2 l1 l2 : Addr} {k1 k2 : Nat} {xs ys : Array Value} {x y c d : Value}
theorem draw_item {it l : Addr} {k : Nat} {Q : Value → Shared → Prop} (hi : Si t s.heap it l k) (hl : Sq t s.heap l xs)
    (hx : xs[k]? = some x) (hq : ∀ h', Si t h' it l (k + 1) → Heap.SameBut it s.heap h' → Q x { s with heap := h' }) :
    wpAny (model prog w) A (Builtin.SmallTypes.nextOf (.ref it)) Q E s := by
  cases t with
  | false => exact wpAny_nextOf_list_item (show s.heap.IsListIter it l k from hi) (show s.heap.IsList l xs from hl) hx hq
  | true => exact RZ.nextOf_tuple_item (show s.heap.IsTupleIter it l k from hi) (show s.heap.IsTuple l xs from hl) hx hq
theorem draw_end {it l : Addr} {k : Nat} {Q : Value → Shared → Prop} (hh : A.handled = none) (hi : Si t s.heap it l k)
    (hl : Sq t s.heap l xs) (hx : xs[k]? = none)
    (he : ∀ h' e, Heap.ExtBut it s.heap h' → (∃ o, h'.get? e = some o ∧ o.cls = .type "StopIteration") → E (.ref e) { s with heap := h' }) :
    wpAny (model prog w) A (Builtin.SmallTypes.nextOf (.ref it)) Q E s := by
  cases t with
  | false => exact wpAny_nextOf_list_end hh (show s.heap.IsListIter it l k from hi) (show s.heap.IsList l xs from hl) hx he
  | true => exact RZ.nextOf_tuple_end hh (show s.heap.IsTupleIter it l k from hi) (show s.heap.IsTuple l xs from hl) hx he

/-- what a turn of the zip object leaves -/
structure ZTurn (t u : Bool) (h h' : Heap) (z T1 T2 i1 i2 l1 l2 : Addr) (k1 k2 : Nat) (x y : Value) : Prop where
  zip : IsZip h' z T1 T2 (rawInt h.objs.size)
  out : IsPair h' T2 x y
  it1 : Si t h' i1 l1 (k1 + 1)
  it2 : Si u h' i2 l2 (k2 + 1)
  new : IsPair h' h.objs.size x y
  size : h'.objs.size = h.objs.size + 1
  keep : ∀ b o, b ≠ z → b ≠ T2 → b ≠ i1 → b ≠ i2 → h.get? b = some o → h'.get? b = some o

theorem zmix_item {Q : Value → Shared → Prop} (D : ZipApart z T1 T2 i1 i2 l1 l2) (hz : IsZip s.heap z T1 T2 .none)
    (h1 : IsPair s.heap T1 (.ref i1) (.ref i2)) (h2 : IsPair s.heap T2 c d) (a1 : Si t s.heap i1 l1 k1) (a2 : Si u s.heap i2 l2 k2)
    (b1 : Sq t s.heap l1 xs) (b2 : Sq u s.heap l2 ys) (hx : xs[k1]? = some x) (hy : ys[k2]? = some y)
    (hq : ∀ h', ZTurn t u s.heap h' z T1 T2 i1 i2 l1 l2 k1 k2 x y → Q (.ref s.heap.objs.size) { s with heap := h' }) :
    wpAny (model prog w) A (Builtin.«zip.__next__» ⟨[.ref z], []⟩) (fun fin s' => ∃ v, fin = .done (.ret v) ∧ Q v s') E s := by
  show wpAny _ _ (field (.ref z) 2 >>= _) _ _ _
  refine wpAny_bind (wpAny_field hz rfl (x := .bool false) rfl ?_)
  show wpAny _ _ (field (.ref z) 3 >>= _) _ _ _
  refine wpAny_bind (wpAny_field hz rfl (x := .ref T1) rfl ?_)
  refine wpAny_bind (wpAny_seqItems h1 rfl ?_)
  show wpAny _ _ (Builtin.SmallTypes.ownedTupleIsFree (.ref z) >>= _) _ _ _
  refine wpAny_bind ?_
  unfold Builtin.SmallTypes.ownedTupleIsFree
  refine wpAny_bind (wpAny_field hz rfl (x := .none) rfl (wpAny_pure ?_))
  simp only [if_true]
  refine wpAny_bind (wpAny_rule ?_)
  refine wpAny_bind (wpAny_field hz rfl (x := .ref T2) rfl ?_)
  refine wpAny_bind (wpAny_setField_rec hz (by simp) ?_)
  intro g1 zg1 s1
  replace zg1 : IsZip g1 z T1 T2 .ellipsis := zg1
  refine wpAny_bind ?_
  simp only [List.zipIdx_cons, List.zipIdx_nil, List.forIn_cons, List.forIn_nil]
  -- the first one's item
  refine wpAny_bind (wpAny_bind (wpAny_onRaise ?_))
  show wpAny _ _ (Builtin.SmallTypes.nextOf (.ref i1) >>= _) _ _ _
  refine wpAny_bind (draw_item (a1.ext s1.extBut D.i1z) (b1.ext s1.extBut D.l1z) hx ?_)
  intro g2 n1 s2
  refine wpAny_pure ?_
  have o2 : IsPair g2 T2 c d := s2.extBut _ _ D.TOi1 (s1.extBut _ _ D.TOz h2)
  refine wpAny_bind (wpAny_seqItems o2 rfl ?_)
  refine wpAny_bind (wpAny_updateSeq_pair o2 ?_)
  intro g3 o3 s3
  replace o3 : IsPair g3 T2 x d := o3
  refine wpAny_bind (wpAny_letGo (wpAny_pure ?_))
  -- the second one's
  refine wpAny_bind (wpAny_bind (wpAny_onRaise ?_))
  show wpAny _ _ (Builtin.SmallTypes.nextOf (.ref i2) >>= _) _ _ _
  refine wpAny_bind (draw_item (((a2.ext s1.extBut D.i2z).ext s2.extBut D.i12.symm).ext s3.extBut D.TOi2.symm)
    (((b2.ext s1.extBut D.l2z).ext s2.extBut D.l2i1).ext s3.extBut D.l2TO) hy ?_)
  intro g4 n2 s4
  refine wpAny_pure ?_
  have o4 : IsPair g4 T2 x d := s4.extBut _ _ D.TOi2 o3
  refine wpAny_bind (wpAny_seqItems o4 rfl ?_)
  refine wpAny_bind (wpAny_updateSeq_pair o4 ?_)
  intro g5 o5 s5
  replace o5 : IsPair g5 T2 x y := o5
  refine wpAny_bind (wpAny_letGo (wpAny_pure (wpAny_pure ?_)))
  -- the pair
  refine wpAny_bind (wpAny_seqItems o5 rfl ?_)
  refine wpAny_bind (wpAny_newTuple ?_)
  have sz : g5.objs.size = s.heap.objs.size := by rw [s5.1, s4.1, s3.1, s2.1, s1.1]
  have z5 : IsZip g5 z T1 T2 .ellipsis :=
    s5.extBut _ _ D.TOz.symm (s4.extBut _ _ D.i2z.symm (s3.extBut _ _ D.TOz.symm (s2.extBut _ _ D.i1z.symm zg1)))
  have kp : ∀ b o, b ≠ z → b ≠ T2 → b ≠ i1 → b ≠ i2 → s.heap.get? b = some o → g5.get? b = some o := by
    intro b o e1 e2 e3 e4 e
    exact s5.extBut _ _ e2 (s4.extBut _ _ e4 (s3.extBut _ _ e2 (s2.extBut _ _ e3 (s1.extBut _ _ e1 e))))
  have m1 : Si t g5 i1 l1 (k1 + 1) := ((n1.ext s3.extBut D.TOi1.symm).ext s4.extBut D.i12).ext s5.extBut D.TOi1.symm
  have m2 : Si u g5 i2 l2 (k2 + 1) := n2.ext s5.extBut D.TOi2.symm
  have zlt : z < g5.objs.size := Heap.lt_size z5
  show wpAny _ _ (Builtin.SmallTypes.ownedTupleHandOut (.ref z) (.ref g5.objs.size) >>= _) _ _ _
  refine wpAny_bind ?_
  unfold Builtin.SmallTypes.ownedTupleHandOut
  have z6 : IsZip (g5.push { cls := .type "tuple", data := .seq #[x, y] }) z T1 T2 .ellipsis := Heap.get?_push_of_some _ z5
  refine wpAny_bind (wpAny_setField_rec z6 (by simp) ?_)
  intro g7 z7 s7
  replace z7 : IsZip g7 z T1 T2 (rawInt g5.objs.size) := z7
  refine wpAny_setField_rec z7 (by simp) ?_
  intro g8 z8 s8
  replace z8 : IsZip g8 z T1 T2 (rawInt g5.objs.size) := z8
  have up : ∀ b o, b ≠ z → g5.get? b = some o → g8.get? b = some o := fun b o n e =>
    s8.extBut _ _ n (s7.extBut _ _ n (Heap.get?_push_of_some _ e))
  have nz : g5.objs.size ≠ z := Nat.ne_of_gt zlt
  have p8 : IsPair g8 g5.objs.size x y := s8.extBut _ _ nz (s7.extBut _ _ nz (Heap.get?_push_size _ rfl))
  have l8 : g8.objs.size = g5.objs.size + 1 := by rw [s8.1, s7.1, Heap.size_push]
  rw [sz] at z8 p8 l8
  refine wpAny_pure ⟨_, rfl, ?_⟩
  show Q (.ref g5.objs.size) _
  rw [sz]
  exact hq g8 ⟨z8, up _ _ D.TOz o5, m1.stay (fun o => up _ o D.i1z), m2.stay (fun o => up _ o D.i2z), p8, l8,
    fun b o e1 e2 e3 e4 e => up b o e1 (kp b o e1 e2 e3 e4 e)⟩

theorem zmix_end {Q : Fin → Shared → Prop} (hh : A.handled = none) (D : ZipApart z T1 T2 i1 i2 l1 l2) (hz : IsZip s.heap z T1 T2 .none)
    (h1 : IsPair s.heap T1 (.ref i1) (.ref i2)) (h2 : IsPair s.heap T2 c d) (a1 : Si t s.heap i1 l1 k1) (a2 : Si u s.heap i2 l2 k2)
    (b1 : Sq t s.heap l1 xs) (b2 : Sq u s.heap l2 ys) (hend : xs[k1]? = none ∨ ys[k2]? = none)
    (he : ∀ h' e, (∀ b o, b ≠ z → b ≠ T2 → b ≠ i1 → b ≠ i2 → s.heap.get? b = some o → h'.get? b = some o) →
      (∃ o, h'.get? e = some o ∧ o.cls = .type "StopIteration") → E (.ref e) { s with heap := h' }) :
    wpAny (model prog w) A (Builtin.«zip.__next__» ⟨[.ref z], []⟩) Q E s := by
  show wpAny _ _ (field (.ref z) 2 >>= _) _ _ _
  refine wpAny_bind (wpAny_field hz rfl (x := .bool false) rfl ?_)
  show wpAny _ _ (field (.ref z) 3 >>= _) _ _ _
  refine wpAny_bind (wpAny_field hz rfl (x := .ref T1) rfl ?_)
  refine wpAny_bind (wpAny_seqItems h1 rfl ?_)
  show wpAny _ _ (Builtin.SmallTypes.ownedTupleIsFree (.ref z) >>= _) _ _ _
  refine wpAny_bind ?_
  unfold Builtin.SmallTypes.ownedTupleIsFree
  refine wpAny_bind (wpAny_field hz rfl (x := .none) rfl (wpAny_pure ?_))
  simp only [if_true]
  refine wpAny_bind (wpAny_rule ?_)
  refine wpAny_bind (wpAny_field hz rfl (x := .ref T2) rfl ?_)
  refine wpAny_bind (wpAny_setField_rec hz (by simp) ?_)
  intro g1 zg1 s1
  replace zg1 : IsZip g1 z T1 T2 .ellipsis := zg1
  refine wpAny_bind ?_
  simp only [List.zipIdx_cons, List.zipIdx_nil, List.forIn_cons, List.forIn_nil]
  refine wpAny_bind (wpAny_bind (wpAny_onRaise ?_))
  show wpAny _ _ (Builtin.SmallTypes.nextOf (.ref i1) >>= _) _ _ _
  cases hx : xs[k1]? with
  | none =>
    refine wpAny_bind (draw_end hh (a1.ext s1.extBut D.i1z) (b1.ext s1.extBut D.l1z) hx ?_)
    rintro g2 e s2 ⟨oe, he1, he2⟩
    have zg2 : IsZip g2 z T1 T2 .ellipsis := s2 _ _ D.i1z.symm zg1
    have ez : e ≠ z := by
      rintro rfl
      rw [zg2] at he1
      cases he1
      simp at he2
    refine wpAny_setField_rec zg2 (by simp) ?_
    intro g3 _ s3
    exact he g3 e (fun b o e1 _ e3 _ q => s3.extBut _ _ e1 (s2 _ _ e3 (s1.extBut _ _ e1 q))) ⟨oe, s3.extBut _ _ ez he1, he2⟩
  | some x =>
    have hy : ys[k2]? = none := by
      rcases hend with q | q
      · rw [hx] at q
        cases q
      · exact q
    refine wpAny_bind (draw_item (a1.ext s1.extBut D.i1z) (b1.ext s1.extBut D.l1z) hx ?_)
    intro g2 n1 s2
    refine wpAny_pure ?_
    have o2 : IsPair g2 T2 c d := s2.extBut _ _ D.TOi1 (s1.extBut _ _ D.TOz h2)
    refine wpAny_bind (wpAny_seqItems o2 rfl ?_)
    refine wpAny_bind (wpAny_updateSeq_pair o2 ?_)
    intro g3 o3 s3
    refine wpAny_bind (wpAny_letGo (wpAny_pure ?_))
    refine wpAny_bind (wpAny_bind (wpAny_onRaise ?_))
    show wpAny _ _ (Builtin.SmallTypes.nextOf (.ref i2) >>= _) _ _ _
    refine wpAny_bind (draw_end hh (((a2.ext s1.extBut D.i2z).ext s2.extBut D.i12.symm).ext s3.extBut D.TOi2.symm)
      (((b2.ext s1.extBut D.l2z).ext s2.extBut D.l2i1).ext s3.extBut D.l2TO) hy ?_)
    rintro g4 e s4 ⟨oe, he1, he2⟩
    have zg4 : IsZip g4 z T1 T2 .ellipsis := s4 _ _ D.i2z.symm (s3.extBut _ _ D.TOz.symm (s2.extBut _ _ D.i1z.symm zg1))
    have ez : e ≠ z := by
      rintro rfl
      rw [zg4] at he1
      cases he1
      simp at he2
    refine wpAny_setField_rec zg4 (by simp) ?_
    intro g5 _ s5
    exact he g5 e (fun b o e1 e2 e3 e4 q => s5.extBut _ _ e1 (s4 _ _ e4 (s3.extBut _ _ e2 (s2.extBut _ _ e3 (s1.extBut _ _ e1 q)))))
      ⟨oe, s5.extBut _ _ ez he1, he2⟩
end
end VB
/-! zip of two sequences, each a list or a tuple: its making, its walk -/
namespace VB
open PySem PySem.Spec PyProof.Rows L2
theorem Sv.inj {X : Cx} {pins : List (Addr × Obj)} {σ : L2.St} {H : Hp} {s : Shared} {t : Bool} {a : Addr} {xs ys : List V}
    (I : Inv X pins σ H s) (h : Sv t X.K H a xs) (h' : Sv t X.K H a ys) : xs = ys := by
  cases t with
  | false => exact I.list_inj (show SqL X.K H a xs from h) (show SqL X.K H a ys from h')
  | true => exact I.tuple_inj (show SqT X.K H a xs from h) (show SqT X.K H a ys from h')
theorem Sv.real {X : Cx} {pins : List (Addr × Obj)} {σ : L2.St} {H : Hp} {s : Shared} {t : Bool} {a : Addr} {xs : List V}
    (I : Inv X pins σ H s) (h : Sv t X.K H a xs) : ∃ its : List Value, Vals xs its ∧ Sq t s.heap a its.toArray ∧ a < s.heap.objs.size := by
  cases t with
  | false =>
    obtain ⟨its, r, p, _⟩ := I.list (show SqL X.K H a xs from h)
    exact ⟨its, r, p.isList, p.lt⟩
  | true =>
    obtain ⟨its, r, p, _⟩ := I.tuple (show SqT X.K H a xs from h)
    obtain ⟨o, ho, _⟩ := id p
    exact ⟨its, r, p, Heap.lt_size ho⟩
section
variable {prog : Program} {w : World} {A : Around} {E : Value → Shared → Prop} {s : Shared} {t u : Bool}
  {z T1 T2 i1 i2 l1 l2 : Addr} {k1 k2 : Nat} {xs ys : Array Value} {x y c d : Value}
theorem zmix_next {Q : Option Value → Shared → Prop} (D : ZipApart z T1 T2 i1 i2 l1 l2) (hz : IsZip s.heap z T1 T2 .none)
    (h1 : IsPair s.heap T1 (.ref i1) (.ref i2)) (h2 : IsPair s.heap T2 c d) (a1 : Si t s.heap i1 l1 k1) (a2 : Si u s.heap i2 l2 k2)
    (b1 : Sq t s.heap l1 xs) (b2 : Sq u s.heap l2 ys) (hx : xs[k1]? = some x) (hy : ys[k2]? = some y)
    (hq : ∀ h', ZTurn t u s.heap h' z T1 T2 i1 i2 l1 l2 k1 k2 x y → Q (some (.ref s.heap.objs.size)) { s with heap := h' }) :
    wpAny (model prog w) A (pyNext (.ref z)) Q E s := by
  have ty : s.TypeIs (.ref z) "zip" := ⟨_, hz, rfl⟩
  unfold pyNext
  refine wpAny_bind (wpAny_attempt ?_)
  refine wpAny_callSpecial?_slot (name := Str.ofString "__next__") ty F.slot_zip_next ?_
  refine wpAny_call_entry F.slot_zip_next ty F.entry_zip_next ?_ (F.args_zip_next_1 _)
  exact zmix_item D hz h1 h2 a1 a2 b1 b2 hx hy fun h' q => wpAny_pure (hq h' q)
theorem zmix_stop {Q : Option Value → Shared → Prop} (hh : A.handled = none) (D : ZipApart z T1 T2 i1 i2 l1 l2) (hz : IsZip s.heap z T1 T2 .none)
    (h1 : IsPair s.heap T1 (.ref i1) (.ref i2)) (h2 : IsPair s.heap T2 c d) (a1 : Si t s.heap i1 l1 k1) (a2 : Si u s.heap i2 l2 k2)
    (b1 : Sq t s.heap l1 xs) (b2 : Sq u s.heap l2 ys) (hend : xs[k1]? = none ∨ ys[k2]? = none)
    (hq : ∀ h', (∀ b o, b ≠ z → b ≠ T2 → b ≠ i1 → b ≠ i2 → s.heap.get? b = some o → h'.get? b = some o) → Q none { s with heap := h' }) :
    wpAny (model prog w) A (pyNext (.ref z)) Q E s := by
  have ty : s.TypeIs (.ref z) "zip" := ⟨_, hz, rfl⟩
  unfold pyNext
  refine wpAny_bind (wpAny_attempt ?_)
  refine wpAny_callSpecial?_slot (name := Str.ofString "__next__") ty F.slot_zip_next ?_
  refine wpAny_call_entry F.slot_zip_next ty F.entry_zip_next ?_ (F.args_zip_next_1 _)
  refine zmix_end hh D hz h1 h2 a1 a2 b1 b2 hend ?_
  rintro h' e kp ⟨o, ho, hc⟩
  refine wpAny_bind (wpAny_isInstance (T := "StopIteration") (b := true) ⟨o, ho, hc⟩ isSubtype_stop ?_)
  exact wpAny_pure (hq _ kp)
end
/-- an iterator over l, new -/
def itO (t : Bool) (l : Addr) : Obj := match t with
  | false => { cls := .type "list_iterator", data := .fields #[.ref l, .int 0 0] }
  | true => { cls := .type "tuple_iterator", data := .fields #[.ref l, .int 0 0] }
section
variable (t u : Bool) (h : Heap) (l1 l2 : Addr)
abbrev zm1 : Heap := h.push (itO t l1)
abbrev zm2 : Heap := (zm1 t h l1).push (itO u l2)
abbrev zm3 : Heap := (zm2 t u h l1 l2).push { cls := .type "tuple", data := .seq #[.ref h.objs.size, .ref (zm1 t h l1).objs.size] }
abbrev zm4 : Heap := (zm3 t u h l1 l2).push { cls := .type "tuple", data := .seq #[.none, .none] }
abbrev zm5 : Heap := (zm4 t u h l1 l2).push { cls := .type "zip", data := .fields #[.none, .bool false, .bool false, .ref (zm2 t u h l1 l2).objs.size, .ref (zm3 t u h l1 l2).objs.size] }
end
theorem meets_zmix (t u : Bool) (l1 l2 : Addr) (xs ys : Array Value) :
    Meets (Builtin.«zip.__new__» ⟨[.type "zip", .ref l1, .ref l2], []⟩) (fun _ R s => Sq t s.heap l1 xs ∧ Sq u s.heap l2 ys ∧
      R (.ok (.ret (.ref (zm4 t u s.heap l1 l2).objs.size))) { s with heap := zm5 t u s.heap l1 l2 }) := by
  refine .of_wp ?_
  rintro prog w A R ⟨hp, g, d, tk, os⟩ ⟨b1, b2, h⟩
  have sub := sub_zip
  have c2 : Sq u (hp.push (itO t l1)) l2 ys := b2.psh _
  cases t with
  | false =>
    have e1 : Heap.IsList (Shared.heap ⟨hp, g, d, tk, os⟩) l1 xs := b1
    cases u with
    | false =>
      have e2 : Heap.IsList (Shared.heap ⟨hp.push { cls := .type "list_iterator", data := .fields #[.ref l1, .int 0 0] }, g, d, tk, os⟩) l2 ys := c2
      wp_walk using wpAny_pyIter_list e1, wpAny_pyIter_list e2
      exact ⟨_, rfl, h⟩
    | true =>
      have e2 : Heap.IsTuple (Shared.heap ⟨hp.push { cls := .type "list_iterator", data := .fields #[.ref l1, .int 0 0] }, g, d, tk, os⟩) l2 ys := c2
      wp_walk using wpAny_pyIter_list e1, wpAny_pyIter_tuple e2
      exact ⟨_, rfl, h⟩
  | true =>
    have e1 : Heap.IsTuple (Shared.heap ⟨hp, g, d, tk, os⟩) l1 xs := b1
    cases u with
    | false =>
      have e2 : Heap.IsList (Shared.heap ⟨hp.push { cls := .type "tuple_iterator", data := .fields #[.ref l1, .int 0 0] }, g, d, tk, os⟩) l2 ys := c2
      wp_walk using wpAny_pyIter_tuple e1, wpAny_pyIter_list e2
      exact ⟨_, rfl, h⟩
    | true =>
      have e2 : Heap.IsTuple (Shared.heap ⟨hp.push { cls := .type "tuple_iterator", data := .fields #[.ref l1, .int 0 0] }, g, d, tk, os⟩) l2 ys := c2
      wp_walk using wpAny_pyIter_tuple e1, wpAny_pyIter_tuple e2
      exact ⟨_, rfl, h⟩
theorem si_new {t : Bool} {h : Heap} {i l : Addr} (e : h.get? i = some (itO t l)) : Si t h i l 0 := by
  cases t with
  | false => exact ⟨_, e, rfl, rfl⟩
  | true => exact ⟨_, e, rfl, rfl⟩
section
variable {prog : Program} {w : World} {A : Around} {E : Value → Shared → Prop} {s : Shared} {t u : Bool}
/-- what zip's call leaves -/
structure ZNew (t u : Bool) (h h' : Heap) (l1 l2 : Addr) : Prop where
  zip : IsZip h' (h.objs.size + 4) (h.objs.size + 2) (h.objs.size + 3) .none
  its : IsPair h' (h.objs.size + 2) (.ref h.objs.size) (.ref (h.objs.size + 1))
  out : IsPair h' (h.objs.size + 3) .none .none
  it1 : Si t h' h.objs.size l1 0
  it2 : Si u h' (h.objs.size + 1) l2 0
  keep : ∀ b o, h.get? b = some o → h'.get? b = some o
theorem call_zmix {l1 l2 : Addr} {xs ys : Array Value} {Q : Value → Shared → Prop} (b1 : Sq t s.heap l1 xs) (b2 : Sq u s.heap l2 ys)
    (hq : ∀ h', ZNew t u s.heap h' l1 l2 → Q (.ref (s.heap.objs.size + 4)) { s with heap := h' }) :
    wpAny (model prog w) A (call (.type "zip") [.ref l1, .ref l2]) Q E s := by
  refine callType_new F.called_zip (by decide) (F.typeCall_zip_2 _ _) (F.newCall_zip_2 _ _) (fun obj => F.args_object_init_3 obj _ _)
    F.entry_zip_new (meets_zmix t u l1 l2 xs ys) ⟨b1, b2, ?_⟩
  have n1 : (zm1 t s.heap l1).objs.size = s.heap.objs.size + 1 := Heap.size_push ..
  have n2 : (zm2 t u s.heap l1 l2).objs.size = s.heap.objs.size + 2 := by rw [Heap.size_push, n1]
  have n3 : (zm3 t u s.heap l1 l2).objs.size = s.heap.objs.size + 3 := by rw [Heap.size_push, n2]
  have n4 : (zm4 t u s.heap l1 l2).objs.size = s.heap.objs.size + 4 := by rw [Heap.size_push, n3]
  have f5 : itO t l1 = itO t l1 := rfl
  have nf : ∀ (b : Bool) (l : Addr), (itO b l).isFreed = false := fun b l => by cases b <;> rfl
  have g5 : (zm5 t u s.heap l1 l2).get? (zm4 t u s.heap l1 l2).objs.size = some _ := Heap.get?_push_size _ rfl
  have g4 : (zm5 t u s.heap l1 l2).get? (zm3 t u s.heap l1 l2).objs.size = some _ := Heap.get?_push_of_some _ (Heap.get?_push_size _ rfl)
  have g3 : (zm5 t u s.heap l1 l2).get? (zm2 t u s.heap l1 l2).objs.size = some _ := Heap.get?_push_of_some _ (Heap.get?_push_of_some _ (Heap.get?_push_size _ rfl))
  have g2 : (zm5 t u s.heap l1 l2).get? (zm1 t s.heap l1).objs.size = some (itO u l2) :=
    Heap.get?_push_of_some _ (Heap.get?_push_of_some _ (Heap.get?_push_of_some _ (Heap.get?_push_size _ (nf u l2))))
  have g1 : (zm5 t u s.heap l1 l2).get? s.heap.objs.size = some (itO t l1) :=
    Heap.get?_push_of_some _ (Heap.get?_push_of_some _ (Heap.get?_push_of_some _ (Heap.get?_push_of_some _ (Heap.get?_push_size _ (nf t l1)))))
  show _ ∧ _
  rw [n2, n3, n4] at g5
  rw [n1, n2] at g3
  rw [n3] at g4
  rw [n1] at g2
  rw [n4]
  refine ⟨⟨_, g5, rfl⟩, hq _ ⟨g5, g3, g4, si_new g1, si_new g2, ?_⟩⟩
  intro b o e
  exact Heap.get?_push_of_some _ (Heap.get?_push_of_some _ (Heap.get?_push_of_some _ (Heap.get?_push_of_some _ (Heap.get?_push_of_some _ e))))
end
/-- two sequences as they stand at each turn, the items in new pairs -/
def Itm (t u : Bool) (K : PySem.W.Frag) (a b : Addr) : It :=
  ⟨fun i H => ∃ (xs ys : List V) (x y : V), Sv t K H a xs ∧ Sv u K H b ys ∧ xs[i]? = some x ∧ ys[i]? = some y,
    fun i H v H' => ∃ N x y, v = .ref N ∧ H N = none ∧ H' = upd H N (.tup [x, y]) ∧ (∀ xs, Sv t K H a xs → xs[i]? = some x) ∧ ∀ ys, Sv u K H b ys → ys[i]? = some y,
    fun i H => ∃ xs ys : List V, Sv t K H a xs ∧ Sv u K H b ys ∧ (xs.length ≤ i ∨ ys.length ≤ i)⟩
theorem in5 {a b c d e x : Addr} (h : x ∈ [a, b, c, d, e]) : x = a ∨ x = b ∨ x = c ∨ x = d ∨ x = e := by simpa using h
theorem turn_zmix {P : Program} {w : World} {K : PySem.W.Frag} {t u : Bool} {elts : List Expr} {kk : Nat} {tpos : Pos} {a b z T1 T2 i1 i2 : Addr}
    (D : ZipApart z T1 T2 i1 i2 a b) : Turn P w K (.Tuple elts kk tpos) (Itm t u K a b) [z, T1, T2, i1, i2] z
      (fun i h => IsZip h z T1 T2 .none ∧ IsPair h T1 (.ref i1) (.ref i2) ∧ (∃ x y, IsPair h T2 x y) ∧ Si t h i1 a i ∧ Si u h i2 b i) := by
  refine ⟨by simp, ?_, ?_, ?_, ?_, ?_⟩
  · rintro i h ⟨hz, h1, ⟨x, y, h2⟩, a1, a2⟩ c hc
    rcases in5 hc with rfl | rfl | rfl | rfl | rfl
    · exact ⟨_, hz, fun v q => nomatch q⟩
    · exact ⟨_, h1, fun v q => nomatch q⟩
    · exact ⟨_, h2, fun v q => nomatch q⟩
    · exact a1.obj
    · exact a2.obj
  · rintro i h h' ⟨hz, h1, ⟨x, y, h2⟩, a1, a2⟩ k
    exact ⟨k z (by simp) _ hz, k T1 (by simp) _ h1, ⟨x, y, k T2 (by simp) _ h2⟩, a1.stay fun o q => k i1 (by simp) o q, a2.stay fun o q => k i2 (by simp) o q⟩
  · intro X hP hw hK hc i pins s σ H E I hf st hg
    subst hP hw hK
    obtain ⟨hz, h1, ⟨x0, y0, h2⟩, a1, a2⟩ := st
    obtain ⟨xs, ys, x, y, qx, qy, hx, hy⟩ := hg
    obtain ⟨its, rv, p, _⟩ := qx.real I
    obtain ⟨its2, rv2, p2, _⟩ := qy.real I
    obtain ⟨v1, hv1, r1⟩ := rv.get hx
    obtain ⟨v2, hv2, r2⟩ := rv2.get hy
    have zl : z < s.heap.objs.size := Heap.lt_size hz
    refine zmix_next D hz h1 h2 a1 a2 p p2 (x := v1) (y := v2) (by simpa using hv1) (by simpa using hv2) ?_
    intro g T
    refine ⟨_, rfl, wpAny_letOwnedTupleGo_zip (s := { s with heap := g }) T.zip ?_⟩
    intro g2 z2 sb
    have nN : s.heap.objs.size ≠ z := Nat.ne_of_gt zl
    have pN : g2.get? s.heap.objs.size = some { cls := .type "tuple", data := .seq #[v1, v2] } := (sb.2 _ nN).trans T.new
    have ok : ObjOk X.prog X.w (upd H s.heap.objs.size (.tup [x, y])) g2 s.heap.objs.size (.tup [x, y]) :=
      ⟨by show 2 ≤ sizeLine; decide, [v1, v2], .cons r1 (.cons r2 .nil), ⟨_, pN, rfl, _, rfl⟩⟩
    have J : Inv X pins σ (upd H s.heap.objs.size (.tup [x, y])) { s with heap := g2 } := by
      refine I.turnedNew (t' := s.toks) (ch := [z, T1, T2, i1, i2]) ?_ hf (Nat.le_refl _) ok
      intro c o hb q
      have n : c ≠ z ∧ c ≠ T2 ∧ c ≠ i1 ∧ c ≠ i2 := ⟨fun e => hb (by simp [e]), fun e => hb (by simp [e]), fun e => hb (by simp [e]), fun e => hb (by simp [e])⟩
      exact (sb.2 c n.1).trans (T.keep c o n.1 n.2.1 n.2.2.1 n.2.2.2 q)
    refine ⟨.ref s.heap.objs.size, _, J, rfl, ⟨_, x, y, rfl, I.hok.fresh (Nat.le_refl _), rfl, ?_, ?_⟩, ⟨z2, ?_, ⟨v1, v2, ?_⟩, ?_, ?_⟩, ?_⟩
    · intro l hl
      rw [hl.inj I qx]
      exact hx
    · intro l hl
      rw [hl.inj I qy]
      exact hy
    · exact (sb.2 _ D.TIz).trans (T.keep _ _ D.TIz D.TITO D.TIi1 D.TIi2 h1)
    · exact (sb.2 _ D.TOz).trans T.out
    · exact T.it1.stay fun o q => (sb.2 _ D.i1z).trans q
    · exact T.it2.stay fun o q => (sb.2 _ D.i2z).trans q
    · intro c hcm
      have lt : c < s.heap.objs.size := by
        rcases in5 hcm with rfl | rfl | rfl | rfl | rfl
        · exact zl
        · exact Heap.lt_size h1
        · exact Heap.lt_size h2
        · obtain ⟨_, e, _⟩ := a1.obj
          exact Heap.lt_size e
        · obtain ⟨_, e, _⟩ := a2.obj
          exact Heap.lt_size e
      rw [upd_ne (Nat.ne_of_lt lt)]
      exact (hf c hcm).1
  · intro X hP hw hK hc i pins s σ H E I hf st hg
    subst hP hw hK
    obtain ⟨hz, h1, ⟨x0, y0, h2⟩, a1, a2⟩ := st
    obtain ⟨xs, ys, qx, qy, hend⟩ := hg
    obtain ⟨its, rv, p, _⟩ := qx.real I
    obtain ⟨its2, rv2, p2, _⟩ := qy.real I
    have e1 := rv.length
    have e2 := rv2.length
    have he : its.toArray[i]? = none ∨ its2.toArray[i]? = none := by
      rcases hend with q | q
      · exact .inl (by simp; omega)
      · exact .inr (by simp; omega)
    refine zmix_stop (I.ok.hd hc) D hz h1 h2 a1 a2 p p2 he ?_
    intro g kp
    refine ⟨rfl, I.turnedL (t' := s.toks) (ch := [z, T1, T2, i1, i2]) ?_ hf⟩
    intro c o hb q
    exact kp c o (fun e => hb (by simp [e])) (fun e => hb (by simp [e])) (fun e => hb (by simp [e])) (fun e => hb (by simp [e])) q
  · intro A i s Q E st h
    exact wpAny_pyIter_zip st.1 h
/-- zip(e, e2): lists and tuples, in any mixture -/
def iZm (K : PySem.W.Frag) (ta : TA) : TI := fun σ H R => ta σ H fun vs H1 => ∃ (t u : Bool) (a b : Addr) (xs ys : List V), vs = [.ref a, .ref b] ∧
  Sv t K H1 a xs ∧ Sv u K H1 b ys ∧ R (Itm t u K a b) H1
theorem pi_zm {X : Cx} {K : PySem.W.Frag} {e e2 : Expr} {ta : TA} {p pos tpos : Pos} {elts : List Expr} {kk : Nat} (hg : Gl X "zip") (hm : X.mg "zip" = none) (ha : PA X [e, e2] ta) (hK : X.K = K := by rfl)
    (hs : starEach [e, e2] X.env = (false, eval e X.env) :: starEach [e2] X.env := by rfl) (hpl : (backTo pos (starEach [e2] X.env)).any (·.1) = false := by rfl) :
    PI X (.Tuple elts kk tpos) (.Call (.Name "zip" p) [e, e2] [] pos) (iZm K ta) := by
  subst hK
  constructor
  intro pins s σ H R I h
  refine Call_ (ld_blt I hg hm PyProof.Rows.boot_zip (PyProof.Rows.callWith_type1 (thn (ha.run pos pins s σ H _ I h) ?_) hs hpl))
  rintro us s1 ⟨vs, H1, I1, r1, t, u, a, b, xs, ys, rfl, qx, qy, q⟩
  obtain ⟨w1, w2, rfl, ra, rb⟩ := vals2 r1
  cases (show w1 = Value.ref a from ra)
  cases (show w2 = Value.ref b from rb)
  obtain ⟨its, rv, p1, lt1⟩ := qx.real I1
  obtain ⟨its2, rv2, p2, lt2⟩ := qy.real I1
  refine call_zmix p1 p2 ?_
  intro h' Z
  refine wpAny_pyIter_zip Z.zip ?_
  have I2 : Inv X pins σ H1 { s1 with heap := h' } := I1.kept (t' := s1.toks) Z.keep
  let n := s1.heap.objs.size
  refine ⟨n + 4, [n + 4, n + 2, n + 3, n, n + 1], _, _, H1, rfl, I2, turn_zmix (PySem.W.ktu_apart n a b lt1 lt2), ⟨Z.zip, Z.its, ⟨_, _, Z.out⟩, Z.it1, Z.it2⟩, ?_, q⟩
  intro c hc
  have le : n ≤ c := by
    show s1.heap.objs.size ≤ c
    rcases in5 hc with e | e | e | e | e
    · have e' : @Eq Nat c (s1.heap.objs.size + 4) := e
      omega
    · have e' : @Eq Nat c (s1.heap.objs.size + 2) := e
      omega
    · have e' : @Eq Nat c (s1.heap.objs.size + 3) := e
      omega
    · have e' : @Eq Nat c (s1.heap.objs.size) := e
      omega
    · have e' : @Eq Nat c (s1.heap.objs.size + 1) := e
      omega
  exact I1.fpOk le (I1.hok.fresh le)
/-- the walk -/
theorem walk_zm {t u : Bool} {K : PySem.W.Frag} {a b : Addr} {xs ys : List V} {n : Nat} (hn : n = min xs.length ys.length) :
    Walk (Itm t u K a b) n (fun H => Sv t K H a xs ∧ Sv u K H b ys) (YPair (fun i => xs[i]?) (fun i => ys[i]?)) := by
  subst hn
  refine ⟨?_, ?_, ?_⟩
  · intro i H hi q
    have h1 : i < xs.length := by omega
    have h2 : i < ys.length := by omega
    exact ⟨xs, ys, xs[i], ys[i], q.1, q.2, by simp [h1], by simp [h2]⟩
  · intro H q
    exact ⟨xs, ys, q.1, q.2, by omega⟩
  · rintro i H x H' _ q ⟨N, v, v', h1, h2, h3, h4, h5⟩
    exact ⟨N, v, v', h1, h2, h3, h4 xs q.1, h5 ys q.2⟩
end VB
/-! comprehensions that change nothing, of any values -/
namespace VB
open PySem PySem.Spec PyProof.Rows L2
theorem lc_pureVS {J : It} {G : Hp → Prop} {n j : Nat} {us : List V} {xs : List V} {te : TE} {vs : List Nat} {σ : L2.St} {H1 : Hp} {D : Addr} {Qd : Hp → Prop} (wk : Walk J n G (YAt xs)) (hG : ∀ H, Evl.Ex H1 H → G H)
    (hl : us.length = n) (hz : n ≤ 60000) (hD : H1 D = none) (hw : ∀ x, wipe ((wipe σ vs).set j x) vs = wipe σ vs)
    (hs : ∀ (i : Nat) (x : V) (u : V) (H : Hp) (Q : VK), xs[i]? = some x → us[i]? = some u → Evl.Ex H1 H → (∀ H' : Hp, Evl.Ex H H' → Q u H') → te ((wipe σ vs).set j (some x)) H Q)
    (hd : ∀ H, Evl.Ex H1 H → H D = some (.lst us) → Qd H) :
    ∃ W : Nat → Nat → Hp → Prop, (∃ m, W 0 m (upd H1 D (.lst []))) ∧ ∀ i m H, W i m H →
      (J.stop i H ∧ Qd H) ∨ (J.go i H ∧ ∃ Nx : Hp → Prop, (∀ H', Nx H' → ∃ m', m' < m ∧ W (i + 1) m' H') ∧ ∀ x H', J.yld i H x H' →
        gName j x (wipe σ vs) H' fun σ2 H2 => wipe σ2 vs = wipe σ vs ∧ tYes σ2 H2 fun b H3 =>
        if b = true then te σ2 H3 fun y H4 => ∃ acc, H4 D = some (.lst acc) ∧ acc.length < sizeLine ∧ Nx (upd H4 D (.lst (acc ++ [y]))) else Nx H3) := by
  refine lc_it wk (fun i H' => Evl.Ex H1 H' ∧ i ≤ n ∧ H' D = some (.lst (us.take i))) ⟨Evl.Ex.new hD, Nat.zero_le _, upd_same⟩ (fun i H _ h => hG H h.1) ?_ ?_
  · rintro i x H H' hi ⟨e1, hi2, h1⟩ ⟨rfl, hx⟩
    refine ⟨hw _, ?_⟩
    obtain ⟨u, hu⟩ : ∃ u, us[i]? = some u := ⟨us[i]'(by omega), by simp [show i < us.length by omega]⟩
    show te _ H' _
    refine hs i x u H' _ hx hu e1 fun H'' e2 => ⟨_, e2 D _ h1, ?_, Evl.Ex.mut (e1.trans e2) hD, by omega, ?_⟩
    · rw [List.length_take]
      exact Evl.sz_lt (by omega)
    · rw [upd_same, take_snoc hu]
  · rintro H ⟨e1, _, h1⟩
    refine hd H e1 ?_
    rw [h1, ← hl, List.take_length]
/-- .. over pairs -/
theorem lc_pureVZ {K : PySem.W.Frag} {J : It} {G : Hp → Prop} {n j1 j2 : Nat} {us : List V} {xs ys : Nat → Option V} {te : TE} {vs : List Nat} {σ : L2.St} {H1 : Hp} {D : Addr} {Qd : Hp → Prop} (wk : Walk J n G (YPair xs ys)) (hG : ∀ H, Evl.Ex H1 H → G H)
    (hl : us.length = n) (hz : n ≤ 60000) (hD : H1 D = none) (hw : ∀ x y, wipe (((wipe σ vs).set j1 x).set j2 y) vs = wipe σ vs)
    (hs : ∀ (i : Nat) (x y : V) (u : V) (H : Hp) (Q : VK), xs i = some x → ys i = some y → us[i]? = some u → Evl.Ex H1 H → (∀ H' : Hp, Evl.Ex H H' → Q u H') → te (((wipe σ vs).set j1 (some x)).set j2 (some y)) H Q)
    (hd : ∀ H, Evl.Ex H1 H → H D = some (.lst us) → Qd H) :
    ∃ W : Nat → Nat → Hp → Prop, (∃ m, W 0 m (upd H1 D (.lst []))) ∧ ∀ i m H, W i m H →
      (J.stop i H ∧ Qd H) ∨ (J.go i H ∧ ∃ Nx : Hp → Prop, (∀ H', Nx H' → ∃ m', m' < m ∧ W (i + 1) m' H') ∧ ∀ x H', J.yld i H x H' →
        gTup K 2 (gCons (gName j1) (gCons (gName j2) gNil)) x (wipe σ vs) H' fun σ2 H2 => wipe σ2 vs = wipe σ vs ∧ tYes σ2 H2 fun b H3 =>
        if b = true then te σ2 H3 fun y H4 => ∃ acc, H4 D = some (.lst acc) ∧ acc.length < sizeLine ∧ Nx (upd H4 D (.lst (acc ++ [y]))) else Nx H3) := by
  refine lc_it wk (fun i H' => Evl.Ex H1 H' ∧ i ≤ n ∧ H' D = some (.lst (us.take i))) ⟨Evl.Ex.new hD, Nat.zero_le _, upd_same⟩ (fun i H _ h => hG H h.1) ?_ ?_
  · rintro i v H H' hi ⟨e1, hi2, h1⟩ ⟨T, x, y, rfl, hT, rfl, hx, hy⟩
    have eT := Evl.Ex.new (o := .tup [x, y]) hT
    refine ⟨T, _, rfl, SqT.of upd_same, rfl, x, _, rfl, ⟨y, _, rfl, ?_⟩⟩
    refine ⟨rfl, hw _ _, ?_⟩
    obtain ⟨u, hu⟩ : ∃ u, us[i]? = some u := ⟨us[i]'(by omega), by simp [show i < us.length by omega]⟩
    show te _ _ _
    refine hs i x y u _ _ hx hy hu (e1.trans eT) fun H'' e2 => ⟨_, e2 D _ (eT D _ h1), ?_, Evl.Ex.mut ((e1.trans eT).trans e2) hD, by omega, ?_⟩
    · rw [List.length_take]
      exact Evl.sz_lt (by omega)
    · rw [upd_same, take_snoc hu]
  · rintro H ⟨e1, _, h1⟩
    refine hd H e1 ?_
    rw [h1, ← hl, List.take_length]
/-- a sequence's type -/
theorem Sv.ty {t : Bool} {K : PySem.W.Frag} {H : Hp} {a : Addr} {xs : List V} (h : Sv t K H a xs) : TyX K H (.ref a) (.type (if t then "tuple" else "list")) := by
  cases t with
  | false =>
    have h : SqL K H a xs := h
    rcases h with (h | ⟨o, h⟩) | ⟨o, its, n, h, c, _⟩
    · exact .base (.lst h)
    · exact .base (.frz h)
    · exact .kList h c
  | true =>
    have h : SqT K H a xs := h
    rcases h with (h | ⟨o, h⟩) | ⟨o, its, n, h, c, _⟩
    · exact .base (.tup h)
    · exact .fTuple h
    · exact .kTuple h c
theorem kit_seq (K : PySem.W.Frag) (t : Bool) : PySem.W.kitAny K (.type (if t then "tuple" else "list")) [.type "list", .type "tuple"] = some true := by
  cases t with
  | false => exact kitAny_cons (b := true) (kit_ty (by decide +kernel)) (fun z => nomatch z) (fun _ => rfl)
  | true => exact kitAny_cons (b := false) (kit_ty (by decide +kernel)) (fun _ => kitAny_cons (b := true) (kit_ty (by decide +kernel)) (fun z => nomatch z) (fun _ => rfl)) (fun z => nomatch z)
/-- an int of the module -/
theorem pe_globI {X : Cx} {x : Str} {i : Int} {pos : Pos} (hg : Gl X x) (h : ∃ t, X.mg x = some (.int i t)) (hd : (x == ("__debug__" : Str)) = false := by decide) : PE X (.Name x pos) (tC (.int i)) := by
  obtain ⟨t, h⟩ := h
  exact pe_glob hg h ⟨_, rfl⟩ hd
end VB
/-! what the laws share -/
namespace VB
open PySem PySem.Spec PyProof.Rows L2 BM
section
variable {P : Program} {w : World} {K : PySem.W.Frag} {mg : Str → Option Value} {base : Heap} {f : Addr} {fd : FuncData}
/-- at a: a box: what is left of the digits, whether they count, the seed, the draws so far (below n) -/
def Box (H : Hp) (a : Addr) (n : Int) : Prop := ∃ (d m c : Int) (b : Bool), H a = some (.lst [.int d, .bl b, .int m, .int c]) ∧ 0 ≤ d ∧ 0 ≤ m ∧ m < 2147483629 ∧ 0 ≤ c ∧ c ≤ n
/-- all but what stands at a is as it was -/
def Exb (a : Addr) (H H' : Hp) : Prop := ∀ b o, b ≠ a → H b = some o → H' b = some o
theorem Exb.upd {a : Addr} {H : Hp} {o : HO} : Exb a H (upd H a o) := fun b u n e => by rw [upd_ne n]; exact e
theorem Exb.trans {a : Addr} {H H1 H2 : Hp} (x : Exb a H H1) (y : Exb a H1 H2) : Exb a H H2 := fun b o n e => y b o n (x b o n e)
theorem Exb.of {a : Addr} {H H' : Hp} (x : Evl.Ex H H') : Exb a H H' := fun b o _ e => x b o e
theorem Exb.new {a p : Addr} {H : Hp} {o : HO} (h : H p = none) : Exb a H (L2.upd H p o) := Exb.of (Evl.Ex.new h)
theorem Box.ex {H H' : Hp} {a : Addr} {n : Int} (b : Box H a n) (e : Evl.Ex H H') : Box H' a n := by
  obtain ⟨d, m, c, k, h, r⟩ := b
  exact ⟨d, m, c, k, e _ _ h, r⟩
theorem Box.at {H : Hp} {a p : Addr} {n : Int} (b : Box H a n) (h : H p = none) : p ≠ a := by
  obtain ⟨d, m, c, k, e, r⟩ := b
  rintro rfl
  rw [h] at e
  cases e
theorem Box.le {H : Hp} {a : Addr} {n m : Int} (b : Box H a n) (h : n ≤ m) : Box H a m := by
  obtain ⟨d, m', c, k, e, r1, r2, r3, r4, r5⟩ := b
  exact ⟨d, m', c, k, e, r1, r2, r3, r4, by omega⟩
abbrev ws8 : List Int := [128, 64, 32, 16, 8, 4, 2, 1]
theorem ws8_get {j : Nat} {u : Int} (h : ws8[j]? = some u) : 0 < u ∧ u ≤ 128 := by
  have m := List.mem_of_getElem? h
  simp only [ws8, List.mem_cons, List.not_mem_nil, or_false] at m
  omega
theorem bitsOf_ws (o : Int) : bitsOf o = ws8.map fun u => o / u % 2 := rfl
theorem octetsN_snoc : ∀ (n : Nat) (bs : List Int), octetsN (n + 1) bs = octetsN n bs ++ [octOf ((bs.drop (8 * n)).take 8)]
  | 0, bs => rfl
  | n + 1, bs => by
    show octOf (bs.take 8) :: octetsN (n + 1) (bs.drop 8) = octOf (bs.take 8) :: octetsN n (bs.drop 8) ++ _
    rw [octetsN_snoc n (bs.drop 8), List.drop_drop]
    have e : 8 + 8 * n = 8 * (n + 1) := by omega
    rw [e]
    rfl
theorem octetsN_len : ∀ (n : Nat) (bs : List Int), (octetsN n bs).length = n
  | 0, _ => rfl
  | n + 1, bs => by
    show (octetsN n (bs.drop 8)).length + 1 = _
    rw [octetsN_len n]
theorem cut8 (bs : List Int) (i : Nat) (hi : 8 * i ≤ bs.length) : cutV (IV bs) (some (0 + (i : Int) * 8)) (some (0 + (i : Int) * 8 + 8)) = IV ((bs.drop (8 * i)).take 8) := by
  have e1 : (0 : Int) + (i : Int) * 8 = ((8 * i : Nat) : Int) := by omega
  have e2 : ((8 * i : Nat) : Int) + 8 = ((8 * i + 8 : Nat) : Int) := by omega
  unfold cutV
  rw [e1, e2, HT.sIx_nat, HT.sIx_nat, iv_len, ← List.map_drop, ← List.map_take]
  have e3 : min (8 * i) bs.length = 8 * i := by omega
  rw [e3]
  congr 1
  rw [List.take_eq_take_iff, List.length_drop]
  omega
theorem octOf_snoc (bs : List Int) (b : Int) : octOf (bs ++ [b]) = 2 * octOf bs + b := by
  unfold octOf
  rw [List.foldl_append]
  rfl
theorem if_ne {x y : Int} {A B : Prop} (h1 : x ≠ y → A) (h2 : x = y → B) : if (!decide (V.int x = V.int y)) = true then A else B := by
  by_cases e : x = y
  · rw [decide_eq_true (congrArg V.int e)]
    exact iteF (h2 e)
  · rw [decide_eq_false (fun z => e (V.int.inj z))]
    exact iteT (h1 e)
theorem if_eq {x y : Int} {A B : Prop} (h1 : x = y → A) (h2 : x ≠ y → B) : if decide (V.int x = V.int y) = true then A else B := by
  by_cases e : x = y
  · rw [decide_eq_true (congrArg V.int e)]
    exact iteT (h1 e)
  · rw [decide_eq_false (fun z => e (V.int.inj z))]
    exact iteF (h2 e)
theorem drop_get {α : Type} {l : List α} {i : Nat} {x : α} (h : l[i]? = some x) : l.drop i = x :: l.drop (i + 1) := by
  obtain ⟨hi, e⟩ := List.getElem?_eq_some_iff.mp h
  rw [List.drop_eq_getElem_cons hi, e]
theorem get_lt {α : Type} {l : List α} {i : Nat} (h : i < l.length) : ∃ x, l[i]? = some x := ⟨l[i], by simp [h]⟩
theorem iv_set (pre post : List Int) (x y : Int) : (IV (pre ++ x :: post)).set pre.length (V.int y) = IV (pre ++ y :: post) := by
  rw [← List.map_set, List.set_append_right _ _ (Nat.le_refl _)]
  simp
theorem turned_cons (x y m : Int) (as bs : List Int) : turned (x :: as) (y :: bs) m = if x = y then x :: turned as bs m else (if m % 2 = 1 then y else x) :: turned as bs (m / 2) := by
  rw [turned]
/-- beyond all masks -/
def MM : Int := 2 ^ 4096
theorem MM_eq : (1 : Int) * 2 ^ (4096 : Int).toNat = MM := by
  have e : (4096 : Int).toNat = 4096 := rfl
  rw [e, Int.one_mul]
  rfl
theorem pow_nn (k : Nat) : (0 : Int) < 2 ^ k := Int.pow_pos (by decide)
theorem pow_mono {a b : Nat} (h : a ≤ b) : (2 : Int) ^ a ≤ 2 ^ b := by
  have q : (2 : Nat) ^ a ≤ 2 ^ b := Nat.pow_le_pow_right (by decide) h
  have q2 : (((2 : Nat) ^ a : Nat) : Int) ≤ ((2 ^ b : Nat) : Int) := Int.ofNat_le.mpr q
  simpa using q2
theorem MM_half {k : Nat} (h : k ≤ 4095) : 2 * (2 : Int) ^ k ≤ MM := by
  have q := pow_mono (a := k + 1) (b := 4096) (by omega)
  rw [Int.pow_succ] at q
  unfold MM
  omega
theorem lt_natAbs {x : Int} {n : Nat} (h0 : 0 ≤ x) (h : x < 2 ^ n) : x.natAbs < 2 ^ n := by
  have e : (x.natAbs : Int) = x := Int.natAbs_of_nonneg h0
  have q : (x.natAbs : Int) < ((2 ^ n : Nat) : Int) := by
    rw [e]
    simpa using h
  exact Int.ofNat_lt.mp q
theorem more_bits {x w : Int} {n : Nat} (h0 : 0 ≤ x) (h : x < 2 ^ n) (w0 : 0 ≤ w) (w1 : w < 2 ^ 48) : 0 ≤ x * 2 ^ 48 + w ∧ x * 2 ^ 48 + w < 2 ^ (n + 48) := by
  rw [Int.pow_add]
  have p : (0 : Int) < 2 ^ 48 := pow_nn 48
  have m : (x + 1) * 2 ^ 48 ≤ 2 ^ n * 2 ^ 48 := Int.mul_le_mul_of_nonneg_right (by omega) (Int.le_of_lt p)
  rw [Int.add_mul, Int.one_mul] at m
  have m0 : 0 ≤ x * 2 ^ 48 := Int.mul_nonneg h0 (Int.le_of_lt p)
  omega
theorem oct_snoc {xs : List Int} {r : Int} (h : Oct xs) (h0 : 0 ≤ r) (h1 : r ≤ 255) : Oct (xs ++ [r]) := by
  intro o ho
  rcases List.mem_append.mp ho with q | q
  · exact h o q
  · have e : o = r := by simpa using q
    omega
theorem zip_get {xs ys : List Int} {p : Int × Int} (h : p ∈ xs.zip ys) : ∃ i : Nat, xs[i]? = some p.1 ∧ ys[i]? = some p.2 := by
  obtain ⟨i, hi⟩ := List.mem_iff_getElem?.mp h
  obtain ⟨q1, q2⟩ := List.getElem?_zip_eq_some.mp hi
  exact ⟨i, q1, q2⟩
theorem bitAnd_pp {x y : Int} (hx : 0 ≤ x) (hy : 0 ≤ y) : Builtin.bitAnd x y = ((x.toNat &&& y.toNat : Nat) : Int) := by
  obtain ⟨a, rfl⟩ := nat_of hx
  obtain ⟨b, rfl⟩ := nat_of hy
  rfl
/-- two lists of octets, item by item -/
def both (f : Int → Int → Int) (xs ys : List Int) : List Int := (xs.zip ys).map fun p => f p.1 p.2
theorem both_len {f : Int → Int → Int} {xs ys : List Int} (h : xs.length = ys.length) : (both f xs ys).length = xs.length := by
  unfold both
  rw [List.length_map, List.length_zip]
  omega
theorem both_get {f : Int → Int → Int} {xs ys : List Int} {i : Nat} {u : Int} (h : (both f xs ys)[i]? = some u) : ∃ x y, xs[i]? = some x ∧ ys[i]? = some y ∧ u = f x y := by
  unfold both at h
  rw [List.getElem?_map] at h
  cases e : (xs.zip ys)[i]? with
  | none => rw [e] at h; cases h
  | some p =>
    rw [e] at h
    obtain ⟨q1, q2⟩ := List.getElem?_zip_eq_some.mp e
    exact ⟨p.1, p.2, q1, q2, (Option.some.inj h).symm⟩
theorem both_oct {f : Int → Int → Int} {xs ys : List Int} (ox : Oct xs) (oy : Oct ys) (h : ∀ x y, 0 ≤ x ∧ x ≤ 255 → 0 ≤ y ∧ y ≤ 255 → 0 ≤ f x y ∧ f x y ≤ 255) : Oct (both f xs ys) := by
  intro o ho
  obtain ⟨i, hi⟩ := List.mem_iff_getElem?.mp ho
  obtain ⟨x, y, hx, hy, rfl⟩ := both_get hi
  exact h x y (ox x (List.mem_of_getElem? hx)) (oy y (List.mem_of_getElem? hy))
theorem oct_and {x y : Int} (hx : 0 ≤ x ∧ x ≤ 255) (hy : 0 ≤ y ∧ y ≤ 255) : (0 ≤ Builtin.bitAnd x y ∧ Builtin.bitAnd x y ≤ 255) ∧ Le (bitsOf (Builtin.bitAnd x y)) (bitsOf x) := by
  rw [bitAnd_pp hx.1 hy.1]
  have e : ((x.toNat : Nat) : Int) = x := by omega
  have h := and_oct (a := x.toNat) (b := y.toNat) (by omega)
  refine ⟨by omega, ?_⟩
  have q := and_le x.toNat y.toNat
  rw [e] at q
  exact q
theorem oct_or {x y : Int} (hx : 0 ≤ x ∧ x ≤ 255) (hy : 0 ≤ y ∧ y ≤ 255) : (0 ≤ Builtin.bitOr x y ∧ Builtin.bitOr x y ≤ 255) ∧ Le (bitsOf x) (bitsOf (Builtin.bitOr x y)) := by
  rw [Bits.bitOr_pp hx.1 hy.1]
  have e : ((x.toNat : Nat) : Int) = x := by omega
  have h := or_oct (a := x.toNat) (b := y.toNat) (by omega) (by omega)
  refine ⟨by omega, ?_⟩
  have q := le_or x.toNat y.toNat
  rw [e] at q
  exact q
theorem bitsL_le' {xs ys : List Int} (hl : xs.length = ys.length) (h : ∀ (i : Nat) x y, xs[i]? = some x → ys[i]? = some y → Le (bitsOf x) (bitsOf y)) : Le (bitsL xs) (bitsL ys) :=
  bitsL_le hl fun p hp => by
    obtain ⟨i, h1, h2⟩ := zip_get hp
    exact h i _ _ h1 h2
theorem oct_255 (c : Nat) : Oct (List.replicate c 255) := fun o ho => by
  have e := List.eq_of_mem_replicate ho
  omega
theorem iv_rep (c : Nat) (o : Int) : IV (List.replicate c o) = List.replicate c (V.int o) := List.map_replicate ..
/-- one more octet of a comprehension over a box -/
def Grown (a D : Addr) (H0 : Hp) (m : Int) (i : Nat) (H' : Hp) : Prop := Exb a H0 H' ∧ Box H' a (m + 3 * i) ∧ ∃ xs : List Int, xs.length = i ∧ Oct xs ∧ H' D = some (.lst (IV xs))
theorem Grown.start {a D : Addr} {H : Hp} {m : Int} (B : Box H a m) (hD : H D = none) : Grown a D H m 0 (upd H D (.lst [])) :=
  ⟨Exb.new hD, (B.ex (Evl.Ex.new hD)).le (by omega), [], rfl, fun _ h => (by cases h), upd_same⟩
theorem Grown.more {a D : Addr} {H0 H1 H2 : Hp} {m r : Int} {i : Nat} (g : Grown a D H0 m i H1) (hD : D ≠ a) (hn : H0 D = none) (hi : i ≤ 1000) (e : Exb a H1 H2) (B : Box H2 a (m + 3 * i + 3)) (r0 : 0 ≤ r) (r1 : r ≤ 255) :
    ∃ acc, H2 D = some (.lst acc) ∧ acc.length < sizeLine ∧ Grown a D H0 m (i + 1) (upd H2 D (.lst (acc ++ [V.int r]))) := by
  obtain ⟨e1, B1, xs, hl, ho, h⟩ := g
  have B2 : Box (upd H2 D (.lst (IV xs ++ [V.int r]))) a (m + 3 * i + 3) := by
    obtain ⟨d, m', c, k, hb, q⟩ := B
    exact ⟨d, m', c, k, by rw [upd_ne (Ne.symm hD)]; exact hb, q⟩
  refine ⟨IV xs, e D _ hD h, by rw [iv_len, hl]; exact Evl.sz_lt (by omega), ?_, B2.le (by omega), xs ++ [r], by simp [hl], oct_snoc ho r0 r1, by rw [upd_same, iv_snoc]⟩
  intro b o n q
  have hb : b ≠ D := by
    rintro rfl
    rw [hn] at q
    cases q
  rw [upd_ne hb]
  exact e b o n (e1 b o n q)
/-- keywords in other orders than the parameters' -/
abbrev g1 : List Value → List Value → List Value := fun _ ws => [ws.getD 0 .none]
abbrev g1V : List V → List V → List V := fun _ ws => [ws.getD 0 .non]
abbrev g21 : List Value → List Value → List Value := fun _ ws => [ws.getD 1 .none, ws.getD 0 .none]
abbrev g21V : List V → List V → List V := fun _ ws => [ws.getD 1 .non, ws.getD 0 .non]
abbrev g321 : List Value → List Value → List Value := fun _ ws => [ws.getD 2 .none, ws.getD 1 .none, ws.getD 0 .none]
abbrev g321V : List V → List V → List V := fun _ ws => [ws.getD 2 .non, ws.getD 1 .non, ws.getD 0 .non]
theorem same_ne {x : V} {A B : Prop} (h : B) : if (!decide (x = x)) = true then A else B := by
  rw [decide_eq_true rfl]
  exact iteF h
theorem same_int {x y : Int} {A B : Prop} (e : x = y) (h : B) : if (!decide (V.int x = V.int y)) = true then A else B := by
  subst e
  exact same_ne h
theorem same_bl {x y : Bool} {A B : Prop} (e : x = y) (h : B) : if (!decide (V.bl x = V.bl y)) = true then A else B := by
  subst e
  exact same_ne h
theorem if_dec {p : Prop} [Decidable p] {A B : Prop} (h1 : p → A) (h2 : ¬ p → B) : if decide p = true then A else B := by
  by_cases z : p
  · rw [decide_eq_true z]
    exact iteT (h1 z)
  · rw [decide_eq_false z]
    exact iteF (h2 z)
theorem two_ways {x y : Int} {ta tb : TE} {σ : L2.St} {H : Hp} {Q : VK} (S : V → Hp → Prop) (ha : x = y → ∀ Q' : VK, (∀ v H', S v H' → Q' v H') → ta σ H Q')
    (hb : x ≠ y → ∀ Q' : VK, (∀ v H', S v H' → Q' v H') → tb σ H Q') (hQ : ∀ v H', S v H' → Q v H') : if decide (V.int x = V.int y) = true then ta σ H Q else tb σ H Q :=
  if_eq (fun z => ha z Q hQ) (fun z => hb z Q hQ)
theorem sm_fallen (n : Nat) (as bs : List Int) : ∀ (k : Int), 0 ≤ k → k + (as.length : Int) ≤ 10000 → Sm (fallenL k as bs) := by
  induction as generalizing bs with
  | nil =>
    intro k _ _
    cases bs <;> exact fun n hn => by cases hn
  | cons a as ih =>
    intro k hk hl
    cases bs with
    | nil => exact fun n hn => by cases hn
    | cons b bs =>
      have r := ih bs (k + 1) (by omega) (by simp at hl; omega)
      rw [fallenL]
      split
      · intro n hn
        cases hn with
        | head => simp at hl; omega
        | tail _ hn => exact r n hn
      · exact r
theorem zip8 {f : Int → Int → Int} {a0 a1 a2 a3 a4 a5 a6 a7 b0 b1 b2 b3 b4 b5 b6 b7 : Int} : List.zipWith f [a7, a6, a5, a4, a3, a2, a1, a0] [b7, b6, b5, b4, b3, b2, b1, b0] = [f a7 b7, f a6 b6, f a5 b5, f a4 b4, f a3 b3, f a2 b2, f a1 b1, f a0 b0] := rfl
theorem xor_bits {x y : Int} (hx : 0 ≤ x ∧ x ≤ 255) (hy : 0 ≤ y ∧ y ≤ 255) : bitsOf (Builtin.bitXor x y) = List.zipWith (fun a b => if a = b then 0 else 1) (bitsOf x) (bitsOf y) := by
  obtain ⟨a, rfl⟩ := nat_of hx.1
  obtain ⟨b, rfl⟩ := nat_of hy.1
  rw [Bits.bitXor_pp hx.1 hy.1, Int.toNat_natCast, Int.toNat_natCast, bitsOf_tb, bitsOf_tb, bitsOf_tb, zip8]
  simp only [tb_xor]
theorem and_bits {x y : Int} (hx : 0 ≤ x ∧ x ≤ 255) (hy : 0 ≤ y ∧ y ≤ 255) : bitsOf (Builtin.bitAnd x y) = List.zipWith (fun a b => if a = 1 ∧ b = 1 then 1 else 0) (bitsOf x) (bitsOf y) := by
  obtain ⟨a, rfl⟩ := nat_of hx.1
  obtain ⟨b, rfl⟩ := nat_of hy.1
  rw [bitAnd_pp hx.1 hy.1, Int.toNat_natCast, Int.toNat_natCast, bitsOf_tb, bitsOf_tb, bitsOf_tb, zip8]
  simp only [tb_and]
theorem xor_range {x y : Int} (hx : 0 ≤ x ∧ x ≤ 255) (hy : 0 ≤ y ∧ y ≤ 255) : 0 ≤ Builtin.bitXor x y ∧ Builtin.bitXor x y ≤ 255 := by
  rw [Bits.bitXor_pp hx.1 hy.1]
  have h := xor_oct (a := x.toNat) (b := y.toNat) (by omega) (by omega)
  omega
/-- what falls, octet by octet -/
def fallO (x y : Int) : Int := Builtin.bitAnd x (Builtin.bitXor x y)
def riseO (x y : Int) : Int := Builtin.bitAnd y (Builtin.bitXor x y)
theorem fallO_range {x y : Int} (hx : 0 ≤ x ∧ x ≤ 255) (hy : 0 ≤ y ∧ y ≤ 255) : 0 ≤ fallO x y ∧ fallO x y ≤ 255 := (oct_and hx (xor_range hx hy)).1
theorem riseO_range {x y : Int} (hx : 0 ≤ x ∧ x ≤ 255) (hy : 0 ≤ y ∧ y ≤ 255) : 0 ≤ riseO x y ∧ riseO x y ≤ 255 := (oct_and hy (xor_range hx hy)).1
theorem zw_self {f g : Int → Int → Int} (h : ∀ a b : Int, f a (g a b) = (fun a b => f a (g a b)) a b) : ∀ as bs : List Int, List.zipWith f as (List.zipWith g as bs) = List.zipWith (fun a b => f a (g a b)) as bs
  | [], _ => by simp
  | _ :: _, [] => by simp
  | a :: as, b :: bs => by simp [zw_self h as bs]
theorem zw_other {f g : Int → Int → Int} : ∀ as bs : List Int, List.zipWith f bs (List.zipWith g as bs) = List.zipWith (fun a b => f b (g a b)) as bs
  | [], _ => by simp
  | _ :: _, [] => by simp
  | a :: as, b :: bs => by simp [zw_other as bs]
theorem ones_fall {xs ys : List Int} (ox : Oct xs) (oy : Oct ys) (hl : xs.length = ys.length) : onesL 0 (bitsL (both fallO xs ys)) = fallenL 0 (bitsL xs) (bitsL ys) := by
  have e : bitsL (both fallO xs ys) = List.zipWith (fun a b => if a = 1 ∧ (if a = b then (0 : Int) else 1) = 1 then (1 : Int) else 0) (bitsL xs) (bitsL ys) := by
    refine bitsL_both (fun x y hx hy => ?_) xs ys ox oy
    unfold fallO
    rw [and_bits hx (xor_range hx hy), xor_bits hx hy, zw_self fun _ _ => rfl]
  rw [e]
  refine ones_of (fun as bs k => fallenL k as bs) (fun a b => a = 1 ∧ b = 0) (fun _ => by simp [fallenL]) (fun a as b bs k => by rw [fallenL]) ?_ _ _ 0 (by rw [bitsL_len, bitsL_len, hl]) (bitsL_bit xs) (bitsL_bit ys)
  intro a b ha hb
  rcases ha with rfl | rfl <;> rcases hb with rfl | rfl <;> decide
theorem fallen_swap : ∀ (as bs : List Int) (k : Int) , fallenL k bs as = (fun (as bs : List Int) (k : Int) => fallenL k bs as) as bs k := fun _ _ _ => rfl
theorem ones_rise {xs ys : List Int} (ox : Oct xs) (oy : Oct ys) (hl : xs.length = ys.length) : onesL 0 (bitsL (both riseO xs ys)) = fallenL 0 (bitsL ys) (bitsL xs) := by
  have e : bitsL (both riseO xs ys) = List.zipWith (fun a b => if b = 1 ∧ (if a = b then (0 : Int) else 1) = 1 then (1 : Int) else 0) (bitsL xs) (bitsL ys) := by
    refine bitsL_both (fun x y hx hy => ?_) xs ys ox oy
    unfold riseO
    rw [and_bits hy (xor_range hx hy), xor_bits hx hy, zw_other]
  rw [e]
  refine ones_of (fun as bs k => fallenL k bs as) (fun a b => b = 1 ∧ a = 0) (fun _ => by simp [fallenL]) (fun a as b bs k => by rw [fallenL]) ?_ _ _ 0 (by rw [bitsL_len, bitsL_len, hl]) (bitsL_bit xs) (bitsL_bit ys)
  intro a b ha hb
  rcases ha with rfl | rfl <;> rcases hb with rfl | rfl <;> decide
theorem ones_diff {xs ys : List Int} (ox : Oct xs) (oy : Oct ys) (hl : xs.length = ys.length) : onesL 0 (bitsL (both Builtin.bitXor xs ys)) = diffL 0 (bitsL xs) (bitsL ys) := by
  have e : bitsL (both Builtin.bitXor xs ys) = List.zipWith (fun a b => if a = b then (0 : Int) else 1) (bitsL xs) (bitsL ys) :=
    bitsL_both (fun x y hx hy => xor_bits hx hy) xs ys ox oy
  rw [e]
  refine ones_of (fun as bs k => diffL k as bs) (fun a b => ¬ a = b) (fun _ => by simp [diffL]) (fun a as b bs k => ?_) ?_ _ _ 0 (by rw [bitsL_len, bitsL_len, hl]) (bitsL_bit xs) (bitsL_bit ys)
  · rw [diffL]
    by_cases z : a = b <;> simp [z]
  · intro a b ha hb
    rcases ha with rfl | rfl <;> rcases hb with rfl | rfl <;> decide
/-- the zeros of an octet -/
def zO (n : Nat) : Int := 8 - (([n / 128 % 2, n / 64 % 2, n / 32 % 2, n / 16 % 2, n / 8 % 2, n / 4 % 2, n / 2 % 2, n / 1 % 2].count 1 : Nat) : Int)
theorem zO_eq : ∀ n : Nat, n < 256 → zO n = (((bitsOf (n : Int)).count 0 : Nat) : Int) := by decide +kernel
theorem zO_sum : ∀ os : List Int, Oct os → (os.map fun o => zO o.toNat).sum = zc (bitsL os)
  | [], _ => rfl
  | o :: os, h => by
    have r := zO_sum os fun x hx => h x (List.mem_cons_of_mem _ hx)
    have ho := h o (List.mem_cons_self ..)
    obtain ⟨n, rfl⟩ := nat_of ho.1
    rw [List.map_cons, List.sum_cons, r, Int.toNat_natCast, zO_eq n (by omega), bitsL_cons]
    unfold zc
    rw [List.count_append]
    omega
theorem ty_int (K : PySem.W.Frag) (H : Hp) (i : Int) : TyX K H (.int i) (.type "int") := .base (.int i)
theorem bitAnd_nn (a b : Nat) : Builtin.bitAnd (a : Int) (b : Int) = ((a &&& b : Nat) : Int) := by
  rw [bitAnd_pp (by omega) (by omega)]
  rfl
theorem worth_nat (j : Nat) : (128 : Int) / 2 ^ j = ((128 / 2 ^ j : Nat) : Int) := by
  simp
/-- at bit n of octets -/
theorem at_bit {xs : List Int} {n : Nat} (ox : Oct xs) (h : n < 8 * xs.length) : ∃ o : Nat, o < 256 ∧ xs[n / 8]? = some (o : Int) ∧ (bitsL xs)[n]? = (bitsOf (o : Int))[n % 8]? := by
  obtain ⟨x, hx⟩ := get_lt (l := xs) (i := n / 8) (by omega)
  have hm := ox x (List.mem_of_getElem? hx)
  obtain ⟨o, rfl⟩ := nat_of hm.1
  refine ⟨o, by omega, hx, ?_⟩
  have e := bitsL_get xs (n / 8) (n % 8) (by omega)
  rw [hx] at e
  have e2 : 8 * (n / 8) + n % 8 = n := by omega
  rw [e2] at e
  exact e
theorem both_at {g : Int → Int → Int} {xs ys : List Int} {i : Nat} {x y u : V} (hx : (IV xs)[i]? = some x) (hy : (IV ys)[i]? = some y) (hu : (IV (both g xs ys))[i]? = some u) : ∃ m n : Int, x = .int m ∧ y = .int n ∧ u = .int (g m n) := by
  obtain ⟨m, hm, rfl⟩ := iv_get hx
  obtain ⟨n, hn, rfl⟩ := iv_get hy
  obtain ⟨k, hk, rfl⟩ := iv_get hu
  obtain ⟨m', n', hm', hn', rfl⟩ := both_get hk
  rw [hm] at hm'
  rw [hn] at hn'
  cases hm'
  cases hn'
  exact ⟨_, _, rfl, rfl, rfl⟩
theorem bitXor_nn (a b : Nat) : Builtin.bitXor (a : Int) (b : Int) = ((a ^^^ b : Nat) : Int) := by
  rw [Bits.bitXor_pp (by omega) (by omega)]
  rfl
/-- one unlike bit on -/
theorem one_turn {os done as' bs' U : List Int} {m : Int} {i : Nat} {p : Int} {rest : List Int} (ho : Oct os) (hb : bitsL os = done ++ as') (bb : Bit bs') (hl : as'.length = bs'.length) (hu : diffL (done.length : Int) as' bs' = p :: rest) :
    ∃ (n o : Nat) (x y : Int) (pre as2 bs2 : List Int), p = (n : Int) ∧ o < 256 ∧ os[n / 8]? = some (o : Int) ∧ n / 8 < os.length ∧ as'.length = pre.length + 1 + as2.length ∧ as2.length = bs2.length ∧ Bit bs2 ∧
      (∀ m, turned as' bs' m = pre ++ (if m % 2 = 1 then y else x) :: turned as2 bs2 (m / 2)) ∧ rest = diffL ((done.length + pre.length + 1 : Nat) : Int) as2 bs2 ∧ bitsL os = (done ++ pre ++ [x]) ++ as2 ∧
      Oct (os.set (n / 8) ((o ^^^ (128 / 2 ^ (n % 8)) : Nat) : Int)) ∧ bitsL (os.set (n / 8) ((o ^^^ (128 / 2 ^ (n % 8)) : Nat) : Int)) = (done ++ pre ++ [y]) ++ as2 := by
  obtain ⟨pre, x, y, as2, bs2, h1, h2, h3, h4, h5, h6, h7⟩ := diff_at as' bs' _ p rest hl hu
  have lb := bitsL_len os
  have hn : done.length + pre.length < 8 * os.length := by
    rw [← lb, hb, h1]
    simp
  obtain ⟨o, o1, o2, o3⟩ := at_bit ho hn
  have bx : (bitsL os)[done.length + pre.length]? = some x := by
    rw [hb, h1, List.getElem?_append_right (by omega), Nat.add_sub_cancel_left, List.getElem?_append_right (by omega)]
    simp
  have bx2 : (bitsOf (o : Int))[(done.length + pre.length) % 8]? = some x := by rw [← o3]; exact bx
  have hx : x = 0 ∨ x = 1 := bitsL_bit os x (List.mem_of_getElem? bx)
  have hy : y = 0 ∨ y = 1 := bb y (by rw [h2]; simp)
  have yx : y = 1 - x := by omega
  obtain ⟨t1, t2⟩ := bit_turn o o1 ((done.length + pre.length) % 8) (by omega)
  have gd : (bitsOf (o : Int)).getD ((done.length + pre.length) % 8) 0 = x := by rw [List.getD_eq_getElem?_getD, bx2]; rfl
  rw [gd, ← yx] at t2
  have st := bitsL_set os ((done.length + pre.length) / 8) ((done.length + pre.length) % 8) _ _ _ (by omega) o2 t2
  have e8 : 8 * ((done.length + pre.length) / 8) + (done.length + pre.length) % 8 = done.length + pre.length := by omega
  rw [e8] at st
  refine ⟨done.length + pre.length, o, x, y, pre, as2, bs2, by rw [h4]; simp, o1, o2, by omega, by rw [h1]; simp; omega, h6, fun b hbm => bb b (by rw [h2]; simp [hbm]), h7, by rw [h5, h4]; congr 1, ?_, ?_, ?_⟩
  · rw [hb, h1]
    simp
  · intro z hz
    rcases List.mem_or_eq_of_mem_set hz with z1 | z1
    · exact ho z z1
    · omega
  · rw [st, hb, h1, List.append_assoc, List.append_assoc, List.set_append_right _ _ (by omega), Nat.add_sub_cancel_left]
    congr 1
    rw [List.set_append_right _ _ (Nat.le_refl _), Nat.sub_self]
    rfl
theorem Sv.tupOf {H : Hp} {a : Addr} {xs : List V} {t : Bool} {Q : VK} (S : Sv t K H a xs) (q : ∀ p H', Evl.Ex H H' → SqT K H' p xs → Q (.ref p) H') : rTupI K [.ref a] H Q := by
  unfold rTupI
  cases t with
  | false => exact ⟨a, xs, rfl, .inl ⟨S, fun l hl => q l _ (Evl.Ex.new hl) (SqT.of upd_same)⟩⟩
  | true => exact ⟨a, xs, rfl, .inr ⟨S, q a H (Evl.Ex.refl _) S⟩⟩
theorem Sv.listOf {H : Hp} {a : Addr} {xs : List V} {t : Bool} {Q : VK} (S : Sv t K H a xs) (q : ∀ p, H p = none → Q (.ref p) (upd H p (.lst xs))) : rListI K [.ref a] H Q := by
  unfold rListI
  exact ⟨a, xs, rfl, S.either, q⟩
theorem test_false {c : TT} {t u : TS} {D : Ends} {σ : L2.St} {H : Hp} (hc : ∀ Q' : Bool → Hp → Prop, (∀ H1, Evl.Ex H H1 → Q' false H1) → c σ H Q') (hu : ∀ H1, Evl.Ex H H1 → u D σ H1) : tIfI c t u D σ H := by
  unfold tIfI
  exact hc _ fun H1 e => iteF (hu H1 e)
theorem mem3 {w p q r : Int} {A B : Prop} (h1 : (w = p ∨ w = q ∨ w = r) → A) (h2 : B) : if (if false = true then !inV (V.int w) [.int p, .int q, .int r] else inV (V.int w) [.int p, .int q, .int r]) = true then A else B := by
  have e : (if false = true then !inV (V.int w) [.int p, .int q, .int r] else inV (V.int w) [.int p, .int q, .int r]) = decide (w = p ∨ w = q ∨ w = r) := by
    simp [inV, eqV, Bool.beq_eq_decide_eq, eq_comm]
  rw [e]
  exact if_dec h1 fun _ => h2
theorem in3 (w p q r : Int) : inV (.int w) [.int p, .int q, .int r] = decide (w = p ∨ w = q ∨ w = r) := by
  simp [inV, eqV, Bool.beq_eq_decide_eq, eq_comm]
abbrev tn (xs ys : List Int) (m : Int) : List Int := octetsL (turned (bitsL xs) (bitsL ys) m)
theorem tn_spec {xs ys : List Int} (m : Int) (hl : xs.length = ys.length) : bitsL (tn xs ys m) = turned (bitsL xs) (bitsL ys) m ∧ Oct (tn xs ys m) ∧ (tn xs ys m).length = xs.length := by
  have lx := bitsL_len xs
  have ly := bitsL_len ys
  have l := turned_len (bitsL xs) (bitsL ys) m (by omega)
  exact octetsL_spec (by omega) (turned_bit _ _ m (bitsL_bit xs) (bitsL_bit ys))
theorem sm_oct {xs : List Int} (h : Oct xs) : Sm xs := fun n hn => by
  have := h n hn
  omega
theorem ex_b {a : Addr} {H0 H H' : Hp} (e : Evl.Ex H0 H) (h : H0 a = none) (x : Exb a H H') : Evl.Ex H0 H' := fun b o q => x b o (fun z => by rw [z, h] at q; cases q) (e b o q)
theorem same_eq {x : V} {A B : Prop} (h : A) : if decide (x = x) = true then A else B := by
  rw [decide_eq_true rfl]
  exact iteT h
theorem ones_ok {k : Nat} (h : k ≤ 4096) : 0 ≤ (2 : Int) ^ k - 1 ∧ (2 : Int) ^ k - 1 < MM := by
  have p := pow_nn k
  have q : (2 : Int) ^ k ≤ MM := pow_mono h
  omega
theorem same_v {x y : V} {A B : Prop} (e : x = y) (h : B) : if (!decide (x = y)) = true then A else B := by
  subst e
  exact same_ne h
theorem bits_rep (o b : Int) (h : bitsOf o = List.replicate 8 b) : ∀ c : Nat, bitsL (List.replicate c o) = List.replicate (8 * c) b
  | 0 => rfl
  | c + 1 => by
    rw [List.replicate_succ, bitsL_cons, bits_rep o b h c, h, List.replicate_append_replicate]
    congr 1
    omega
theorem bits_ones (c : Nat) : bitsL (List.replicate c 255) = List.replicate (8 * c) 1 := bits_rep 255 1 (by decide) c
theorem bits_none (c : Nat) : bitsL (List.replicate c 0) = List.replicate (8 * c) 0 := bits_rep 0 0 (by decide) c
theorem oct_0 (c : Nat) : Oct (List.replicate c 0) := fun o h => by rw [List.eq_of_mem_replicate h]; omega
theorem zc_ones (n : Nat) : zc (List.replicate n 1) = 0 := by
  unfold zc
  rw [List.count_replicate]
  rfl
theorem zc_none (n : Nat) : zc (List.replicate n 0) = n := by
  unfold zc
  rw [List.count_replicate_self]
theorem le_rep : ∀ n : Nat, Le (List.replicate n 0) (List.replicate n 1)
  | 0 => Le.refl _
  | n + 1 => by
    rw [List.replicate_succ, List.replicate_succ]
    have := le_rep n
    simp [Le, this]
theorem fallen_rep : ∀ (n : Nat) (k : Int), fallenL k (List.replicate n 1) (List.replicate n 0) = (List.range n).map fun (i : Nat) => k + (i : Int)
  | 0, k => rfl
  | n + 1, k => by
    rw [List.replicate_succ, List.replicate_succ, fallenL, if_pos ⟨rfl, rfl⟩, fallen_rep n (k + 1), List.range_succ_eq_map, List.map_cons, List.map_map]
    congr 1
    · simp
    · apply List.map_congr_left
      intro i _
      simp
      omega
theorem due_long {c n : Nat} {dd : List Int} (hn : n = 512) (h : n ≤ c) (hd : dd = List.replicate n 0 ++ List.replicate (c - n) 255) : octetsL (turned (bitsL (List.replicate c 255)) (bitsL (List.replicate c 0)) (2 ^ 4096 - 1)) = dd := by
  subst hd
  have n8 : 4096 = 8 * n := by omega
  rw [n8]
  clear n8 hn
  have e : 8 * c = 8 * n + 8 * (c - n) := by omega
  rw [bits_ones, bits_none, e, turned_first]
  have e2 : List.replicate (8 * n) (0 : Int) ++ List.replicate (8 * (c - n)) 1 = bitsL (List.replicate n 0 ++ List.replicate (c - n) 255) := by
    rw [bitsL_append, bits_none, bits_ones]
  rw [e2, octetsL_bitsL]
  intro o ho
  rcases List.mem_append.mp ho with z | z
  · exact oct_0 _ o z
  · exact oct_255 _ o z
theorem rep_flat (k : Nat) (o : Int) : (List.replicate k [V.int o]).flatten = IV (List.replicate k o) := by
  rw [iv_rep]
  simp
/-- (o,) * k -/
theorem mulT1 {H : Hp} {t : Addr} {k o : Int} {Q : VK} (S : SqT K H t [V.int o]) (h1 : 1 ≤ k) (h2 : k ≤ 1000) (q : ∀ (n : Nat) p H', (n : Int) = k → Evl.Ex H H' → SqT K H' p (IV (List.replicate n o)) → Q (.ref p) H') : rMulU1 K (.ref t) (.int k) H Q := by
  unfold rMulU1
  by_cases e : k = 1
  · subst e
    exact .inr ⟨t, _, rfl, rfl, S, q 1 t H rfl (Evl.Ex.refl _) S⟩
  · refine .inl (.inr (.inr ⟨t, k, _, rfl, rfl, S, by simp, by omega, h2, by simp, fun p hp => q k.toNat p _ (by omega) (Evl.Ex.new hp) ?_⟩))
    rw [rep_flat]
    exact SqT.of upd_same
theorem mulL1 {H : Hp} {t : Addr} {k o : Int} {Q : VK} (S : H t = some (.lst [V.int o])) (h1 : 1 ≤ k) (h2 : k ≤ 1000) (q : ∀ (n : Nat) p H', (n : Int) = k → H p = none → Evl.Ex H H' → H' p = some (.lst (IV (List.replicate n o))) → Q (.ref p) H') : rMulU1 K (.ref t) (.int k) H Q := by
  unfold rMulU1
  refine .inl (.inr (.inl ⟨t, _, _, rfl, rfl, S, by omega, by omega, ?_, fun p hp => q k.toNat p _ (by omega) hp (Evl.Ex.new hp) ?_⟩))
  · exact Evl.sz_of (by simp; omega)
  · rw [upd_same, rep_flat]
theorem mulI1 {H : Hp} {i j : Int} {Q : VK} (c : CMulX i j) (q : Q (.int (i * j)) H) : rMulU1 K (.int i) (.int j) H Q := by
  unfold rMulU1
  exact .inl (.inl ⟨i, j, rfl, rfl, c, q⟩)
theorem rg_iv (n : Nat) : rgV 0 (n : Int) = IV ((List.range n).map fun (i : Nat) => (0 : Int) + (i : Int)) := by
  have e : ((n : Int) - 0).toNat = n := by omega
  have e2 : ∀ l : List Int, IV l = l.map V.int := fun _ => rfl
  unfold rgV
  rw [e, e2, List.map_map]
  rfl
end
end VB
/-! errors with a value: made, raised, caught by several clauses with a name, their value read -/
namespace VB
open PySem PySem.Spec PyProof.Rows L2
/-! ### try: .. except A as n: .. except B as n: .. -/
/-- what the clauses wish of an exception of the body, one behind the other; slot i is n's -/
def wManyAs (K : PySem.W.Frag) (i : Nat) (Wout : WX) (D : Ends) : List (Value × (Addr → Value → Option Addr → TS)) → WX
  | [] => Wout
  | (c, ts) :: r => fun cls d σ H => ∃ b, PySem.W.exmOne K cls c = some b ∧
      (b = true → ∀ a, H a = none → ts a cls d { nx := fun σ' H' => D.nx (σ'.set i none) H', rt := D.rt, bk := fun σ' H' => D.bk (σ'.set i none) H', ct := fun σ' H' => D.ct (σ'.set i none) H' } (σ.set i (some (.ref a))) H) ∧
      (b = false → wManyAs K i Wout D r cls d σ H)
inductive HdsAs (X : Cx) (i : Nat) (n : Str) : List ExceptHandler → List (Value × (Addr → Value → Option Addr → TS)) → Prop
  | nil : HdsAs X i n [] []
  | cons {x : Str} {c : Value} {ts : Addr → Value → Option Addr → TS} {b₀ : Stmt} {suite : List Stmt} {np pos' : Pos} {hds : List ExceptHandler} {l : List (Value × (Addr → Value → Option Addr → TS))} (hc : Names X x c)
      (hsu : ∀ (a : Addr) (oe : Obj) (cls : Value) (d : Option Addr) (pn : List (Addr × Obj)), Zc cls d oe → (∃ vs, oe.data = .fields vs) → PSs (X.suite a ((a, oe) :: pn)) (b₀ :: suite) (ts a cls d)) (r : HdsAs X i n hds l) :
      HdsAs X i n (.ExceptHandler (some (.Name x np)) (some n) (b₀ :: suite) pos' :: hds) ((c, ts) :: l)
section
variable {X : Cx} {body : List Stmt} {h₀ : ExceptHandler} {hds : List ExceptHandler} {l : List (Value × (Addr → Value → Option Addr → TS))} {pos : Pos} {tb : WX → TS} {Wout : WX} {i : Nat} {n : Str}
theorem ps_try_manyAs (hs : X.stack = X.env :: X.outer) (hf : X.env.frame = some X.env.locals) (hN : X.N.Nodup) (hi : X.N[i]? = some n) (hln : X.env.kindOf n = some .local) (tk : Takes X Wout)
    (hb : ∀ (W : WX) (pn : List (Addr × Obj)) (xe : Value → Shared → Prop), Takes (X.tr pn xe) W → PassesOwn (model X.prog X.w) X.A X.env xe → PSs (X.tr pn xe) body (tb W))
    (hh : HdsAs X i n (h₀ :: hds) l) : PS X (.Try body (h₀ :: hds) [] [] pos) (fun D σ H => tb (wManyAs X.K i Wout D l) D σ H) := by
  refine ⟨fun pins s σ H D I h => ?_⟩
  have ok := I.ok
  have hfr : X.A.frames = some (X.env :: X.outer) := by rw [ok.frames, hs]
  have hloc : Loc X.env.scope n := .inl hln
  refine wpAny_Try_except ?_
  refine wpAny_mono ((hb (wManyAs X.K i Wout D l) (X.pn ++ pins) (fun e s₁ => wpAny (model X.prog X.w) X.A (noteFrame e X.env) (fun _ s₂ => wpAny (model X.prog X.w) X.A (setFlight e none) (fun _ s₃ =>
    wpAny (model X.prog X.w) X.A (handleBy e X.env (h₀ :: hds)) (SP X pins D) X.xe s₃) X.xe s₂) X.xe s₁) (fun u s' xx => ?_) PassesOwn.looking).run [] s σ H D (I.toTry _) h) (fun f s1 hsp => ?_) (fun e s1 he => he)
  · -- the catch
    obtain ⟨a, B, sI, pins', σ', H', cls, d, rfl, J', nb, up, sky, na, os, ag, w⟩ := xx
    have J : Inv X pins σ' H' sI := J'.ofTry ok
    have sky' : Sky B (X.env :: X.outer) a (Zc cls d) X.env.locals s'.heap := by rw [← hs]; exact sky
    show wpAny (model X.prog X.w) X.A (noteFrame (.ref a) X.env) _ _ _
    refine Sky.land Zc.steady hfr hf sky' fun h3 fl3 up3 => ?_
    have J3 : Inv X pins σ' H' { s' with heap := h3 } := J.landed nb fl3.1 (up.trans up3) os ag
    obtain ⟨oe3, vs3, he3, hz3, hd3⟩ := fl3.there
    have notFr : ∀ {h : Heap} {o : Obj} {vs : Array Value}, h.FunFrames B (X.env :: X.outer) → h.get? a = some o → o.data = .fields vs → a ∉ frs (X.env :: X.outer) := fun {h o vs} ff e dd hm => by
      obtain ⟨_, o', e', hnf⟩ := ff.mem hm
      rw [e] at e'; cases e'
      exact hnf _ dd
    have nfr := notFr fl3.2.2.1 he3 hd3
    have nL : a ≠ X.env.locals := fun z => nfr (List.mem_filterMap.mpr ⟨X.env, List.mem_cons_self, by rw [hf, z]⟩)
    have nF : a ∉ X.fs := fun hm => by
      obtain ⟨e, he, q⟩ := List.mem_filterMap.mp hm
      exact nfr (List.mem_filterMap.mpr ⟨e, List.mem_cons_of_mem _ he, q⟩)
    have S3 := J3.suite he3 hd3 na nL nF
    have go : ∀ {hds' : List ExceptHandler} {l' : List (Value × (Addr → Value → Option Addr → TS))}, HdsAs X i n hds' l' → wManyAs X.K i Wout D l' cls d σ' H' →
        wpAny (model X.prog X.w) X.A (handleBy (.ref a) X.env hds') (SP X pins D) X.xe { s' with heap := h3 } := by
      intro hds' l' hk
      induction hk with
      | nil =>
        intro w
        refine wpAny_handleBy_nil ?_
        obtain ⟨k1, k2, k3, oe, vs, T, oT, ts', he, hz, hd, h1, hr⟩ := id fl3
        unfold PySem.passOn
        refine wpAny_bind (wpAny_field he hd h1 ?_)
        rw [if_neg (show ¬ ((Value.ref T == Value.none) = true) from by simp)]
        have fin : wpAny (model X.prog X.w) X.A (setFlight (.ref a) X.env.frame) (fun _ s4 => wpAny (model X.prog X.w) X.A (throw (.ref a) : Sem Flow) (SP X pins D) X.xe s4) X.xe { s' with heap := h3 } := by
          rw [hf]
          refine HandSPX.setFlight_upZ fl3 fun h4 hh4 up4 => wpAny_throw (tk _ _ ?_)
          exact ⟨a, B, sI, pins, σ', H', cls, d, rfl, J, nb, (up.trans up3).trans up4, .inr (.inr (by rw [hs]; exact hh4)), na, os, ag, w⟩
        first
          | exact wpAny_bind (wpAny_pure (wpAny_bind fin))
          | exact wpAny_bind fin
      | @cons x c ts b₀ suite np pos' hds2 l2 hc hsu r ih =>
        intro w
        obtain ⟨b, hb1, hyes, hno⟩ := w
        refine wpAny_handleBy_cons (codeAny_handlers_test ?_) (by intro q; cases q)
        have LT : PySem.W.Looks (model X.prog X.w) h3 (typeOf (.ref a)) cls := fun A Q E s k q => wpAny_typeOf_ref (k _ _ he3) (by rw [hz3.1]; exact q)
        have LM := PySem.W.exm_one (M := model X.prog X.w) (J3.kIn) LT hb1
        have test : ∀ {Q : Value → Shared → Prop} {E : Value → Shared → Prop}, Q c { s' with heap := h3 } → wpAny (model X.prog X.w) (X.A.mark (some (.ref a))) (eval (.Name x np) X.env) Q E { s' with heap := h3 } := fun {Q E} q => by
          obtain ⟨hg, hdbg, hm | ⟨hm, hv, hnn⟩⟩ := hc
          · exact ld_glob (X := X.suite a ((a, oe3) :: (X.pn ++ pins))) S3 hg hm q hdbg
          · exact ld_blt (X := X.suite a ((a, oe3) :: (X.pn ++ pins))) S3 hg hm hv q hnn hdbg
        refine test (LM.here ?_)
        cases b with
        | true =>
          refine codeAny_handlers_suite_as ?_
          refine HandSPX.lands_againZ fl3 fun h4 fl4 up4 => ?_
          have J4 : Inv X pins σ' H' { s' with heap := h4 } := J.landed nb fl4.1 ((up.trans up3).trans up4) os ag
          obtain ⟨oe4, vs4, he4, hz4, hd4⟩ := fl4.there
          have S4 := J4.suite he4 hd4 na nL nF
          refine store_ok (X := X.suite a ((a, oe4) :: (X.pn ++ pins))) (v := .ref a) S4 hN hi hloc rfl (fun s5 S5 => ?_) (.inr hln)
          refine wpAny_mono ((hsu a oe4 cls d (X.pn ++ pins) hz4 ⟨_, hd4⟩).run [] s5 _ H' _ S5 (hyes rfl a na)) (fun f s6 hsp => ?_) (fun _ _ z => False.elim z)
          have end_ : ∀ {σ6 : L2.St} {H6 : Hp} {Q : Shared → Prop}, Inv (X.suite a ((a, oe4) :: (X.pn ++ pins))) [] σ6 H6 s6 → (∀ s7, Inv X pins (σ6.set i none) H6 s7 → Q s7) →
              wpAny (model X.prog X.w) X.A (do bindName X.env n .none; unbindBehindTheSuite X.env n pos') (fun _ s7 => Q s7) X.xe s6 := fun {σ6 H6 Q} S6 hq => gone_ok (S6.unsuite ok) hN hi hln hq
          cases f with
          | next =>
            obtain ⟨σ6, H6, S6, q6⟩ := hsp
            exact end_ S6 fun s7 J7 => ⟨_, _, J7, q6⟩
          | brk =>
            obtain ⟨σ6, H6, S6, q6⟩ := hsp
            exact end_ S6 fun s7 J7 => ⟨_, _, J7, q6⟩
          | cont =>
            obtain ⟨σ6, H6, S6, q6⟩ := hsp
            exact end_ S6 fun s7 J7 => ⟨_, _, J7, q6⟩
          | ret u =>
            obtain ⟨v6, σ6, H6, S6, r6, q6⟩ := hsp
            exact end_ S6 fun s7 J7 => ⟨_, _, _, J7, r6, q6⟩
        | false =>
          show wpAny _ X.A (handleBy (.ref a) X.env hds2) _ _ _
          exact ih (hno rfl)
    exact go hh w
  · cases f with
    | next =>
      obtain ⟨σ', H', J', q⟩ := hsp
      exact wpAny_execs_nil ⟨σ', H', J'.ofTry ok, q⟩
    | brk =>
      obtain ⟨σ', H', J', q⟩ := hsp
      exact ⟨σ', H', J'.ofTry ok, q⟩
    | cont =>
      obtain ⟨σ', H', J', q⟩ := hsp
      exact ⟨σ', H', J'.ofTry ok, q⟩
    | ret u =>
      obtain ⟨v, σ', H', J', r, q⟩ := hsp
      exact ⟨v, σ', H', J'.ofTry ok, r, q⟩
end
/-! ### calls within a try -/
section
variable {X : Cx} {CX : CXT} {k n : Nat} {ps ks : List Str} {sp : Sp} {E : L2.St → XK} {x : Str} {p pos : Pos}
  {e : Expr} {es : List Expr} {kws : List Keyword} {t tk : TA} {g : List Value → List Value → List Value} {gV : List V → List V → List V}
theorem backS {pins : List (Addr × Obj)} {σ : L2.St} {H : Hp} {s s' : Shared} {Q : VK} {E : XK} {r : Result}
    (hx : PassesAt CX X σ E) (I : Inv X pins σ H s) (hq : CR CX X.stack X.prog X.w H s Q E r s') :
    match r with
    | .ok (.ret u) => EP X pins σ Q u s'
    | .ok _ => False
    | .error e => X.xe e s' := by
  cases r with
  | error e => exact hx pins H s e s' I hq
  | ok fl =>
    cases fl with
    | ret u => exact I.after hq
    | next => exact hq
    | brk => exact hq
    | cont => exact hq
theorem enterS {f : Addr} {fd : FuncData} {pins : List (Addr × Obj)} {σ : L2.St} {H : Hp} {s : Shared} {Q : VK} {E : XK}
    {args : Args} {us : List Value} {vs : List V} (F : Fg X.prog X.w X.K X.mg X.base CX k f fd ps sp)
    (hr : Rm k X.A) (hx : PassesAt CX X σ E) (I : Inv X pins σ H s) (hb : BindsTo s fd args (ps.zip us))
    (r : Vals vs us) (h : sp vs H Q E) :
    wpAny (model X.prog X.w) X.A (call (.ref f) args.pos args.kw) (EP X pins σ Q) X.xe s := by
  refine wpAny_call (codeAny_mono (F.go X.A X.stack s H args us vs Q E hr I.env0 hb r h) ?_)
  intro r s' hq
  have z := backS hx I hq
  cases r with
  | error e => exact z
  | ok fl =>
    cases fl with
    | ret u => exact z
    | next => exact z.elim
    | brk => exact z.elim
    | cont => exact z.elim
theorem pe_calS (C : Cal X.prog X.w X.K X.mg X.base CX k x ps sp) (hr : Rm k X.A) (hx : ∀ σ, PassesAt CX X σ (E σ))
    (ha : PA X (e :: es) t) (hg : Gl X x := by rfl) (hdb : (x == ("__debug__" : Str)) = false := by decide)
    (he : starEach (e :: es) X.env = (false, eval e X.env) :: starEach es X.env := by rfl)
    (hpl : (backTo pos (starEach es X.env)).any (·.1) = false := by rfl) :
    PE X (.Call (.Name x p) (e :: es) [] pos) (tCallS sp E t) := by
  obtain ⟨f, fd, F, hm, hk, hb⟩ := C.ex
  constructor
  intro pins s σ H Q I h
  refine wpAny_Call_Name_kw (ld_glob I hg hm ?_ hdb)
  refine PySem.W.callWith_K (h₀ := X.base) I.ok.mod.kin hk (thn (ha.run pos pins s σ H _ I h) ?_) he hpl
  rintro us s1 ⟨vs, H1, I1, r, q⟩
  have q : sp vs H1 Q (E σ) := q
  have l : (us ++ []).length = ps.length := by
    rw [List.append_nil, ← r.length]
    exact F.cnt _ _ _ _ q
  have b := hb s1 us I1.kIn l
  rw [List.append_nil] at b
  exact ⟨I1.kIn, enterS (args := ⟨us, []⟩) F hr (hx σ) I1 b r q⟩
def tCallSN (n m : Nat) (sp : Sp) (gV : List V → List V → List V) (E : L2.St → XK) (tk : TA) : TE := fun σ H Q => tk σ H fun zs H2 => zs.length = m ∧ sp (gV [] zs) H2 Q (E σ)
theorem pe_calkS (C : CalK X.prog X.w X.K X.mg X.base CX k x ps 0 ks g gV sp) (hr : Rm k X.A) (hx : ∀ σ, PassesAt CX X σ (E σ))
    (hkw : PK X kws tk) (hg : Gl X x := by rfl)
    (hall : (backToKw pos (keywordEach kws X.env)).all (·.1.isSome) = true := by rfl)
    (hks : (backToKw pos (keywordEach kws X.env)).filterMap (·.1) = ks := by rfl)
    (hdb : (x == ("__debug__" : Str)) = false := by decide)
    (hpl : ((backTo pos (starEach [] X.env)).any (·.1) || (backToKw pos (keywordEach kws X.env)).any (·.1.isNone)) = false := by rfl) :
    PE X (.Call (.Name x p) [] kws pos) (tCallSN 0 ks.length sp gV E tk) := by
  obtain ⟨f, fd, F, hm, hk, hb⟩ := C.ex
  constructor
  intro pins s σ H Q I h
  refine wpAny_Call_Name_kw (ld_glob I hg hm ?_ hdb)
  have h : tk σ H fun zs H2 => zs.length = ks.length ∧ sp (gV [] zs) H2 Q (E σ) := h
  refine PySem.W.callWith_KW0 (h₀ := X.base) I.ok.mod.kin hk hall (thn (hkw.run pos pins s σ H _ I h) ?_) hpl
  rintro ws s2 ⟨zs, H2, I2, rz, l2, q2⟩
  refine ⟨I2.kIn, ?_⟩
  rw [hks]
  exact enterS (args := ⟨[], ks.zip ws⟩) F hr (hx σ) I2
    (hb.to s2 [] ws I2.kIn rfl (rz.length.symm.trans l2)) (hb.rel .nil rz) q2
end
/-! ### errors that carry one value -/
/-- the __init__ of a class statement -/
def initOf : Stmt → Stmt
  | .ClassDef (body := b) .. => b.headD (.Pass ⟨0, 0, 0, 0⟩)
  | s => s
/-- the class x at C, its __init__ at fI, its value's name g -/
structure ErrC (K : PySem.W.Frag) (mg : Str → Option Value) (x g : Str) (C fI : Addr) : Prop where
  oex : OexC K C
  gC : mg x = some (.ref C)
  iC : PySem.W.findIn K (.ref C) "__init__" = some (some (.ref fI))
  tI : PySem.W.typeIn K (.ref fI) = some (.type "function")
  noG : PySem.W.findIn K (.ref C) g = some none
  xf : XfC K C
/-- what __init__ does -/
def spInit (K : PySem.W.Frag) (g : Str) : Sp := fun vs H Q _ => ∃ (a C : Addr) (y : V), vs = [.ref a, y] ∧ OexC K C ∧ PySem.W.findIn K (.ref C) g = some none ∧ H a = some (exo a C none) ∧
  ∀ dx, H dx = none → dx ≠ a → Q .non (upd (upd H dx (exd dx [(g, y)])) a (exo a C (some dx)))
/-- the reading of C(y), at its end -/
theorem made {K : PySem.W.Frag} {g : Str} {C : Addr} {y : V} {H1 : Hp} {Q : XK} (T : OexC K C) (hn : PySem.W.findIn K (.ref C) g = some none) (q : ∀ d, H1 d = none → Q (.ref C) (some d) (upd H1 d (.xd [(g, y)]))) :
    [y].length ≤ 1000 ∧ ∀ a, H1 a = none → spInit K g (.ref a :: ([y] ++ [])) (upd H1 a (exo a C none))
      (fun v H2 => v = .non ∧ ∃ (d : Addr) (fs : List (Str × V)), H2 a = some (exo a C (some d)) ∧ H2 d = some (exd d fs) ∧ H1 d = none ∧ Q (.ref C) (some d) (upd (del H2 a) d (.xd fs))) (fun _ _ _ => False) := by
  refine ⟨by simp, fun a na => ⟨a, C, y, rfl, T, hn, upd_same, fun dx nd ne => ⟨rfl, dx, [(g, y)], upd_same, ?_, ?_, ?_⟩⟩⟩
  · rw [upd_ne ne, upd_same]
  · rw [upd_ne ne] at nd
    exact nd
  · rw [upd_ne ne] at nd
    have e : upd (del (upd (upd (upd H1 a (exo a C none)) dx (exd dx [(g, y)])) a (exo a C (some dx))) a) dx (.xd [(g, y)]) = upd H1 dx (.xd [(g, y)]) := by
      funext b
      by_cases hb : b = dx
      · subst hb
        rw [upd_same, upd_same]
      · rw [upd_ne hb, upd_ne hb]
        by_cases ha : b = a
        · subst ha
          rw [del_same, na]
        · rw [del_ne ha, upd_ne ha, upd_ne hb, upd_ne ha]
    rw [e]
    exact q dx nd
end VB
/-! methods and makings, of defs told as Fg -/
namespace VB
open PySem PySem.Spec PyProof.Rows L2
theorem Rm.make {k : Nat} {A : Around} (r : Rm (k + 1) A) (C : Addr) (us : List Value) (kw : List (Str × Value)) : Rm k (A.under (.builtin "type.__call__" ⟨.ref C :: us, kw⟩)) :=
  ⟨r.rm.make C us kw, r.gd⟩
section
variable (P : Program) (w : World) (K : PySem.W.Frag) (mg : Str → Option Value) (base : Heap) (CX : CXT) (k : Nat)
/-- a method of the class at C -/
structure CalM (C : Addr) (m : Str) (ps : List Str) (sp : Sp) : Prop where
  ex : ∃ (f : Addr) (fd : FuncData), Fg P w K mg base CX k f fd ps sp ∧ Cls K C ∧ Meth K C m f ∧ Binds K fd ps []
/-- .. called with keywords -/
structure CalMK (C : Addr) (m : Str) (ps : List Str) (n : Nat) (ks : List Str) (g : List Value → List Value → List Value) (gV : List V → List V → List V) (sp : Sp) : Prop where
  ex : ∃ (f : Addr) (fd : FuncData), Fg P w K mg base CX k f fd ps sp ∧ Cls K C ∧ Meth K C m f ∧ KBn K fd ps n ks g gV
/-- the class x, made -/
structure Mak (x : Str) (C : Addr) (ps : List Str) (sp : Sp) : Prop where
  ex : ∃ (f : Addr) (fd : FuncData), Fg P w K mg base CX k f fd ps sp ∧ Mk K C f ∧ mg x = some (.ref C) ∧ Binds K fd ps []
structure MakK (x : Str) (C : Addr) (ps : List Str) (n : Nat) (ks : List Str) (g : List Value → List Value → List Value) (gV : List V → List V → List V) (sp : Sp) : Prop where
  ex : ∃ (f : Addr) (fd : FuncData), Fg P w K mg base CX k f fd ps sp ∧ Mk K C f ∧ mg x = some (.ref C) ∧ KBn K fd ps n ks g gV
end
section
variable {X : Cx} {CX : CXT} {k n : Nat} {ps ks : List Str} {sp : Sp} {E : XK} {x m : Str} {p pos apos : Pos} {C : Addr}
  {e o : Expr} {es : List Expr} {kws : List Keyword} {t tk : TA} {ta : TE}
  {g : List Value → List Value → List Value} {gV : List V → List V → List V}
/-- what a call of a method is, step by step -/
abbrev askM (X : Cx) (o : Expr) (m : Str) (pl : Sem Bool) (apos pos : Pos) (zs : List Expr) : Sem Value := do let u ← eval o X.env; standAt apos.atName; let (g, as) ← holding [u] (getMethod u m pl); callWith pos g as (backTo pos (starEach zs X.env)) (backToKw pos (keywordEach [] X.env))
theorem pe_calM {pl : Sem Bool} (M : CalM X.prog X.w X.K X.mg X.base CX k C m ps sp) (hr : Rm k X.A) (hx : Passes CX X E) (he : PE X o ta) (ha : PA X (e :: es) t)
    (hst : starEach (e :: es) X.env = (false, eval e X.env) :: starEach es X.env := by rfl) (hpl : (backTo pos (starEach es X.env)).any (·.1) = false := by rfl)
    (ht : eval (.Call (.Attribute o m apos) (e :: es) [] pos) X.env = askM X o m pl apos pos (e :: es) := by rfl) :
    PE X (.Call (.Attribute o m apos) (e :: es) [] pos) (tMeth C m sp [] E ta t) := by
  obtain ⟨f, fd, F, c, hm, hb⟩ := M.ex
  constructor
  intro pins s σ H Q I h
  refine PySem.W.methodCall_KW (pl := pl) (thn (he.run pins s σ H _ I h) ?_) ht
  rintro u s1 ⟨x, H1, I1, rx, a, dx, fs, rfl, ea, l, q⟩
  obtain rfl : u = Value.ref a := rx
  refine getmeth_ok I1 ea c hm l ?_
  refine PySem.W.callWith_K (first := [.ref a]) (h₀ := X.base) I.ok.mod.kin hm.kp (thn (ha.run pos pins s1 σ H1 _ I1 q) ?_) hst hpl
  rintro us s2 ⟨vs, H2, I2, r, q2⟩
  have q3 : sp (.ref a :: (vs ++ [])) H2 Q E := q2
  rw [List.append_nil] at q3
  have r2 : Vals (V.ref a :: vs) (Value.ref a :: us) := .cons rfl r
  have b := hb s2 (.ref a :: us) I2.kIn (by rw [List.append_nil, ← r2.length]; exact F.cnt _ _ _ _ q3)
  rw [List.append_nil] at b
  exact ⟨I2.kIn, enter (args := ⟨.ref a :: us, []⟩) F hr hx I2 b r2 q3⟩
theorem pe_calM0 {pl : Sem Bool} (M : CalM X.prog X.w X.K X.mg X.base CX k C m ps sp) (hr : Rm k X.A) (hx : Passes CX X E) (he : PE X o ta)
    (ht : eval (.Call (.Attribute o m apos) [] [] pos) X.env = askM X o m pl apos pos [] := by rfl) :
    PE X (.Call (.Attribute o m apos) [] [] pos) (tMeth C m sp [] E ta tNil) := by
  obtain ⟨f, fd, F, c, hm, hb⟩ := M.ex
  constructor
  intro pins s σ H Q I h
  refine PySem.W.methodCall_KW (pl := pl) (thn (he.run pins s σ H _ I h) ?_) ht
  rintro u s1 ⟨x, H1, I1, rx, a, dx, fs, rfl, ea, l, q⟩
  obtain rfl : u = Value.ref a := rx
  refine getmeth_ok I1 ea c hm l ?_
  have q3 : sp [.ref a] H1 Q E := q
  have b := hb s1 [.ref a] I1.kIn (F.cnt _ _ _ _ q3)
  exact PySem.W.callWith_K0 (first := [.ref a]) I1.kIn hm.kp (enter (args := ⟨[.ref a], []⟩) F hr hx I1 b (show Vals [V.ref a] [Value.ref a] from .cons rfl .nil) q3)
theorem run_mak {f : Addr} {fd : FuncData} {pins : List (Addr × Obj)} {σ : L2.St} {H : Hp} {s : Shared} {Q : VK} {us : List Value} {kw : List (Str × Value)} {zs : List Value} {vs : List V} (M : Mk X.K C f) (F : Fg X.prog X.w X.K X.mg X.base CX k f fd ps sp) (hr : Rm (k + 1) X.A)
    (hx : Passes CX X E) (I : Inv X pins σ H s)
    (h : ∀ x dx, H x = none → H dx = none → dx ≠ x → sp (.ref x :: vs) (upd (upd H dx (.own x)) x (.ins C dx [])) (fun v H2 => v = .non ∧ Q (.ref x) H2) E)
    (hb : ∀ (s2 : Shared), X.K.In s2.heap → BindsTo s2 fd ⟨.ref (s.heap.objs.size + 1) :: us, kw⟩ (ps.zip (.ref (s.heap.objs.size + 1) :: zs))) (r : Vals vs zs) :
    wpAny (model X.prog X.w) X.A (call (.ref C) us kw) (EP X pins σ Q) X.xe s := by
  have hq := h (s.heap.objs.size + 1) s.heap.objs.size (I.hok.fresh (Nat.le_succ _)) (I.hok.fresh (Nat.le_refl _)) (Nat.ne_of_lt (Nat.lt_succ_self _))
  have I2 := Inv.made (C := C) I
  refine wpAny_call (make_map (f := f) I.kIn M.makes M.init (beq_iff_eq.mp M.fn) (codeAny_mono (F.go _ X.stack _ _ ⟨.ref (s.heap.objs.size + 1) :: us, kw⟩ (.ref (s.heap.objs.size + 1) :: zs) _ _ E (hr.make C us kw)
    (I2.env0.make C us kw) (hb _ I2.kIn) (show Vals (V.ref (s.heap.objs.size + 1) :: vs) (Value.ref (s.heap.objs.size + 1) :: zs) from .cons rfl r) hq) ?_))
  intro r' s' hq'
  cases r' with
  | error e => exact hx pins σ _ _ e s' I2 hq'
  | ok fl =>
    cases fl with
    | ret u =>
      obtain ⟨v, H', I3, rv, ev, q3⟩ := I2.after hq'
      subst ev
      exact ⟨rv, ⟨V.ref (s.heap.objs.size + 1), H', I3, rfl, q3⟩⟩
    | next => exact False.elim hq'
    | brk => exact False.elim hq'
    | cont => exact False.elim hq'
theorem pe_mak (M : Mak X.prog X.w X.K X.mg X.base CX k x C ps sp) (hr : Rm (k + 1) X.A) (hx : Passes CX X E) (ha : PA X (e :: es) t) (hg : Gl X x := by rfl) (hdb : (x == ("__debug__" : Str)) = false := by decide)
    (he : starEach (e :: es) X.env = (false, eval e X.env) :: starEach es X.env := by rfl) (hpl : (backTo pos (starEach es X.env)).any (·.1) = false := by rfl) :
    PE X (.Call (.Name x p) (e :: es) [] pos) (tMake C sp [] E t) := by
  obtain ⟨f, fd, F, mk, hm, hb⟩ := M.ex
  constructor
  intro pins s σ H Q I h
  refine wpAny_Call_Name_kw (ld_glob I hg hm ?_ hdb)
  refine PySem.W.callWith_K (h₀ := X.base) I.ok.mod.kin mk.kp (thn (ha.run pos pins s σ H _ I h) ?_) he hpl
  rintro us s1 ⟨vs, H1, I1, r, q⟩
  refine ⟨I1.kIn, run_mak (vs := vs) (zs := us) mk F hr hx I1 (fun x dx a b c => ?_) (fun s2 k2 => ?_) r⟩
  · have z := q x dx a b c
    rw [List.append_nil] at z
    exact z
  · have q0 := q (s1.heap.objs.size + 1) s1.heap.objs.size (I1.hok.fresh (Nat.le_succ _)) (I1.hok.fresh (Nat.le_refl _)) (Nat.ne_of_lt (Nat.lt_succ_self _))
    have l := F.cnt _ _ _ _ q0
    have b := hb s2 (.ref (s1.heap.objs.size + 1) :: us) k2 (by rw [List.append_nil, ← l, List.append_nil, List.length_cons, List.length_cons, r.length])
    rw [List.append_nil] at b
    exact b
/-- +: ints, lists, and tuples of any length -/
def rAddA (K : PySem.W.Frag) : R2 := fun x y H Q => rAddU K x y H Q ∨ rCatA K x y H Q
theorem u_addA {K : PySem.W.Frag} (hK : X.K = K := by rfl) : OpR X (binaryOp .Add) (rAddA K) := by
  subst hK
  exact (u_add rfl).or op_catA
/-- an item of a list, at a place from the front -/
def rGetL (K : PySem.W.Frag) : R2 := fun x y H Q => ∃ p xs i z, x = .ref p ∧ y = .int (i : Nat) ∧ SqL K H p xs ∧ xs[i]? = some z ∧ i < 1000000 ∧ Q z H
theorem get_list {K : PySem.W.Frag} (hK : X.K = K := by rfl) : PGet X (rGetL K) := by
  subst hK
  intro pins s σ H x y v u Q I rx ry h
  obtain ⟨p, xs, i, z, rfl, rfl, hq, he, hi, q⟩ := h
  cases rx
  obtain ⟨t, rfl⟩ := ry
  obtain ⟨its, r, pl, hz⟩ := I.list hq
  obtain ⟨w, ew, rw'⟩ := r.get he
  exact wpAny_getItem_list pl.isList (by omega) (by omega) (by simpa using ew) ⟨z, H, I, rw', q⟩
theorem pe_fldU {K : PySem.W.Frag} {f : Str} (he : PE X e ta) (hb : attributeBase e f X.env (eval e X.env) = eval e X.env) (hK : X.K = K := by rfl) : PE X (.Attribute e f pos) (tFld K ta f) := by
  subst hK
  exact pe_fld he hb
theorem ps_fldU {K : PySem.W.Frag} {value : Expr} {tv : TE} {f : Str} {pos' : Pos} (ha : PE X o ta) (hv : PE X value tv) (hs : swapsWith value (some (.Attribute o f pos')) pos.line X.env = pure false) (hK : X.K = K := by rfl) : PS X (.Assign [.Attribute o f pos'] value pos) (sFld K ta tv f) := by
  subst hK
  exact ps_fld ha hv hs
theorem ps_fldaugU {K : PySem.W.Frag} {value : Expr} {tv : TE} {f : Str} {tpos : Pos} {op : Operator} {rd : V → V → Hp → VK → Prop} (ha : PE X o ta) (hv : PE X value tv) (hop : InOp X op rd) (hK : X.K = K := by rfl) : PS X (.AugAssign (.Attribute o f tpos) op value pos) (sFldAug K ta tv rd f) := by
  subst hK
  exact ps_fldaug ha hv hop
theorem pe_dpop2U {f : Expr} {cpos : Pos} {td ty tx : TE} (ho : PE X o td) (he : PE X e ty) (hf : PE X f tx) (h1 : attributeBase o "pop" X.env (eval o X.env) = eval o X.env := by rfl)
    (h2 : ((backTo cpos (starEach [e, f] X.env)).all (fun x => !x.1) && (backToKw cpos (keywordEach [] X.env)).all (fun x => x.1.isSome)
      && decide (([e, f] : List Expr).length + ([] : List Keyword).length + (if ([] : List Keyword).isEmpty then 0 else 1) < 30)) = true := by rfl)
    (h3 : (apos.endLine == cpos.line) = true := by rfl) (h4 : backTo cpos (starEach [e, f] X.env) = [(false, eval e X.env), (false, eval f X.env)] := by rfl) :
    PE X (.Call (.Attribute o "pop" apos) [e, f] [] cpos) (tDPop2 td ty tx) := pe_dpop2 ho he hf ⟨h1, h2, h3, h4⟩
end
end VB
/-! repr of data, of truths and of ints -/
namespace VB
open PySem PySem.Spec PyProof.Rows L2
section
variable {X : Cx}
theorem call_repr_bl : CallR X (.builtin "repr") (fun xs H Q => ∃ b : Bool, xs = [.bl b] ∧ Q (.str (if b then "True" else "False")) H) := by
  intro pins s σ H xs us Q I r h
  obtain ⟨b, rfl, q⟩ := h
  obtain ⟨u, rfl, ru⟩ := vals1 r
  cases (show u = Value.bool b from ru)
  exact PySem.P.repr_of_bool ⟨.str _, H, I.tok _, ⟨_, rfl⟩, q⟩
end
def rReprU (K : PySem.W.Frag) : List V → Hp → VK → Prop := fun xs H Q => rRepr K xs H Q ∨ ((∃ i, xs = [.int i] ∧ i.natAbs.log2 < 1920 ∧ Q (.str (toString i)) H) ∨ ∃ b : Bool, xs = [.bl b] ∧ Q (.str (if b then "True" else "False")) H)
section
variable {X : Cx} {K : PySem.W.Frag} {H : Hp} {Q : VK}
theorem u_reprU {k : Nat} (hr : Rm k X.A) (hK : X.K = K := by rfl) : CallR X (.builtin "repr") (rReprU K) := by
  subst hK
  exact (call_repr hr).or (CallR.or (SkE.call_repr_int (X := X)) (call_repr_bl (X := X)))
theorem rp_bl (b : Bool) (q : Q (.str (if b then "True" else "False")) H) : rReprU K [.bl b] H Q := .inr (.inr ⟨b, rfl, q⟩)
theorem rp_int {i : Int} (h : i.natAbs.log2 < 1920) (q : Q (.str (toString i)) H) : rReprU K [.int i] H Q := .inr (.inl ⟨i, rfl, h, q⟩)
end
end VB
/-! raising an error that carries one value -/
namespace VB
open PySem PySem.Spec PyProof.Rows L2
/-- the class x at C with the value's name g, and its __init__ -/
structure MkE (P : Program) (w : World) (K : PySem.W.Frag) (mg : Str → Option Value) (base : Heap) (x g : Str) (C fI : Addr) : Prop where
  err : ErrC K mg x g C fI
  ini : ∃ fd, FnOk P w K mg base CX0 1 fI fd ["self", g] (spInit K g) ∧ Binds K fd ["self", g] []
section
variable {X : Cx} {x g : Str} {C fI : Addr} {p pos : Pos} {e : Expr} {ta : TA}
theorem pmk_err {k : Nat} (M : MkE X.prog X.w X.K X.mg X.base x g C fI) (hr : Rm k X.A) (ha : PA X [e] ta) (hk : 2 ≤ k := by omega) (hg : Gl X x := by rfl) (hdb : (x == ("__debug__" : Str)) = false := by decide)
    (he : starEach [e] X.env = (false, eval e X.env) :: starEach [] X.env := by rfl) (hpl : (backTo pos (starEach [] X.env)).any (·.1) = false := by rfl) :
    PMk X (.Call (.Name x p) [e] [] pos) (tMkO C (spInit X.K g) [] ta) := by
  obtain ⟨fd, F, b⟩ := M.ini
  exact pmk_oex M.err.oex M.err.iC M.err.tI F (hr.rm.mono hk) b .nil pass0 hg M.err.gC ha hdb he hpl
theorem ps_raiseE {k : Nat} {W : WX} (M : MkE X.prog X.w X.K X.mg X.base x g C fI) (hr : Rm k X.A) (tk : Takes X W) (hc : X.calm = true) (ha : PA X [e] ta) {pos' : Pos} (hk : 2 ≤ k := by omega) (hg : Gl X x := by rfl) (hdb : (x == ("__debug__" : Str)) = false := by decide)
    (he : starEach [e] X.env = (false, eval e X.env) :: starEach [] X.env := by rfl) (hpl : (backTo pos (starEach [] X.env)).any (·.1) = false := by rfl) :
    PS X (.Raise (some (.Call (.Name x p) [e] [] pos)) none pos') (fun _ σ H => tMkO C (spInit X.K g) [] ta σ H fun cls d H' => W cls d σ H') :=
  ps_raise hc tk (pmk_err M hr ha hk hg hdb he hpl)
end
end VB
/-! methods called within a try -/
namespace VB
open PySem PySem.Spec PyProof.Rows L2
def tMethS (C : Addr) (m : Str) (sp : Sp) (E : L2.St → XK) (ta : TE) (t : TA) : TE := fun σ H Q => tMeth C m sp [] (E σ) ta t σ H Q
section
variable {X : Cx} {CX : CXT} {k n : Nat} {ps ks : List Str} {sp : Sp} {E : L2.St → XK} {x m : Str} {p pos apos : Pos} {C : Addr} {e o : Expr} {es : List Expr} {t tk : TA} {ta : TE}
theorem pe_calMS {pl : Sem Bool} (M : CalM X.prog X.w X.K X.mg X.base CX k C m ps sp) (hr : Rm k X.A) (hx : ∀ σ, PassesAt CX X σ (E σ)) (he : PE X o ta) (ha : PA X (e :: es) t)
    (hst : starEach (e :: es) X.env = (false, eval e X.env) :: starEach es X.env := by rfl) (hpl : (backTo pos (starEach es X.env)).any (·.1) = false := by rfl)
    (ht : eval (.Call (.Attribute o m apos) (e :: es) [] pos) X.env = askM X o m pl apos pos (e :: es) := by rfl) :
    PE X (.Call (.Attribute o m apos) (e :: es) [] pos) (tMethS C m sp E ta t) := by
  obtain ⟨f, fd, F, c, hm, hb⟩ := M.ex
  constructor
  intro pins s σ H Q I h
  refine PySem.W.methodCall_KW (pl := pl) (thn (he.run pins s σ H _ I h) ?_) ht
  rintro u s1 ⟨x, H1, I1, rx, a, dx, fs, rfl, ea, l, q⟩
  obtain rfl : u = Value.ref a := rx
  refine getmeth_ok I1 ea c hm l ?_
  refine PySem.W.callWith_K (first := [.ref a]) (h₀ := X.base) I.ok.mod.kin hm.kp (thn (ha.run pos pins s1 σ H1 _ I1 q) ?_) hst hpl
  rintro us s2 ⟨vs, H2, I2, r, q2⟩
  have q3 : sp (.ref a :: (vs ++ [])) H2 Q (E σ) := q2
  rw [List.append_nil] at q3
  have r2 : Vals (V.ref a :: vs) (Value.ref a :: us) := .cons rfl r
  have b := hb s2 (.ref a :: us) I2.kIn (by rw [List.append_nil, ← r2.length]; exact F.cnt _ _ _ _ q3)
  rw [List.append_nil] at b
  exact ⟨I2.kIn, enterS (args := ⟨.ref a :: us, []⟩) F hr (hx σ) I2 b r2 q3⟩
theorem takes_no : Takes X (fun _ _ _ _ => False) := fun _ _ ⟨_, _, _, _, _, _, _, _, _, _, _, _, _, _, _, _, w⟩ => w.elim
theorem op_isT : OpR X (compareOp .Is) (fun x y H Q => ∃ b : Bool, y = .bl b ∧ (x = .non ∨ ∃ a, x = .bl a) ∧ Q (.bl (decide (x = .bl b))) H) := by
  intro pins s σ H x y v u Q I rx ry h
  obtain ⟨b, rfl, hx, q⟩ := h
  cases (show u = Value.bool b from ry)
  rcases hx with rfl | ⟨a, rfl⟩
  · cases (show v = Value.none from rx)
    exact wpAny_is_other rfl (fun z => by cases z) ⟨.bl false, H, I, rfl, by simpa using q⟩
  · cases (show v = Value.bool a from rx)
    by_cases e : a = b
    · subst e
      exact wpAny_is_self rfl ⟨.bl true, H, I, rfl, by simpa using q⟩
    · exact wpAny_is_other rfl (fun z => e (Value.bool.inj z)) ⟨.bl false, H, I, rfl, by simpa [e] using q⟩
end
end VB
/-! methods with keywords within a try, makings within a try, makings with keywords -/
namespace VB
open PySem PySem.Spec PyProof.Rows L2
def tMethKS (C : Addr) (m : Str) (sp : Sp) (n : Nat) (gV : List V → List V → List V) (E : L2.St → XK) (ta : TE) (tk : TA) : TE := fun σ H Q => ta σ H fun x H1 => ∃ a dx fs, x = .ref a ∧ H1 a = some (.ins C dx fs) ∧ fs.lookup m = none ∧
  tk σ H1 fun zs H2 => zs.length = n ∧ sp (gV [.ref a] zs) H2 Q (E σ)
def tMakeS (C : Addr) (sp : Sp) (E : L2.St → XK) (t : TA) : TE := fun σ H Q => tMake C sp [] (E σ) t σ H Q
section
variable {X : Cx} {CX : CXT} {k n : Nat} {ps ks : List Str} {sp : Sp} {x m : Str} {p pos apos : Pos} {C : Addr} {e o : Expr} {es : List Expr} {kws : List Keyword} {t tk : TA} {ta : TE}
  {g : List Value → List Value → List Value} {gV : List V → List V → List V}
abbrev askMK (X : Cx) (o : Expr) (m : Str) (pl : Sem Bool) (apos pos : Pos) (kws : List Keyword) : Sem Value := do let u ← eval o X.env; standAt apos.atName; let (g, as) ← holding [u] (getMethod u m pl); callWith pos g as (backTo pos (starEach [] X.env)) (backToKw pos (keywordEach kws X.env))
theorem pe_calMkS {E : L2.St → XK} {pl : Sem Bool} (M : CalMK X.prog X.w X.K X.mg X.base CX k C m ps 1 ks g gV sp) (hr : Rm k X.A) (hx : ∀ σ, PassesAt CX X σ (E σ)) (he : PE X o ta) (hkw : PK X kws tk)
    (hall : (backToKw pos (keywordEach kws X.env)).all (·.1.isSome) = true := by rfl)
    (hks : (backToKw pos (keywordEach kws X.env)).filterMap (·.1) = ks := by rfl)
    (hpl : ((backTo pos (starEach [] X.env)).any (·.1) || (backToKw pos (keywordEach kws X.env)).any (·.1.isNone)) = false := by rfl)
    (ht : eval (.Call (.Attribute o m apos) [] kws pos) X.env = askMK X o m pl apos pos kws := by rfl) :
    PE X (.Call (.Attribute o m apos) [] kws pos) (tMethKS C m sp ks.length gV E ta tk) := by
  obtain ⟨f, fd, F, c, hm, hb⟩ := M.ex
  constructor
  intro pins s σ H Q I h
  refine PySem.W.methodCall_KW (pl := pl) (thn (he.run pins s σ H _ I h) ?_) ht
  rintro u s1 ⟨x, H1, I1, rx, a, dx, fs, rfl, ea, l, q⟩
  obtain rfl : u = Value.ref a := rx
  refine getmeth_ok I1 ea c hm l ?_
  refine PySem.W.callWith_KW0 (first := [.ref a]) (h₀ := X.base) I.ok.mod.kin hm.kp hall (thn (hkw.run pos pins s1 σ H1 _ I1 q) ?_) hpl
  rintro ws s2 ⟨zs, H2, I2, rz, l2, q2⟩
  refine ⟨I2.kIn, ?_⟩
  rw [hks]
  have r1 : Vals [V.ref a] [Value.ref a] := .cons rfl .nil
  exact enterS (args := ⟨[.ref a], ks.zip ws⟩) F hr (hx σ) I2 (hb.to s2 [.ref a] ws I2.kIn rfl (rz.length.symm.trans l2)) (hb.rel r1 rz) q2
theorem run_makS {E : XK} {f : Addr} {fd : FuncData} {pins : List (Addr × Obj)} {σ : L2.St} {H : Hp} {s : Shared} {Q : VK} {us : List Value} {kw : List (Str × Value)} {zs : List Value} {vs : List V} (M : Mk X.K C f) (F : Fg X.prog X.w X.K X.mg X.base CX k f fd ps sp) (hr : Rm (k + 1) X.A)
    (hx : PassesAt CX X σ E) (I : Inv X pins σ H s)
    (h : ∀ x dx, H x = none → H dx = none → dx ≠ x → sp (.ref x :: vs) (upd (upd H dx (.own x)) x (.ins C dx [])) (fun v H2 => v = .non ∧ Q (.ref x) H2) E)
    (hb : ∀ (s2 : Shared), X.K.In s2.heap → BindsTo s2 fd ⟨.ref (s.heap.objs.size + 1) :: us, kw⟩ (ps.zip (.ref (s.heap.objs.size + 1) :: zs))) (r : Vals vs zs) :
    wpAny (model X.prog X.w) X.A (call (.ref C) us kw) (EP X pins σ Q) X.xe s := by
  have hq := h (s.heap.objs.size + 1) s.heap.objs.size (I.hok.fresh (Nat.le_succ _)) (I.hok.fresh (Nat.le_refl _)) (Nat.ne_of_lt (Nat.lt_succ_self _))
  have I2 := Inv.made (C := C) I
  refine wpAny_call (make_map (f := f) I.kIn M.makes M.init (beq_iff_eq.mp M.fn) (codeAny_mono (F.go _ X.stack _ _ ⟨.ref (s.heap.objs.size + 1) :: us, kw⟩ (.ref (s.heap.objs.size + 1) :: zs) _ _ E (hr.make C us kw)
    (I2.env0.make C us kw) (hb _ I2.kIn) (show Vals (V.ref (s.heap.objs.size + 1) :: vs) (Value.ref (s.heap.objs.size + 1) :: zs) from .cons rfl r) hq) ?_))
  intro r' s' hq'
  cases r' with
  | error e => exact hx pins _ _ e s' I2 hq'
  | ok fl =>
    cases fl with
    | ret u =>
      obtain ⟨v, H', I3, rv, ev, q3⟩ := I2.after hq'
      subst ev
      exact ⟨rv, ⟨V.ref (s.heap.objs.size + 1), H', I3, rfl, q3⟩⟩
    | next => exact False.elim hq'
    | brk => exact False.elim hq'
    | cont => exact False.elim hq'
theorem pe_makS {E : L2.St → XK} (M : Mak X.prog X.w X.K X.mg X.base CX k x C ps sp) (hr : Rm (k + 1) X.A) (hx : ∀ σ, PassesAt CX X σ (E σ)) (ha : PA X (e :: es) t) (hg : Gl X x := by rfl) (hdb : (x == ("__debug__" : Str)) = false := by decide)
    (he : starEach (e :: es) X.env = (false, eval e X.env) :: starEach es X.env := by rfl) (hpl : (backTo pos (starEach es X.env)).any (·.1) = false := by rfl) :
    PE X (.Call (.Name x p) (e :: es) [] pos) (tMakeS C sp E t) := by
  obtain ⟨f, fd, F, mk, hm, hb⟩ := M.ex
  constructor
  intro pins s σ H Q I h
  refine wpAny_Call_Name_kw (ld_glob I hg hm ?_ hdb)
  refine PySem.W.callWith_K (h₀ := X.base) I.ok.mod.kin mk.kp (thn (ha.run pos pins s σ H _ I h) ?_) he hpl
  rintro us s1 ⟨vs, H1, I1, r, q⟩
  refine ⟨I1.kIn, run_makS (vs := vs) (zs := us) mk F hr (hx σ) I1 (fun x dx a b c => ?_) (fun s2 k2 => ?_) r⟩
  · have z := q x dx a b c
    rw [List.append_nil] at z
    exact z
  · have q0 := q (s1.heap.objs.size + 1) s1.heap.objs.size (I1.hok.fresh (Nat.le_succ _)) (I1.hok.fresh (Nat.le_refl _)) (Nat.ne_of_lt (Nat.lt_succ_self _))
    have l := F.cnt _ _ _ _ q0
    have b := hb s2 (.ref (s1.heap.objs.size + 1) :: us) k2 (by rw [List.append_nil, ← l, List.append_nil, List.length_cons, List.length_cons, r.length])
    rw [List.append_nil] at b
    exact b
def tMakK (C : Addr) (sp : Sp) (n : Nat) (gV : List V → List V → List V) (E : XK) (tk : TA) : TE := fun σ H Q => tk σ H fun zs H2 => zs.length = n ∧ ∀ x dx, H2 x = none → H2 dx = none → dx ≠ x → sp (gV [.ref x] zs) (upd (upd H2 dx (.own x)) x (.ins C dx [])) (fun v H3 => v = .non ∧ Q (.ref x) H3) E
/-- C(k = v, ..) -/
theorem pe_makK {E : XK} (M : MakK X.prog X.w X.K X.mg X.base CX k x C ps 1 ks g gV sp) (hr : Rm (k + 1) X.A) (hx : Passes CX X E) (hkw : PK X kws tk) (hg : Gl X x := by rfl)
    (hall : (backToKw pos (keywordEach kws X.env)).all (·.1.isSome) = true := by rfl) (hks : (backToKw pos (keywordEach kws X.env)).filterMap (·.1) = ks := by rfl) (hdb : (x == ("__debug__" : Str)) = false := by decide)
    (hpl : ((backTo pos (starEach [] X.env)).any (·.1) || (backToKw pos (keywordEach kws X.env)).any (·.1.isNone)) = false := by rfl) :
    PE X (.Call (.Name x p) [] kws pos) (tMakK C sp ks.length gV E tk) := by
  obtain ⟨f, fd, F, mk, hm, hb⟩ := M.ex
  constructor
  intro pins s σ H Q I h
  refine wpAny_Call_Name_kw (ld_glob I hg hm ?_ hdb)
  refine PySem.W.callWith_KW0 (h₀ := X.base) I.ok.mod.kin mk.kp hall (thn (hkw.run pos pins s σ H _ I h) ?_) hpl
  rintro ws s2 ⟨zs, H2, I2, rz, l2, q2⟩
  refine ⟨I2.kIn, ?_⟩
  rw [hks]
  have hq := q2 (s2.heap.objs.size + 1) s2.heap.objs.size (I2.hok.fresh (Nat.le_succ _)) (I2.hok.fresh (Nat.le_refl _)) (Nat.ne_of_lt (Nat.lt_succ_self _))
  have I3 := Inv.made (C := C) I2
  have r1 : Vals [V.ref (s2.heap.objs.size + 1)] [Value.ref (s2.heap.objs.size + 1)] := .cons rfl .nil
  have r2 := hb.rel r1 rz
  refine wpAny_call (make_map (f := f) I2.kIn mk.makes mk.init (beq_iff_eq.mp mk.fn) (codeAny_mono (F.go _ X.stack _ _ ⟨[Value.ref (s2.heap.objs.size + 1)], ks.zip ws⟩ (g [Value.ref (s2.heap.objs.size + 1)] ws) _ _ E (hr.make C [] (ks.zip ws))
    (I3.env0.make C [] (ks.zip ws)) (hb.to _ [Value.ref (s2.heap.objs.size + 1)] ws I3.kIn rfl (rz.length.symm.trans l2)) r2 hq) fun r s' hq' => ?_))
  cases r with
  | error e => exact hx pins σ _ _ e s' I3 hq'
  | ok fl =>
    cases fl with
    | ret u =>
      obtain ⟨v, H', I4, rv, ev, q3⟩ := I3.after hq'
      subst ev
      exact ⟨rv, ⟨V.ref (s2.heap.objs.size + 1), H', I4, rfl, q3⟩⟩
    | next => exact False.elim hq'
    | brk => exact False.elim hq'
    | cont => exact False.elim hq'
end
end VB
/-! a list, longer by a tuple's items -/
namespace VB
open PySem PySem.Spec PyProof.Rows L2
theorem list_extend_tup (l : Addr) (items : Array Value) (n : Nat) (b : Addr) (items2 : Array Value) (n2 : Nat) (dd : Option Addr) (sl : Array (Option Value)) (hs0 : ¬(!items.isEmpty && Builtin.List.listTooLong (items.size + items2.size)) = true) (hs1 : items.size ≤ sizeLine) (hs2 : items.size + items2.size ≤ sizeLine + 1) :
    Meets (Builtin.«list.extend» ⟨[.ref l, .ref b], []⟩) (fun _ R s => s.heap.get? l = some { cls := .type "list", dict := none, data := .seq items n, slots := #[] } ∧ s.heap.get? b = some { cls := .type "tuple", dict := dd, data := .seq items2 n2, slots := sl } ∧ R (.ok (.ret Value.none)) { s with heap := s.heap.update l (Obj.mapSeq fun x => x ++ items2), toks := s.toks }) :=
  .of_wp fun prog w A R s h => by
    obtain ⟨hp, g, d, tk, os⟩ := s; obtain ⟨hl, hb, h⟩ := h; have f1 := AutoSeq1.idx_int; have f2 := AutoSeq1.sub_tuple_tuple; have f3 := AutoSeq1.sub_list_list; have f4 := AutoSeq1.sub_tuple_list; have f5 := AutoSeq1.sub_list_tuple;
    have hz' : (items ++ items2).size ≤ sizeLine + 1 := by rw [Array.size_append]; exact hs2
    wp_walk using (wpAny_updateSeq hl rfl (hz := hs1) (_hz' := hz')), wpAny_loadPart' hl, wpAny_loadPart' hb; exact ⟨_, rfl, h⟩
def rExtT (K : PySem.W.Frag) : V → List V → Hp → VK → Prop := fun x vs H Q => ∃ l b xs zs, x = .ref l ∧ vs = [.ref b] ∧ H l = some (.lst xs) ∧ SqT K H b zs ∧ xs.length + zs.length ≤ sizeLine ∧ Q .non (upd H l (.lst (xs ++ zs)))
def rExtU (K : PySem.W.Frag) : V → List V → Hp → VK → Prop := fun x vs H Q => rExtend x vs H Q ∨ rExtT K x vs H Q
section
variable {X : Cx} {K : PySem.W.Frag}
theorem mt_extU (hK : X.K = K := by rfl) : MtM X "list.extend" (rExtU K) := by
  subst hK
  intro pins s σ H x vs v us Q I rx rv h
  rcases h with h | h
  · exact mt_extend pins s σ H x vs v us Q I rx rv h
  obtain ⟨l, b, xs, zs, rfl, rfl, hH, hB, hz, q⟩ := h
  cases rx
  obtain ⟨u, rfl, ru⟩ := rv.one
  cases ru
  obtain ⟨z, its, n, r, hl, e⟩ := I.lstM hH
  obtain ⟨its2, r2, ⟨⟨cls, dd, data, sl⟩, e2, hc, n2, hd⟩, hl2⟩ := I.tuple hB
  simp only at hc hd
  subst hc hd
  have l1 := r.length
  have l2 := r2.length
  have hsz : its.toArray.size + its2.toArray.size ≤ sizeLine := by rw [List.size_toArray, List.size_toArray]; omega
  have hlong : ¬ (!its.toArray.isEmpty && Builtin.List.listTooLong (its.toArray.size + its2.toArray.size)) = true := by
    rw [notLongL hsz, Bool.and_false]
    exact Bool.false_ne_true
  refine call_meets F.slot_list_extend ⟨_, e, rfl⟩ F.entry_list_extend (F.args_list_extend_2 _ _)
    (list_extend_tup l its.toArray n b its2.toArray n2 dd sl hlong (by rw [List.size_toArray]; omega) (by omega)) ⟨e, e2, ?_⟩
  refine ⟨.non, _, I.lset (its' := its ++ its2) hH e (by simp) (r.append r2) ?_, rfl, q⟩
  rw [List.length_append]
  omega
theorem u_max1 (hc : X.calm = true) (hK : X.K = K := by rfl) : CallR X (.builtin "max") (rMax K) := by
  subst hK
  exact cr_max hc
end
/-- what isinstance asks of instances of the class at C -/
structure InsC (K : PySem.W.Frag) (C : Addr) : Prop where
  ha : PySem.W.findIn K (.ref C) "__class__" = some (some (.builtin "object.__class__"))
  hn : PySem.W.specialIn K (.builtin "object.__class__") "__get__" = some (some (.builtin "getset_descriptor.__get__"))
  htk : PySem.W.takesIn K (.builtin "object.__class__") = some true
  hm : PySem.W.mroIn K C (.type "object") = some true
  kit : PySem.W.kitOne K (.ref C) (.ref C) = some true
def insB (K : PySem.W.Frag) (C : Addr) : Bool := decide (PySem.W.findIn K (.ref C) "__class__" = some (some (.builtin "object.__class__"))) && (decide (PySem.W.specialIn K (.builtin "object.__class__") "__get__" = some (some (.builtin "getset_descriptor.__get__"))) && (decide (PySem.W.takesIn K (.builtin "object.__class__") = some true) &&
  (decide (PySem.W.mroIn K C (.type "object") = some true) && decide (PySem.W.kitOne K (.ref C) (.ref C) = some true))))
theorem insB_ok {K : PySem.W.Frag} {C : Addr} (h : insB K C = true) : InsC K C := by
  unfold insB at h
  obtain ⟨h1, h⟩ := Bool.and_eq_true_iff.mp h
  obtain ⟨h2, h⟩ := Bool.and_eq_true_iff.mp h
  obtain ⟨h3, h⟩ := Bool.and_eq_true_iff.mp h
  obtain ⟨h4, h5⟩ := Bool.and_eq_true_iff.mp h
  exact ⟨of_decide_eq_true h1, of_decide_eq_true h2, of_decide_eq_true h3, of_decide_eq_true h4, of_decide_eq_true h5⟩
end VB
/-! error classes that carry one value, from what is looked at -/
namespace VB
open PySem PySem.Spec PyProof.Rows L2
def oexB (K : PySem.W.Frag) (C : Addr) : Bool := match K.lookup C with
  | some ⟨.type "type", _, .cls cd, sl⟩ => (match cd.mro, sl.toList with
    | .ref C' :: bm, [_, _, _, _, some (.builtin n), _] => decide (C' = C) && (decide (n = "ValueError.__new__") && (!cd.hasDel && (cd.hasDict && PySem.HandSPX.refsVE bm)))
    | _, _ => false)
  | _ => false
theorem oexB_cls {K : PySem.W.Frag} {C : Addr} (q : oexB K C = true) : ∃ nm q N bs bm sn sub ab col dd k0 k1 k2 k3 k5, K.lookup C = some (excClassObj nm q C N bs bm true sn sub ab col dd k0 k1 k2 k3 k5 "ValueError.__new__") ∧ PySem.HandSPX.refsVE bm = true := by
  unfold oexB at q
  split at q
  · rename_i dd cd sl ho
    split at q
    · rename_i C' bm k0 k1 k2 k3 n k5 hm hs
      simp only [Bool.and_eq_true, decide_eq_true_eq, Bool.not_eq_true'] at q
      obtain ⟨rfl, rfl, hdel, hdic, ht⟩ := q
      obtain ⟨nm, bs, mro, ns, qn, hd, sn, sub, ab, col, del⟩ := cd
      dsimp only at hm hdel hdic
      subst hm hdel hdic
      have hsl : sl = #[k0, k1, k2, k3, some (.builtin "ValueError.__new__"), k5] := by
        obtain ⟨l⟩ := sl
        simp only at hs
        rw [hs]
      subst hsl
      exact ⟨nm, qn, ns, bs, bm, sn, sub, ab, col, dd, k0, k1, k2, k3, k5, ho, ht⟩
    · cases q
  · cases q
def errB (K : PySem.W.Frag) (x g : Str) : Bool := oexB K (He.ga K x) && (decide (PySem.W.findIn K (.ref (He.ga K x)) "__setattr__" = some (some (.builtin "object.__setattr__"))) && (decide (PySem.W.subIn K (.ref (He.ga K x)) (.type "BaseException") = some true) && (decide (PySem.W.typeIn K (.ref (He.ga K x)) = some (.type "type")) && (PySem.W.keepIn K (.ref (He.ga K x)) &&
  (decide (PySem.W.findIn K (.ref (He.ga K x)) "__init__" = some (some (.ref (He.ma K (He.ga K x) "__init__")))) && (decide (PySem.W.typeIn K (.ref (He.ma K (He.ga K x) "__init__")) = some (.type "function")) && (decide (PySem.W.findIn K (.ref (He.ga K x)) g = some none) && (xfB K (He.ga K x) && decide (PySem.W.exmOne K (.ref (He.ga K x)) (.ref (He.ga K x)) = some true)))))))))
theorem errB_ok {K : PySem.W.Frag} {mg : Str → Option Value} {x g : Str} (h : errB K x g = true) (gC : mg x = some (.ref (He.ga K x))) : ErrC K mg x g (He.ga K x) (He.ma K (He.ga K x) "__init__") ∧ PySem.W.exmOne K (.ref (He.ga K x)) (.ref (He.ga K x)) = some true := by
  unfold errB at h
  obtain ⟨h1, h⟩ := Bool.and_eq_true_iff.mp h
  obtain ⟨h2, h⟩ := Bool.and_eq_true_iff.mp h
  obtain ⟨h3, h⟩ := Bool.and_eq_true_iff.mp h
  obtain ⟨h4, h⟩ := Bool.and_eq_true_iff.mp h
  obtain ⟨h5, h⟩ := Bool.and_eq_true_iff.mp h
  obtain ⟨h6, h⟩ := Bool.and_eq_true_iff.mp h
  obtain ⟨h7, h⟩ := Bool.and_eq_true_iff.mp h
  obtain ⟨h8, h⟩ := Bool.and_eq_true_iff.mp h
  obtain ⟨h9, h10⟩ := Bool.and_eq_true_iff.mp h
  exact ⟨⟨⟨oexB_cls h1, of_decide_eq_true h2, of_decide_eq_true h3, of_decide_eq_true h4, h5⟩, gC, of_decide_eq_true h6, of_decide_eq_true h7, of_decide_eq_true h8, xfB_ok h9⟩, of_decide_eq_true h10⟩
end VB
namespace K3
open PySem PySem.Spec PyProof.Rows L2 VB
def top (i : Nat) : Stmt := PySem.Challenge.pw_onewaybits_k03_reads_writes_and_erases.main.body.getD i (.Pass ⟨0, 0, 0, 0⟩)
def mtop (i j : Nat) : Stmt := match top i with | .ClassDef _ _ _ b _ _ _ _ _ _ _ => b.getD j (.Pass ⟨0, 0, 0, 0⟩) | _ => .Pass ⟨0, 0, 0, 0⟩
abbrev s_Chip____init__ : Stmt := mtop 31 0
theorem sc_Chip____init__ : FnScope ["self", "blocks", "pages", "bad", "_"] ["self", "blocks", "pages", "bad"] (defScope s_Chip____init__) := ⟨rfl, rfl, rfl, by decide +kernel, rfl, by decide +kernel, by decide +kernel⟩
abbrev s_Chip__read : Stmt := mtop 31 1
theorem sc_Chip__read : FnScope ["self", "block", "page"] ["self", "block", "page"] (defScope s_Chip__read) := ⟨rfl, rfl, rfl, by decide +kernel, rfl, by decide +kernel, by decide +kernel⟩
abbrev s_Chip__write : Stmt := mtop 31 2
theorem sc_Chip__write : FnScope ["self", "block", "page", "octets", "start", "end", "old", "written", "was", "octet"] ["self", "block", "page", "octets"] (defScope s_Chip__write) := ⟨rfl, rfl, rfl, by decide +kernel, rfl, by decide +kernel, by decide +kernel⟩
abbrev s_Chip__erase : Stmt := mtop 31 3
theorem sc_Chip__erase : FnScope ["self", "block"] ["self", "block"] (defScope s_Chip__erase) := ⟨rfl, rfl, rfl, by decide +kernel, rfl, by decide +kernel, by decide +kernel⟩
abbrev s_Chip__erases : Stmt := mtop 31 4
theorem sc_Chip__erases : FnScope ["self", "block"] ["self", "block"] (defScope s_Chip__erases) := ⟨rfl, rfl, rfl, by decide +kernel, rfl, by decide +kernel, by decide +kernel⟩
abbrev s_Chip__cut : Stmt := mtop 31 5
theorem sc_Chip__cut : FnScope ["self", "op", "mask"] ["self", "op", "mask"] (defScope s_Chip__cut) := ⟨rfl, rfl, rfl, by decide +kernel, rfl, by decide +kernel, by decide +kernel⟩
abbrev s_Chip__fail : Stmt := mtop 31 6
theorem sc_Chip__fail : FnScope ["self", "op", "mask"] ["self", "op", "mask"] (defScope s_Chip__fail) := ⟨rfl, rfl, rfl, by decide +kernel, rfl, by decide +kernel, by decide +kernel⟩
abbrev s_Chip__clear_plans : Stmt := mtop 31 7
theorem sc_Chip__clear_plans : FnScope ["self"] ["self"] (defScope s_Chip__clear_plans) := ⟨rfl, rfl, rfl, by decide +kernel, rfl, by decide +kernel, by decide +kernel⟩
abbrev s_Chip__is_bad : Stmt := mtop 31 8
theorem sc_Chip__is_bad : FnScope ["self", "block"] ["self", "block"] (defScope s_Chip__is_bad) := ⟨rfl, rfl, rfl, by decide +kernel, rfl, by decide +kernel, by decide +kernel⟩
abbrev s_Chip__bad_blocks : Stmt := mtop 31 9
theorem sc_Chip__bad_blocks : FnScope ["self", "block"] ["self"] (defScope s_Chip__bad_blocks) := ⟨rfl, rfl, rfl, by decide +kernel, rfl, by decide +kernel, by decide +kernel⟩
abbrev s_Chip__kept_read : Stmt := mtop 31 10
theorem sc_Chip__kept_read : FnScope ["self", "block"] ["self", "block"] (defScope s_Chip__kept_read) := ⟨rfl, rfl, rfl, by decide +kernel, rfl, by decide +kernel, by decide +kernel⟩
abbrev s_Chip__keep_read : Stmt := mtop 31 11
theorem sc_Chip__keep_read : FnScope ["self", "block", "read"] ["self", "block", "read"] (defScope s_Chip__keep_read) := ⟨rfl, rfl, rfl, by decide +kernel, rfl, by decide +kernel, by decide +kernel⟩
abbrev s_Chip___check_block : Stmt := mtop 31 12
theorem sc_Chip___check_block : FnScope ["self", "block"] ["self", "block"] (defScope s_Chip___check_block) := ⟨rfl, rfl, rfl, by decide +kernel, rfl, by decide +kernel, by decide +kernel⟩
abbrev s_Chip___check_page : Stmt := mtop 31 13
theorem sc_Chip___check_page : FnScope ["self", "page"] ["self", "page"] (defScope s_Chip___check_page) := ⟨rfl, rfl, rfl, by decide +kernel, rfl, by decide +kernel, by decide +kernel⟩
abbrev s_Chip___check_plan : Stmt := mtop 31 14
theorem sc_Chip___check_plan : FnScope ["self", "op", "mask"] ["self", "op", "mask"] (defScope s_Chip___check_plan) := ⟨rfl, rfl, rfl, by decide +kernel, rfl, by decide +kernel, by decide +kernel⟩
abbrev s_Chip___do_op : Stmt := mtop 31 15
theorem sc_Chip___do_op : FnScope ["self", "block", "new", "op", "cut_mask", "fail_mask"] ["self", "block", "new"] (defScope s_Chip___do_op) := ⟨rfl, rfl, rfl, by decide +kernel, rfl, by decide +kernel, by decide +kernel⟩
abbrev s_Chip___set_octets : Stmt := mtop 31 16
theorem sc_Chip___set_octets : FnScope ["self", "block", "octets"] ["self", "block", "octets"] (defScope s_Chip___set_octets) := ⟨rfl, rfl, rfl, by decide +kernel, rfl, by decide +kernel, by decide +kernel⟩
abbrev s__wall : Stmt := top 0
theorem sc__wall : FnScope ["k"] ["k"] (defScope s__wall) := ⟨rfl, rfl, rfl, by decide +kernel, rfl, by decide +kernel, by decide +kernel⟩
abbrev s_is_int : Stmt := top 13
theorem sc_is_int : FnScope ["value"] ["value"] (defScope s_is_int) := ⟨rfl, rfl, rfl, by decide +kernel, rfl, by decide +kernel, by decide +kernel⟩
abbrev s_is_int_from : Stmt := top 14
theorem sc_is_int_from : FnScope ["value", "least", "greatest"] ["value", "least", "greatest"] (defScope s_is_int_from) := ⟨rfl, rfl, rfl, by decide +kernel, rfl, by decide +kernel, by decide +kernel⟩
abbrev s_is_list : Stmt := top 15
theorem sc_is_list : FnScope ["value"] ["value"] (defScope s_is_list) := ⟨rfl, rfl, rfl, by decide +kernel, rfl, by decide +kernel, by decide +kernel⟩
abbrev s_is_octets : Stmt := top 16
theorem sc_is_octets : FnScope ["value", "octet"] ["value"] (defScope s_is_octets) := ⟨rfl, rfl, rfl, by decide +kernel, rfl, by decide +kernel, by decide +kernel⟩
abbrev s_is_octets_of : Stmt := top 17
theorem sc_is_octets_of : FnScope ["value", "count"] ["value", "count"] (defScope s_is_octets_of) := ⟨rfl, rfl, rfl, by decide +kernel, rfl, by decide +kernel, by decide +kernel⟩
abbrev s_is_mask : Stmt := top 18
theorem sc_is_mask : FnScope ["value"] ["value"] (defScope s_is_mask) := ⟨rfl, rfl, rfl, by decide +kernel, rfl, by decide +kernel, by decide +kernel⟩
abbrev s_changed : Stmt := top 20
theorem sc_changed : FnScope ["old", "new", "mask", "unlike", "octets", "k", "bit", "was", "now"] ["old", "new", "mask"] (defScope s_changed) := ⟨rfl, rfl, rfl, by decide +kernel, rfl, by decide +kernel, by decide +kernel⟩
abbrev s__check_octets : Stmt := top 21
theorem sc__check_octets : FnScope ["octets"] ["octets"] (defScope s__check_octets) := ⟨rfl, rfl, rfl, by decide +kernel, rfl, by decide +kernel, by decide +kernel⟩
abbrev s__check_pair : Stmt := top 22
theorem sc__check_pair : FnScope ["old", "new"] ["old", "new"] (defScope s__check_pair) := ⟨rfl, rfl, rfl, by decide +kernel, rfl, by decide +kernel, by decide +kernel⟩
abbrev s__ones : Stmt := top 23
theorem sc__ones : FnScope ["octets", "bit"] ["octets"] (defScope s__ones) := ⟨rfl, rfl, rfl, by decide +kernel, rfl, by decide +kernel, by decide +kernel⟩
abbrev s__worth : Stmt := top 24
theorem sc__worth : FnScope ["bit"] ["bit"] (defScope s__worth) := ⟨rfl, rfl, rfl, by decide +kernel, rfl, by decide +kernel, by decide +kernel⟩
abbrev s_is_block_count : Stmt := top 32
theorem sc_is_block_count : FnScope ["value"] ["value"] (defScope s_is_block_count) := ⟨rfl, rfl, rfl, by decide +kernel, rfl, by decide +kernel, by decide +kernel⟩
abbrev s_is_page_count : Stmt := top 33
theorem sc_is_page_count : FnScope ["value"] ["value"] (defScope s_is_page_count) := ⟨rfl, rfl, rfl, by decide +kernel, rfl, by decide +kernel, by decide +kernel⟩
abbrev s_is_bad_count : Stmt := top 34
theorem sc_is_bad_count : FnScope ["value", "blocks"] ["value", "blocks"] (defScope s_is_bad_count) := ⟨rfl, rfl, rfl, by decide +kernel, rfl, by decide +kernel, by decide +kernel⟩
abbrev s__clean_block : Stmt := top 35
theorem sc__clean_block : FnScope ["pages"] ["pages"] (defScope s__clean_block) := ⟨rfl, rfl, rfl, by decide +kernel, rfl, by decide +kernel, by decide +kernel⟩
abbrev s__law_cell : Stmt := top 37
theorem sc__law_cell : FnScope ["_law_script", "_law_k"] ["_law_script", "_law_k"] (defScope s__law_cell) := ⟨rfl, rfl, rfl, by decide +kernel, rfl, by decide +kernel, by decide +kernel⟩
abbrev s__law_box : Stmt := top 38
theorem sc__law_box : FnScope ["_law_great"] ["_law_great"] (defScope s__law_box) := ⟨rfl, rfl, rfl, by decide +kernel, rfl, by decide +kernel, by decide +kernel⟩
abbrev s__law_take : Stmt := top 39
theorem sc__law_take : FnScope ["_law_box_here", "_law_many", "_law_digit", "_law_mixed"] ["_law_box_here", "_law_many"] (defScope s__law_take) := ⟨rfl, rfl, rfl, by decide +kernel, rfl, by decide +kernel, by decide +kernel⟩
abbrev s__law_shape : Stmt := top 40
theorem sc__law_shape : FnScope ["_law_box_here", "_law_blocks", "_law_pages"] ["_law_box_here"] (defScope s__law_shape) := ⟨rfl, rfl, rfl, by decide +kernel, rfl, by decide +kernel, by decide +kernel⟩
abbrev s__law_is_index : Stmt := top 41
theorem sc__law_is_index : FnScope ["_law_value", "_law_many"] ["_law_value", "_law_many"] (defScope s__law_is_index) := ⟨rfl, rfl, rfl, by decide +kernel, rfl, by decide +kernel, by decide +kernel⟩
abbrev s__law_are_octets : Stmt := top 42
theorem sc__law_are_octets : FnScope ["_law_value", "_law_count", "_law_one"] ["_law_value", "_law_count"] (defScope s__law_are_octets) := ⟨rfl, rfl, rfl, by decide +kernel, rfl, by decide +kernel, by decide +kernel⟩
abbrev s__law_odd_index : Stmt := top 43
theorem sc__law_odd_index : FnScope ["_law_box_here", "_law_many", "_law_way"] ["_law_box_here", "_law_many"] (defScope s__law_odd_index) := ⟨rfl, rfl, rfl, by decide +kernel, rfl, by decide +kernel, by decide +kernel⟩
abbrev s__law_odd_octets : Stmt := top 44
theorem sc__law_odd_octets : FnScope ["_law_box_here", "_law_way", "_law_at", "_law_row", "_law_k"] ["_law_box_here"] (defScope s__law_odd_octets) := ⟨rfl, rfl, rfl, by decide +kernel, rfl, by decide +kernel, by decide +kernel⟩
abbrev s__law_drawn_octets : Stmt := top 45
theorem sc__law_drawn_octets : FnScope ["_law_box_here", "_law_old", "_law_way", "_law_row", "_law_octet", "_law_k"] ["_law_box_here", "_law_old"] (defScope s__law_drawn_octets) := ⟨rfl, rfl, rfl, by decide +kernel, rfl, by decide +kernel, by decide +kernel⟩
abbrev s__law_is_very : Stmt := top 46
theorem sc__law_is_very : FnScope ["_law_given", "_law_value"] ["_law_given", "_law_value"] (defScope s__law_is_very) := ⟨rfl, rfl, rfl, by decide +kernel, rfl, by decide +kernel, by decide +kernel⟩
abbrev s__law_done : Stmt := top 47
theorem sc__law_done : FnScope ["_law_chip", "_law_kind", "_law_block", "_law_page_here", "_law_octets", "_law_named", "e"] ["_law_chip", "_law_kind", "_law_block", "_law_page_here", "_law_octets", "_law_named"] (defScope s__law_done) := ⟨rfl, rfl, rfl, by decide +kernel, rfl, by decide +kernel, by decide +kernel⟩
abbrev s__law_due_error : Stmt := top 48
theorem sc__law_due_error : FnScope ["_law_shape_here", "_law_kind", "_law_block", "_law_page_here", "_law_octets"] ["_law_shape_here", "_law_kind", "_law_block", "_law_page_here", "_law_octets"] (defScope s__law_due_error) := ⟨rfl, rfl, rfl, by decide +kernel, rfl, by decide +kernel, by decide +kernel⟩
abbrev s__law_page : Stmt := top 49
theorem sc__law_page : FnScope ["_law_model", "_law_block", "_law_page_here"] ["_law_model", "_law_block", "_law_page_here"] (defScope s__law_page) := ⟨rfl, rfl, rfl, by decide +kernel, rfl, by decide +kernel, by decide +kernel⟩
abbrev s__law_is_page : Stmt := top 50
theorem sc__law_is_page : FnScope ["_law_told", "_law_due", "_law_one"] ["_law_told", "_law_due"] (defScope s__law_is_page) := ⟨rfl, rfl, rfl, by decide +kernel, rfl, by decide +kernel, by decide +kernel⟩
abbrev s__law_counts_right : Stmt := top 51
theorem sc__law_counts_right : FnScope ["_law_chip", "_law_model", "_law_told", "_law_block"] ["_law_chip", "_law_model"] (defScope s__law_counts_right) := ⟨rfl, rfl, rfl, by decide +kernel, rfl, by decide +kernel, by decide +kernel⟩
abbrev s__law_followed : Stmt := top 52
theorem sc__law_followed : FnScope ["_law_model", "_law_kind", "_law_block", "_law_page_here", "_law_octets", "_law_one", "_law_old", "_law_k"] ["_law_model", "_law_kind", "_law_block", "_law_page_here", "_law_octets"] (defScope s__law_followed) := ⟨rfl, rfl, rfl, by decide +kernel, rfl, by decide +kernel, by decide +kernel⟩
abbrev s__law_call_right : Stmt := top 53
theorem sc__law_call_right : FnScope ["_law_box_here", "_law_chip", "_law_model", "_law_shape_here", "_law_kind", "_law_spoils", "_law_block", "_law_page_here", "_law_named", "_law_octets", "_law_due", "_law_handed", "_law_told", "_law_answer"] ["_law_box_here", "_law_chip", "_law_model"] (defScope s__law_call_right) := ⟨rfl, rfl, rfl, by decide +kernel, rfl, by decide +kernel, by decide +kernel⟩
abbrev s__law_shape_error : Stmt := top 54
theorem sc__law_shape_error : FnScope ["_law_blocks", "_law_pages", "_law_bad", "_law_chip", "e"] ["_law_blocks", "_law_pages", "_law_bad"] (defScope s__law_shape_error) := ⟨rfl, rfl, rfl, by decide +kernel, rfl, by decide +kernel, by decide +kernel⟩
abbrev s__law_shapes_right : Stmt := top 55
theorem sc__law_shapes_right : FnScope ["_law_box_here", "_law_turn", "_law_blocks", "_law_pages", "_law_bad", "_law_way", "_law_odd", "_law_other", "_law_below", "_law_given", "_law_due", "_law_told", "_law_pair"] ["_law_box_here"] (defScope s__law_shapes_right) := ⟨rfl, rfl, rfl, by decide +kernel, rfl, by decide +kernel, by decide +kernel⟩
abbrev s__law_pages_right : Stmt := top 56
theorem sc__law_pages_right : FnScope ["_law_chip", "_law_model", "_law_block", "_law_page_here"] ["_law_chip", "_law_model"] (defScope s__law_pages_right) := ⟨rfl, rfl, rfl, by decide +kernel, rfl, by decide +kernel, by decide +kernel⟩
abbrev s__law_right : Stmt := top 57
theorem sc__law_right : FnScope ["_law_box_here", "_law_shapes", "_law_models", "_law_one", "_law_other", "_law_chips", "_law_turn", "_law_k", "_law_shape_here"] ["_law_box_here"] (defScope s__law_right) := ⟨rfl, rfl, rfl, by decide +kernel, rfl, by decide +kernel, by decide +kernel⟩
abbrev s_law : Stmt := top 58
theorem sc_law : FnScope ["_law_script", "_law_k"] ["_law_script"] (defScope s_law) := ⟨rfl, rfl, rfl, by decide +kernel, rfl, by decide +kernel, by decide +kernel⟩
abbrev FnP (K : PySem.W.Frag) (x : Str) (st : Stmt) (f : Addr) (fd : FuncData) : Prop := FunD K x x (defArgs st) (defBody st) (defScope st) [] [] f fd
abbrev FnM (K : PySem.W.Frag) (m q : Str) (st : Stmt) (f : Addr) (fd : FuncData) : Prop := FunD K m q (defArgs st) (defBody st) (defScope st) [] [] f fd
structure Txt (K : PySem.W.Frag) (mg : Str → Option Value) : Prop where
  f_abs : mg "abs" = none
  f_all : mg "all" = none
  f_bool : mg "bool" = none
  f_enumerate : mg "enumerate" = none
  f_int : mg "int" = none
  f_isinstance : mg "isinstance" = none
  f_len : mg "len" = none
  f_list : mg "list" = none
  f_max : mg "max" = none
  f_min : mg "min" = none
  f_range : mg "range" = none
  f_repr : mg "repr" = none
  f_sum : mg "sum" = none
  f_tuple : mg "tuple" = none
  f_zip : mg "zip" = none
  g_LEAST_BLOCKS : ∃ t, mg "LEAST_BLOCKS" = some (.int 8 t)
  g_LEAST_GOOD_BLOCKS : ∃ t, mg "LEAST_GOOD_BLOCKS" = some (.int 7 t)
  g_LEAST_PAGES : ∃ t, mg "LEAST_PAGES" = some (.int 8 t)
  g_MASK_BITS : ∃ t, mg "MASK_BITS" = some (.int 4096 t)
  g_MOST_BLOCKS : ∃ t, mg "MOST_BLOCKS" = some (.int 24 t)
  g_MOST_PAGES : ∃ t, mg "MOST_PAGES" = some (.int 16 t)
  g_PAGE_OCTETS : ∃ t, mg "PAGE_OCTETS" = some (.int 31 t)
end K3
namespace K3
open PySem PySem.Spec PyProof.Rows L2 VB
abbrev s_InvalidBlock____init__ : Stmt := mtop 6 0
theorem sc_InvalidBlock____init__ : FnScope ["self", "given"] ["self", "given"] (defScope s_InvalidBlock____init__) := ⟨rfl, rfl, rfl, by decide +kernel, rfl, by decide +kernel, by decide +kernel⟩
abbrev s_InvalidPage____init__ : Stmt := mtop 7 0
theorem sc_InvalidPage____init__ : FnScope ["self", "given"] ["self", "given"] (defScope s_InvalidPage____init__) := ⟨rfl, rfl, rfl, by decide +kernel, rfl, by decide +kernel, by decide +kernel⟩
abbrev s_InvalidOctets____init__ : Stmt := mtop 3 0
theorem sc_InvalidOctets____init__ : FnScope ["self", "given"] ["self", "given"] (defScope s_InvalidOctets____init__) := ⟨rfl, rfl, rfl, by decide +kernel, rfl, by decide +kernel, by decide +kernel⟩
abbrev s_InvalidShape____init__ : Stmt := mtop 8 0
theorem sc_InvalidShape____init__ : FnScope ["self", "given"] ["self", "given"] (defScope s_InvalidShape____init__) := ⟨rfl, rfl, rfl, by decide +kernel, rfl, by decide +kernel, by decide +kernel⟩
end K3
/-! the ends -/
namespace VB
open PySem PySem.Spec PyProof.Rows L2
theorem vals_getD {zs : List V} {ws : List Value} (h : Vals zs ws) : ∀ i : Nat, RelV (zs.getD i .non) (ws.getD i .none) := by
  induction h with
  | nil =>
    intro i
    exact rfl
  | cons r _ ih =>
    intro i
    cases i with
    | zero => exact r
    | succ i => exact ih i
theorem kb_of {K : PySem.W.Frag} {x qual : Str} {params : Arguments} {body : List Stmt} {scope : Scope} {kws : List (Str × V)} {f : Addr} {fd : FuncData} {ps ks : List Str} {n : Nat}
    {g : List Value → List Value → List Value} {gV : List V → List V → List V} (F : FunD K x qual params body scope [] kws f fd)
    (hrel : ∀ {vs : List V} {us : List Value} {zs : List V} {ws : List Value}, Vals vs us → Vals zs ws → Vals (gV vs zs) (g us ws))
    (h : ∀ (kV doc pm : Value) (an : Option Addr) (cdv ct : Value) (us ws : List Value), us.length = n → ws.length = ks.length → bindArgs (PySem.W.fnOf x qual params body scope .none kV doc pm an cdv ct) ⟨us, ks.zip ws⟩ = pure (ps.zip (g us ws))) :
    KBn K fd ps n ks g gV := by
  obtain ⟨oc, od, dV, kV, doc, pm, an, cdv, ct, osl, rfl, lk, hcd, hD, hK⟩ := F.ex
  rcases hD with ⟨_, rfl⟩ | ⟨e, _⟩
  · exact ⟨fun s us ws _ l1 l2 => .of_eq (h kV doc pm an cdv ct us ws l1 l2), fun r1 r2 => hrel r1 r2⟩
  · exact absurd rfl e
end VB
/-! repr of data, of truths, of ints, of None and of texts -/
namespace VB
open PySem PySem.Spec PyProof.Rows L2
section
variable {X : Cx}
theorem call_repr_non : CallR X (.builtin "repr") (fun xs H Q => xs = [.non] ∧ Q (.str "None") H) := by
  intro pins s σ H xs us Q I r h
  obtain ⟨rfl, q⟩ := h
  obtain ⟨u, rfl, ru⟩ := vals1 r
  cases (show u = Value.none from ru)
  exact PySem.P.repr_of_none ⟨.str _, H, I.tok _, ⟨_, rfl⟩, q⟩
theorem call_repr_str : CallR X (.builtin "repr") (fun xs H Q => ∃ x : Str, xs = [.str x] ∧ (reprText x).length ≤ sizeLine ∧ Q (.str (reprText x)) H) := by
  intro pins s σ H xs us Q I r h
  obtain ⟨x, rfl, hl, q⟩ := h
  obtain ⟨u, rfl, ru⟩ := vals1 r
  obtain ⟨t, rfl⟩ := (show ∃ t, u = Value.str x t from ru)
  exact PySem.P.repr_of_str ⟨.str _, H, I.tok _, ⟨_, rfl⟩, q⟩ hl
end
def rReprA (K : PySem.W.Frag) : List V → Hp → VK → Prop := fun xs H Q => rReprU K xs H Q ∨ ((xs = [.non] ∧ Q (.str "None") H) ∨ ∃ x : Str, xs = [.str x] ∧ (reprText x).length ≤ sizeLine ∧ Q (.str (reprText x)) H)
section
variable {X : Cx} {K : PySem.W.Frag} {H : Hp} {Q : VK}
theorem u_reprA {k : Nat} (hr : Rm k X.A) (hK : X.K = K := by rfl) : CallR X (.builtin "repr") (rReprA K) := by
  subst hK
  exact (u_reprU hr).or (call_repr_non.or call_repr_str)
end
end VB
/-! isinstance of a caught error that has a dict; == and index of own instances -/
namespace VB
open PySem PySem.Spec PyProof.Rows L2
/-- what isinstance asks of instances of the error class D, and that they are of class F -/
structure IsE (K : PySem.W.Frag) (D F : Addr) : Prop where
  ha : PySem.W.findIn K (.ref D) "__class__" = some (some (.builtin "object.__class__"))
  hn : PySem.W.specialIn K (.builtin "object.__class__") "__get__" = some (some (.builtin "getset_descriptor.__get__"))
  ht : PySem.W.takesIn K (.builtin "object.__class__") = some true
  hm : PySem.W.mroIn K D (.type "object") = some true
  kit : PySem.W.kitOne K (.ref D) (.ref F) = some true
def isEB (K : PySem.W.Frag) (D F : Addr) : Bool := decide (PySem.W.findIn K (.ref D) "__class__" = some (some (.builtin "object.__class__"))) && (decide (PySem.W.specialIn K (.builtin "object.__class__") "__get__" = some (some (.builtin "getset_descriptor.__get__"))) && (decide (PySem.W.takesIn K (.builtin "object.__class__") = some true) &&
  (decide (PySem.W.mroIn K D (.type "object") = some true) && decide (PySem.W.kitOne K (.ref D) (.ref F) = some true))))
theorem isEB_ok {K : PySem.W.Frag} {D F : Addr} (h : isEB K D F = true) : IsE K D F := by
  unfold isEB at h
  obtain ⟨h1, h⟩ := Bool.and_eq_true_iff.mp h
  obtain ⟨h2, h⟩ := Bool.and_eq_true_iff.mp h
  obtain ⟨h3, h⟩ := Bool.and_eq_true_iff.mp h
  obtain ⟨h4, h5⟩ := Bool.and_eq_true_iff.mp h
  exact ⟨of_decide_eq_true h1, of_decide_eq_true h2, of_decide_eq_true h3, of_decide_eq_true h4, of_decide_eq_true h5⟩
/-- isinstance(e, F), e the caught error -/
def rIsED (D F a : Addr) (cls : Value) (d : Option Addr) : List V → Hp → VK → Prop := fun xs H Q => xs = [.ref a, .ref F] ∧ cls = .ref D ∧ ∃ (dd : Addr) (fs : List (Str × V)), d = some dd ∧ H dd = some (.xd fs) ∧ Q (.bl true) H
theorem call_isED {X : Cx} {a D F : Addr} {oe : Obj} {cls : Value} {d : Option Addr} {pn : List (Addr × Obj)} (T : XfC X.K D) (C : IsE X.K D F) (hz : Zc cls d oe) (hf : ∃ vs, oe.data = .fields vs) : CallR (X.suite a ((a, oe) :: pn)) (.builtin "isinstance") (rIsED D F a cls d) := by
  intro pins s σ H xs us Q I r h
  obtain ⟨rfl, ec, dd, fs, ed, ea, q⟩ := h
  cases r with
  | cons rx rr =>
    cases rr with
    | cons rt rr =>
      cases rr
      cases rx
      cases rt
      subst ec
      subst ed
      obtain ⟨hget, _⟩ := I.pin (a, oe) (List.mem_append.mpr (.inl List.mem_cons_self))
      obtain ⟨vs, hd⟩ := hf
      have hx : ObjOk X.prog X.w H s.heap dd (.xd fs) := I.hok dd _ ea
      obtain ⟨mA, hns, hr⟩ := hx
      obtain ⟨od, ho, hl⟩ := lookIn_ns hns
      have J : PySem.W.InstAt s.heap a oe D (some od) := ⟨hget, hz.1, by unfold PySem.W.notCls; rw [hd] <;> rfl, by rw [hz.2]; exact ho⟩
      have hcl : (PySem.W.clsIn X.K D).isSome = true := by
        obtain ⟨cd, hc, _⟩ := PySem.W.any_some T.hdC
        rw [hc]
        rfl
      exact PySem.W.kia_one (PySem.W.kitx_exc hcl T.ga T.gg T.exC C.ha C.hn C.ht C.hm) I.kIn J C.kit (fun z => nomatch z) fun tk => ⟨.bl true, H, I.kept (t' := tk) fun _ _ z => z, rfl, q⟩
/-- what == asks of the class -/
def nsB (K : PySem.W.Frag) (N : Addr) : Bool := match K.lookup N with
  | some ⟨_, _, .dict es _, _⟩ => es.toList.all (fun e => match e.key with | .str _ _ => true | _ => false) && ((es.toList.find? (·.key.isStr "__eq__")).isNone && (es.toList.find? (·.key.isStr "__ne__")).isNone)
  | _ => false
def slB : List (Option Value) → Bool
  | [_, _, _, _, some (.builtin _), _] => true
  | _ => false
def cmpB (K : PySem.W.Frag) (C : Addr) : Bool := match K.lookup C with
  | some ⟨c, _, .cls cd, sl⟩ => decide (c = .type "type") && (decide (cd.mro = [.ref C, .type "object"]) && (!cd.hasDel && (slB sl.toList && nsB K cd.ns)))
  | _ => false
theorem cmp_ok {K : PySem.W.Frag} {h : Heap} {C a dx : Addr} (B : cmpB K C = true) (X : K.In h) (ha : h.get? a = some (PySem.W.instObj C dx)) : h.CmpInst a C [.type "object"] := by
  unfold cmpB at B
  split at B
  · rename_i c dd cd sl ho
    obtain ⟨b1, B⟩ := Bool.and_eq_true_iff.mp B
    obtain ⟨b2, B⟩ := Bool.and_eq_true_iff.mp B
    obtain ⟨b3, B⟩ := Bool.and_eq_true_iff.mp B
    obtain ⟨b4, b5⟩ := Bool.and_eq_true_iff.mp B
    have e1 : c = .type "type" := of_decide_eq_true b1
    have e2 : cd.mro = [.ref C, .type "object"] := of_decide_eq_true b2
    have e3 : cd.hasDel = false := by simpa using b3
    obtain ⟨nm, bs, mro, N, q, hdct, sn, sub, ab, col, del⟩ := cd
    dsimp only at e2 e3 b5
    subst e1 e2 e3
    obtain ⟨sl⟩ := sl
    unfold slB at b4
    split at b4
    · rename_i k0 k1 k2 k3 newId k5 es
      dsimp only at es
      subst es
      unfold nsB at b5
      split at b5
      · rename_i c' d' es ep sl' hN
        obtain ⟨n1, b5⟩ := Bool.and_eq_true_iff.mp b5
        obtain ⟨n2, n3⟩ := Bool.and_eq_true_iff.mp b5
        refine ⟨_, nm, q, N, bs, hdct, sn, sub, ab, col, dd, k0, k1, k2, k3, k5, newId, nsFind es, ha, rfl, X _ _ ho, ⟨_, es, ep, X _ _ hN, rfl, fun e he => ?_, fun _ => rfl⟩, ?_, ?_⟩
        · have := List.all_eq_true.mp n1 e (by simpa using he)
          split at this
          · rename_i n t hk
            exact ⟨n, t, hk⟩
          · cases this
        · show (es.find? fun e => e.key.isStr "__eq__").map (·.val) = none
          rw [← Array.find?_toList]
          rw [Option.isNone_iff_eq_none] at n2
          rw [n2]
          rfl
        · show (es.find? fun e => e.key.isStr "__ne__").map (·.val) = none
          rw [← Array.find?_toList]
          rw [Option.isNone_iff_eq_none] at n3
          rw [n3]
          rfl
      · cases b5
    · cases b4
  · cases B
/-- a == b, two own instances without an __eq__ of their own -/
def rEqI (C : Addr) : R2 := fun x y H Q => ∃ (a b da db : Addr) (fa fb : List (Str × V)), x = .ref a ∧ y = .ref b ∧ a ≠ b ∧ H a = some (.ins C da fa) ∧ H b = some (.ins C db fb) ∧ Q (.bl false) H
theorem op_eqI {X : Cx} {C : Addr} {k : Nat} (hr : Rm k X.A) (B : cmpB X.K C = true) : OpR X (compareOp .Eq) (rEqI C) := by
  intro pins s σ H x y v u Q I rx ry h
  obtain ⟨a, b, da, db, fa, fb, rfl, rfl, ne, ea, eb, q⟩ := h
  cases rx
  cases ry
  have oa : ObjOk X.prog X.w H s.heap a (.ins C da fa) := I.hok a _ ea
  have ob : ObjOk X.prog X.w H s.heap b (.ins C db fb) := I.hok b _ eb
  obtain ⟨_, _, _, ga, _⟩ := oa
  obtain ⟨_, _, _, gb, _⟩ := ob
  have hu := hr.rm.units
  obtain ⟨hp, g, d, t, os⟩ := s
  exact compareOp_eq_other F.cmp_object F.cmp_object (cmp_ok B I.kIn ga) (cmp_ok B I.kIn gb) ne (by omega) ⟨.bl false, H, I, rfl, q⟩
/-- l.index(b), l = [a, b] -/
def rIdx2 (C : Addr) : V → List V → Hp → VK → Prop := fun x xs H Q => ∃ (l a b da db : Addr) (fa fb : List (Str × V)), x = .ref l ∧ xs = [.ref b] ∧ H l = some (.lst [.ref a, .ref b]) ∧ a ≠ b ∧ H a = some (.ins C da fa) ∧ H b = some (.ins C db fb) ∧ Q (.int 1) H
theorem mt_idx2 {X : Cx} {C : Addr} {k : Nat} (hr : Rm k X.A) (B : cmpB X.K C = true) : MtR X "list.index" (rIdx2 C) := by
  intro pins s σ H x xs v us Q I rx rxs h
  obtain ⟨l, a, b, da, db, fa, fb, rfl, rfl, hl, ne, ea, eb, q⟩ := h
  cases rx
  obtain ⟨u, rfl, ru⟩ := rxs.one
  cases ru
  have oa : ObjOk X.prog X.w H s.heap a (.ins C da fa) := I.hok a _ ea
  have ob : ObjOk X.prog X.w H s.heap b (.ins C db fb) := I.hok b _ eb
  obtain ⟨_, _, _, ga, _⟩ := oa
  obtain ⟨_, _, _, gb, _⟩ := ob
  have hu := hr.rm.units
  obtain ⟨z, its, n, r, _, ho⟩ := I.lstM hl
  obtain ⟨u1, r', rfl, r1, r2⟩ : ∃ u1 r', its = u1 :: r' ∧ RelV (.ref a) u1 ∧ Vals [.ref b] r' := by
    cases r with
    | cons r1 r2 => exact ⟨_, _, rfl, r1, r2⟩
  obtain ⟨u2, rfl, r3⟩ := r2.one
  cases r1
  cases r3
  refine call_meets PySem.F.slot_list_index ⟨_, ho, rfl⟩ PySem.F.entry_list_index (PySem.F.args_list_index_2 _ _)
    (SeqAt.list_indexAt l #[Value.ref a, Value.ref b] n none #[] (.ref b) (fun y => y == .ref b) 1 (by show 1 < 2; omega) (by omega) ?_ ?_) ⟨ho, fun y hy => ?_, ?_⟩
  · exact beq_self_eq_true _
  · intro m hm hm1
    obtain rfl : m = 0 := by omega
    show (Value.ref a == Value.ref b) = false
    exact beq_eq_false_iff_ne.mpr fun z => ne (Value.ref.inj z)
  · have : y = .ref a ∨ y = .ref b := by simpa using hy
    rcases this with rfl | rfl
    · have e : (Value.ref a == Value.ref b) = false := beq_eq_false_iff_ne.mpr fun z => ne (Value.ref.inj z)
      rw [e]
      refine SeqAt.EqAt.of_refs ne fun prog w E Q hq => ?_
      obtain ⟨hp, g, d, t, os⟩ := s
      exact richCompare_eq_other F.cmp_object F.cmp_object (cmp_ok B I.kIn ga) (cmp_ok B I.kIn gb) ne (by show X.A.units + 1 < cLine; omega) hq
    · rw [beq_self_eq_true]
      exact SeqAt.EqAt.same _
  · exact ⟨.int 1, H, I.tok _, ⟨_, rfl⟩, q⟩
end VB
namespace K3
open PySem PySem.Spec PyProof.Rows L2 VB
def d__law_take : He.DefD := ⟨("_law_take", none), "_law_take", "_law_take", defArgs s__law_take, defBody s__law_take, defScope s__law_take, [], []⟩
def d__law_shape : He.DefD := ⟨("_law_shape", none), "_law_shape", "_law_shape", defArgs s__law_shape, defBody s__law_shape, defScope s__law_shape, [], []⟩
def d_is_int_from : He.DefD := ⟨("is_int_from", none), "is_int_from", "is_int_from", defArgs s_is_int_from, defBody s_is_int_from, defScope s_is_int_from, [], []⟩
def d_is_block_count : He.DefD := ⟨("is_block_count", none), "is_block_count", "is_block_count", defArgs s_is_block_count, defBody s_is_block_count, defScope s_is_block_count, [], []⟩
def d_is_page_count : He.DefD := ⟨("is_page_count", none), "is_page_count", "is_page_count", defArgs s_is_page_count, defBody s_is_page_count, defScope s_is_page_count, [], []⟩
def d_is_bad_count : He.DefD := ⟨("is_bad_count", none), "is_bad_count", "is_bad_count", defArgs s_is_bad_count, defBody s_is_bad_count, defScope s_is_bad_count, [], []⟩
def d__clean_block : He.DefD := ⟨("_clean_block", none), "_clean_block", "_clean_block", defArgs s__clean_block, defBody s__clean_block, defScope s__clean_block, [], []⟩
def d__law_counts_right : He.DefD := ⟨("_law_counts_right", none), "_law_counts_right", "_law_counts_right", defArgs s__law_counts_right, defBody s__law_counts_right, defScope s__law_counts_right, [], []⟩
def d__law_drawn_octets : He.DefD := ⟨("_law_drawn_octets", none), "_law_drawn_octets", "_law_drawn_octets", defArgs s__law_drawn_octets, defBody s__law_drawn_octets, defScope s__law_drawn_octets, [], []⟩
def d__law_page : He.DefD := ⟨("_law_page", none), "_law_page", "_law_page", defArgs s__law_page, defBody s__law_page, defScope s__law_page, [], []⟩
def d__law_odd_index : He.DefD := ⟨("_law_odd_index", none), "_law_odd_index", "_law_odd_index", defArgs s__law_odd_index, defBody s__law_odd_index, defScope s__law_odd_index, [], []⟩
def d__law_odd_octets : He.DefD := ⟨("_law_odd_octets", none), "_law_odd_octets", "_law_odd_octets", defArgs s__law_odd_octets, defBody s__law_odd_octets, defScope s__law_odd_octets, [], []⟩
def d__law_is_index : He.DefD := ⟨("_law_is_index", none), "_law_is_index", "_law_is_index", defArgs s__law_is_index, defBody s__law_is_index, defScope s__law_is_index, [], []⟩
def d__law_are_octets : He.DefD := ⟨("_law_are_octets", none), "_law_are_octets", "_law_are_octets", defArgs s__law_are_octets, defBody s__law_are_octets, defScope s__law_are_octets, [], []⟩
def d__law_due_error : He.DefD := ⟨("_law_due_error", none), "_law_due_error", "_law_due_error", defArgs s__law_due_error, defBody s__law_due_error, defScope s__law_due_error, [], []⟩
def d_is_list : He.DefD := ⟨("is_list", none), "is_list", "is_list", defArgs s_is_list, defBody s_is_list, defScope s_is_list, [], []⟩
def d_is_octets : He.DefD := ⟨("is_octets", none), "is_octets", "is_octets", defArgs s_is_octets, defBody s_is_octets, defScope s_is_octets, [], []⟩
def d_is_octets_of : He.DefD := ⟨("is_octets_of", none), "is_octets_of", "is_octets_of", defArgs s_is_octets_of, defBody s_is_octets_of, defScope s_is_octets_of, [], []⟩
def d_changed : He.DefD := ⟨("changed", none), "changed", "changed", defArgs s_changed, defBody s_changed, defScope s_changed, [], []⟩
def d__law_done : He.DefD := ⟨("_law_done", none), "_law_done", "_law_done", defArgs s__law_done, defBody s__law_done, defScope s__law_done, [], []⟩
def d__law_is_very : He.DefD := ⟨("_law_is_very", none), "_law_is_very", "_law_is_very", defArgs s__law_is_very, defBody s__law_is_very, defScope s__law_is_very, [], []⟩
def d__law_followed : He.DefD := ⟨("_law_followed", none), "_law_followed", "_law_followed", defArgs s__law_followed, defBody s__law_followed, defScope s__law_followed, [], []⟩
def d__law_is_page : He.DefD := ⟨("_law_is_page", none), "_law_is_page", "_law_is_page", defArgs s__law_is_page, defBody s__law_is_page, defScope s__law_is_page, [], []⟩
def d__law_call_right : He.DefD := ⟨("_law_call_right", none), "_law_call_right", "_law_call_right", defArgs s__law_call_right, defBody s__law_call_right, defScope s__law_call_right, [], []⟩
def d__law_pages_right : He.DefD := ⟨("_law_pages_right", none), "_law_pages_right", "_law_pages_right", defArgs s__law_pages_right, defBody s__law_pages_right, defScope s__law_pages_right, [], []⟩
def d__law_shape_error : He.DefD := ⟨("_law_shape_error", none), "_law_shape_error", "_law_shape_error", defArgs s__law_shape_error, defBody s__law_shape_error, defScope s__law_shape_error, [], []⟩
def d__law_shapes_right : He.DefD := ⟨("_law_shapes_right", none), "_law_shapes_right", "_law_shapes_right", defArgs s__law_shapes_right, defBody s__law_shapes_right, defScope s__law_shapes_right, [], []⟩
def d__law_right : He.DefD := ⟨("_law_right", none), "_law_right", "_law_right", defArgs s__law_right, defBody s__law_right, defScope s__law_right, [], []⟩
def d__law_box : He.DefD := ⟨("_law_box", none), "_law_box", "_law_box", defArgs s__law_box, defBody s__law_box, defScope s__law_box, [], []⟩
def d__law_cell : He.DefD := ⟨("_law_cell", none), "_law_cell", "_law_cell", defArgs s__law_cell, defBody s__law_cell, defScope s__law_cell, [], []⟩
def d_law : He.DefD := ⟨("law", none), "law", "law", defArgs s_law, defBody s_law, defScope s_law, [], []⟩
def d_Chip____init__ : He.DefD := ⟨("Chip", some "__init__"), "__init__", "Chip.__init__", defArgs s_Chip____init__, defBody s_Chip____init__, defScope s_Chip____init__, [], []⟩
def d_Chip___check_block : He.DefD := ⟨("Chip", some "_check_block"), "_check_block", "Chip._check_block", defArgs s_Chip___check_block, defBody s_Chip___check_block, defScope s_Chip___check_block, [], []⟩
def d_Chip__erases : He.DefD := ⟨("Chip", some "erases"), "erases", "Chip.erases", defArgs s_Chip__erases, defBody s_Chip__erases, defScope s_Chip__erases, [], []⟩
def d_Chip___check_page : He.DefD := ⟨("Chip", some "_check_page"), "_check_page", "Chip._check_page", defArgs s_Chip___check_page, defBody s_Chip___check_page, defScope s_Chip___check_page, [], []⟩
def d_Chip__bad_blocks : He.DefD := ⟨("Chip", some "bad_blocks"), "bad_blocks", "Chip.bad_blocks", defArgs s_Chip__bad_blocks, defBody s_Chip__bad_blocks, defScope s_Chip__bad_blocks, [], []⟩
def d_Chip___set_octets : He.DefD := ⟨("Chip", some "_set_octets"), "_set_octets", "Chip._set_octets", defArgs s_Chip___set_octets, defBody s_Chip___set_octets, defScope s_Chip___set_octets, [], []⟩
def d_Chip___do_op : He.DefD := ⟨("Chip", some "_do_op"), "_do_op", "Chip._do_op", defArgs s_Chip___do_op, defBody s_Chip___do_op, defScope s_Chip___do_op, [], []⟩
def d_Chip__write : He.DefD := ⟨("Chip", some "write"), "write", "Chip.write", defArgs s_Chip__write, defBody s_Chip__write, defScope s_Chip__write, [], []⟩
def d_Chip__erase : He.DefD := ⟨("Chip", some "erase"), "erase", "Chip.erase", defArgs s_Chip__erase, defBody s_Chip__erase, defScope s_Chip__erase, [], []⟩
def d_Chip__read : He.DefD := ⟨("Chip", some "read"), "read", "Chip.read", defArgs s_Chip__read, defBody s_Chip__read, defScope s_Chip__read, [], []⟩
def d_InvalidBlock____init__ : He.DefD := ⟨("InvalidBlock", some "__init__"), "__init__", "InvalidBlock.__init__", defArgs s_InvalidBlock____init__, defBody s_InvalidBlock____init__, defScope s_InvalidBlock____init__, [], []⟩
def d_InvalidPage____init__ : He.DefD := ⟨("InvalidPage", some "__init__"), "__init__", "InvalidPage.__init__", defArgs s_InvalidPage____init__, defBody s_InvalidPage____init__, defScope s_InvalidPage____init__, [], []⟩
def d_InvalidOctets____init__ : He.DefD := ⟨("InvalidOctets", some "__init__"), "__init__", "InvalidOctets.__init__", defArgs s_InvalidOctets____init__, defBody s_InvalidOctets____init__, defScope s_InvalidOctets____init__, [], []⟩
def d_InvalidShape____init__ : He.DefD := ⟨("InvalidShape", some "__init__"), "__init__", "InvalidShape.__init__", defArgs s_InvalidShape____init__, defBody s_InvalidShape____init__, defScope s_InvalidShape____init__, [], []⟩
def fnl : List He.DefD := [d__law_take, d__law_shape, d_is_int_from, d_is_block_count, d_is_page_count, d_is_bad_count, d__clean_block, d__law_counts_right, d__law_drawn_octets, d__law_page, d__law_odd_index, d__law_odd_octets, d__law_is_index, d__law_are_octets, d__law_due_error, d_is_list, d_is_octets, d_is_octets_of, d_changed, d__law_done, d__law_is_very, d__law_followed, d__law_is_page, d__law_call_right, d__law_pages_right, d__law_shape_error, d__law_shapes_right, d__law_right, d__law_box, d__law_cell, d_law, d_Chip____init__, d_Chip___check_block, d_Chip__erases, d_Chip___check_page, d_Chip__bad_blocks, d_Chip___set_octets, d_Chip___do_op, d_Chip__write, d_Chip__erase, d_Chip__read, d_InvalidBlock____init__, d_InvalidPage____init__, d_InvalidOctets____init__, d_InvalidShape____init__]
def fal : List He.Fa := [.glo "_law_take", .glo "_law_shape", .glo "is_int_from", .glo "is_block_count", .glo "is_page_count", .glo "is_bad_count", .glo "_clean_block", .glo "_law_counts_right", .glo "_law_drawn_octets", .glo "_law_page", .glo "_law_odd_index", .glo "_law_odd_octets", .glo "_law_is_index", .glo "_law_are_octets", .glo "_law_due_error", .glo "is_list", .glo "is_octets", .glo "is_octets_of", .glo "changed", .glo "_law_done", .glo "_law_is_very", .glo "_law_followed", .glo "_law_is_page", .glo "_law_call_right", .glo "_law_pages_right", .glo "_law_shape_error", .glo "_law_shapes_right", .glo "_law_right", .glo "_law_box", .glo "_law_cell", .glo "law", .free "abs", .free "all", .free "bool", .free "enumerate", .free "int", .free "isinstance", .free "len", .free "list", .free "max", .free "min", .free "range", .free "repr", .free "sum", .free "tuple", .free "zip", .int "LEAST_BLOCKS" 8, .int "LEAST_GOOD_BLOCKS" 7, .int "LEAST_PAGES" 8, .int "MASK_BITS" 4096, .int "MOST_BLOCKS" 24, .int "MOST_PAGES" 16, .int "PAGE_OCTETS" 31, .glo "Chip", .glo "FlashError", .glo "InvalidBlock", .glo "InvalidPage", .glo "InvalidOctets", .glo "InvalidShape", .cls "Chip", .noat "Chip" "blocks", .noat "Chip" "pages", .noat "Chip" "bad", .noat "Chip" "ops", .noat "Chip" "cuts", .noat "Chip" "_octets", .noat "Chip" "_erased", .noat "Chip" "_turned_bad", .noat "Chip" "_cut_plans", .noat "Chip" "_fail_plans", .noat "Chip" "_reads", .meth "Chip" "_check_block", .meth "Chip" "erases", .meth "Chip" "_check_page", .meth "Chip" "bad_blocks", .meth "Chip" "_set_octets", .meth "Chip" "_do_op", .meth "Chip" "write", .meth "Chip" "erase", .meth "Chip" "read", .mkr "Chip"]
abbrev Rw : PySem.W.OpenRow := PySem.W.OpenLaw.row PySem.Challenge.rw_onewaybits_k03_reads_writes_and_erases
def exB (K : PySem.W.Frag) : Bool := errB K "InvalidBlock" "given" && (errB K "InvalidPage" "given" && (errB K "InvalidOctets" "given" && (errB K "InvalidShape" "given" && (decide (PySem.W.exmOne K (.ref (He.ga K "InvalidPage")) (.ref (He.ga K "InvalidBlock")) = some false) && (decide (PySem.W.exmOne K (.ref (He.ga K "InvalidOctets")) (.ref (He.ga K "InvalidBlock")) = some false) && (decide (PySem.W.exmOne K (.ref (He.ga K "InvalidOctets")) (.ref (He.ga K "InvalidPage")) = some false) && (isEB K (He.ga K "InvalidShape") (He.ga K "FlashError") && (cmpB K (He.ga K "Chip")))))))))
abbrev hk : PySem.W.Hook := He.hookX 6 fal fnl [] [] exB
def ob (s : PySem.W.SharedT) : He.AlX := He.obsX 6 fal fnl [] [] exB (HandSHeadRun.getT s)
theorem ob_eq (s : PySem.W.SharedT) : ob s = hk.obs s.abs := He.obsX_eq (HandSHeadRun.getT_eq s)
def ln0 : List Str := ["_wall", "FlashError", "InvalidOctets", "InvalidMask", "InvalidOp", "InvalidBlock", "InvalidPage", "InvalidShape", "PowerCut", "PAGE_OCTETS", "MASK_BITS", "is_int", "is_int_from", "is_list", "is_octets", "is_octets_of", "is_mask", "changed", "_check_octets", "_check_pair", "_ones", "_worth", "LEAST_BLOCKS", "MOST_BLOCKS", "LEAST_PAGES", "MOST_PAGES", "LEAST_GOOD_BLOCKS", "Chip", "is_block_count", "is_page_count"]
def ln1 : List Str := ["is_bad_count", "_clean_block", "_law_cell", "_law_box", "_law_take", "_law_shape", "_law_is_index", "_law_are_octets", "_law_odd_index", "_law_odd_octets", "_law_drawn_octets", "_law_is_very", "_law_done", "_law_due_error", "_law_page", "_law_is_page", "_law_counts_right", "_law_followed", "_law_call_right", "_law_shape_error", "_law_shapes_right", "_law_pages_right", "_law_right"]
abbrev lns : List Str := ln0 ++ ln1
theorem run (w : World) : HandSHeadRun.RunEq Rw (PySem.W.view Rw.prog [58]) hk ob 30000 lns w := by
  intro os
  kernel_rfl
end K3
namespace K3
open PySem PySem.Spec PyProof.Rows L2 VB BM
section
variable {P : Program} {w : World} {K : PySem.W.Frag} {mg : Str → Option Value} {base : Heap} {f : Addr} {fd : FuncData}
def spTake : Sp := fun vs H Q _ => ∃ (a : Addr) (many n : Int), vs = [.ref a, .int many] ∧ Box H a n ∧ 0 < many ∧ many ≤ 2305843009213693952 ∧ n < 100000000 ∧
  ∀ (r : Int) (H' : Hp), 0 ≤ r → r < many → Exb a H H' → Box H' a (n + 1) → Q (.int r) H'
theorem ok_take (T : Txt K mg) (F : FnP K "_law_take" s__law_take f fd) : Fg P w K mg base CX0 1 f fd ["_law_box_here", "_law_many"] spTake := by
  refine fg_of F sc__law_take (fun vs H Q E h => ?_) (fun cdv A outer s H vs Q E hr h => ⟨_, (PSs.nox (pss_cons (ps_if (PW.pt (pw_and (pt_tru (K := K) (pe_ix (u_ix (K := K)) (pv 0) pe_int (fun _ _ => rfl)) (by intro _; rfl)) (pw_and1 (pt_cmpR op_gt (pe_ix (u_ix (K := K)) (pv 0) pe_int (fun _ _ => rfl)) pe_int (nomark _)))))
  (pss_cons (ps_set (i := 2) sc__law_take.nd rfl (by first | exact Or.inl rfl | exact Or.inr rfl) (pe_op u_mod (pe_callTy call_int1 (by rfl) T.f_int (by decide +kernel) (pa_cons (pe_ix (u_ix (K := K)) (pv 0) pe_int (fun _ _ => rfl)) pa_nil)) (pv 1)))
  (pss_cons (ps_asg (pe_op op_fdivW (pe_ix (u_ix (K := K)) (pv 0) pe_int (fun _ _ => rfl)) (pv 1)) (pg_sub (pv 0) pe_int set_list))
  (pss_one (ps_ret (pv 2))))) pss_nil)
  (pss_cons (ps_asg (pe_op (u_add (K := K)) (pe_ix (u_ix (K := K)) (pv 0) pe_int (fun _ _ => rfl)) pe_int) (pg_sub (pv 0) pe_int set_list))
  (pss_cons (ps_set (i := 3) sc__law_take.nd rfl (by first | exact Or.inl rfl | exact Or.inr rfl) (pe_op u_mod (pe_callTy call_int1 (by rfl) T.f_int (by decide +kernel) (pa_cons (pe_op op_pow (pe_op (u_add (K := K)) (pe_op (u_add (K := K)) (pe_ix (u_ix (K := K)) (pv 0) pe_int (fun _ _ => rfl)) (pe_op (u_mul (K := K)) pe_int (pe_ix (u_ix (K := K)) (pv 0) pe_int (fun _ _ => rfl)))) pe_int) pe_int) pa_nil)) pe_int))
  (pss_one (ps_ret (pe_op u_mod (pe_callTy call_int1 (by rfl) T.f_int (by decide +kernel) (pa_cons (pe_op op_fdivW (pe_op u_mod (pe_callTy call_int1 (by rfl) T.f_int (by decide +kernel) (pa_cons (pe_op op_pow (pe_op (u_add (K := K)) (pe_op (u_mul (K := K)) (pv 3) pe_int) (pe_op (u_mul (K := K)) pe_int (pe_ix (u_ix (K := K)) (pv 0) pe_int (fun _ _ => rfl)))) pe_int) pa_nil)) pe_int) pe_int) pa_nil)) (pv 1)))))))), ?_⟩)
  · obtain ⟨a, many, n, rfl, _⟩ := h
    rfl
  · obtain ⟨a, many, n, rfl, ⟨d, m, c, b, hb, hd, hm, hm2, hc, hc2⟩, h1, h2, hn, q⟩ := h
    have S : SqL K H a [.int d, .bl b, .int m, .int c] := SqL.of hb
    -- the digits' way
    have A1 : b = true → 0 < d → Q (.int (d % many)) (upd H a (.lst [.int (d / many), .bl b, .int m, .int c])) := by
      intro _ _
      refine q _ _ (Int.emod_nonneg _ (by omega)) (Int.emod_lt_of_pos _ h1) Exb.upd ⟨d / many, m, c, b, upd_same, Int.ediv_nonneg hd (by omega), hm, hm2, hc, by omega⟩
    -- the mixed way
    have A2 : ∀ z : Int, Q (.int (z % many)) (upd H a (.lst [.int d, .bl b, .int m, .int (c + 1)])) := by
      intro z
      exact q _ _ (Int.emod_nonneg _ (by omega)) (Int.emod_lt_of_pos _ h1) Exb.upd ⟨d, m, c + 1, b, upd_same, hd, hm, hm2, by omega, by omega⟩
    have S1 : SqL K (upd H a (.lst [.int d, .bl b, .int m, .int (c + 1)])) a [.int d, .bl b, .int m, .int (c + 1)] := SqL.of upd_same
    have k1 : CMulX 32452867 (c + 1) := mulx_ok (a := 30) (b := 30) (by decide) (by show _ < 1073741824; omega) (by decide)
    have k2 : ∀ x : Int, 0 ≤ x → x < 2147483647 → CMulX x 48271 := fun x _ _ => mulx_ok (a := 32) (b := 20) (by show _ < 4294967296; omega) (by decide) (by decide)
    have k3 : CMulX 7919 (c + 1) := mulx_ok (a := 30) (b := 30) (by decide) (by show _ < 1073741824; omega) (by decide)
    have p1 : CPow (m + 32452867 * (c + 1) + 49979693) 5 := ⟨by decide, by decide, by show _ < 18446744073709551616; omega⟩
    have p2 : ∀ x : Int, 0 ≤ x → x < 2147483647 → CPow (x * 48271 + 7919 * (c + 1)) 3 := fun x _ _ => ⟨by decide, by decide, by show _ < 18446744073709551616; omega⟩
    have nz1 : (0 : Int) < 2147483647 := by decide
    have nz2 : (0 : Int) < 2147483587 := by decide
    have cd64 : CDivW 1 64 := ⟨by decide, by decide⟩
    have cdm : CDivW 1 many := wide_div (b := 62) h1 (by show _ < 4611686018427387904; omega) (by decide) (by decide)
    have hx0 : ∀ z : Int, 0 ≤ z % 2147483647 ∧ z % 2147483647 < 2147483647 := by
      intro z
      exact ⟨Int.emod_nonneg _ (by decide), Int.emod_lt_of_pos _ (by decide)⟩
    refine ⟨_, rfl, .inl ⟨a, _, 1, _, rfl, rfl, S, rfl, b, rfl, ?_⟩⟩
    by_cases hbd : b = true ∧ 0 < d
    · obtain ⟨rfl, hd0⟩ := hbd
      refine iteT ⟨_, rfl, .inl ⟨a, _, 0, _, rfl, rfl, S, rfl, _, _, rfl, rfl, _, rfl, ?_⟩⟩
      rw [decide_eq_true hd0]
      refine iteT ⟨_, rfl, .inl ⟨a, _, 0, _, rfl, rfl, S, rfl, .inl ⟨_, rfl, _, rfl, _, _, rfl, rfl, h1, ?_⟩⟩⟩
      refine ⟨_, rfl, .inl ⟨a, _, 0, _, rfl, rfl, S, rfl, _, rfl, _, _, rfl, rfl, cdm, _, rfl, a, _, _, _, rfl, rfl, hb, rfl, ?_⟩⟩
      exact ⟨_, rfl, A1 rfl hd0⟩
    · apply once
      · intro rest
        cases b with
        | false => exact iteF (iteF rest)
        | true =>
          refine iteT ⟨_, rfl, .inl ⟨a, _, 0, _, rfl, rfl, S, rfl, _, _, rfl, rfl, _, rfl, ?_⟩⟩
          rw [decide_eq_false (fun z => hbd ⟨rfl, z⟩)]
          exact iteF rest
      refine ⟨_, rfl, .inl ⟨a, _, 3, _, rfl, rfl, S, rfl, .inl ⟨_, _, rfl, rfl, _, rfl, a, _, _, _, rfl, rfl, hb, rfl, ?_⟩⟩⟩
      refine ⟨_, rfl, .inl ⟨a, _, 2, _, rfl, rfl, S1, rfl, ?_⟩⟩
      refine ⟨_, rfl, .inl ⟨a, _, 3, _, rfl, rfl, S1, rfl, .inl ⟨_, _, rfl, rfl, k1, .inl ⟨_, _, rfl, rfl, .inl ⟨_, _, rfl, rfl, _, _, rfl, rfl, p1, .inl ⟨_, rfl, _, _, rfl, rfl, nz1, ?_⟩⟩⟩⟩⟩⟩
      refine ⟨_, rfl, .inl ⟨_, _, rfl, rfl, k2 _ (hx0 _).1 (hx0 _).2, ?_⟩⟩
      refine ⟨_, rfl, .inl ⟨a, _, 3, _, rfl, rfl, S1, rfl, .inl ⟨_, _, rfl, rfl, k3, .inl ⟨_, _, rfl, rfl, _, _, rfl, rfl, p2 _ (hx0 _).1 (hx0 _).2, .inl ⟨_, rfl, _, _, rfl, rfl, nz2, ?_⟩⟩⟩⟩⟩
      refine ⟨_, _, rfl, rfl, cd64, .inl ⟨_, rfl, _, rfl, _, _, rfl, rfl, h1, ?_⟩⟩
      exact A2 _
/-! ### cells and boxes -/
def spBox : Sp := fun vs H Q _ => ∃ g : Int, vs = [.int g] ∧ ∀ (p : Addr) (H' : Hp), H p = none → Evl.Ex H H' → Box H' p 0 → Q (.ref p) H'
theorem ok_box (T : Txt K mg) (F : FnP K "_law_box" s__law_box f fd) : Fg P w K mg base CX0 1 f fd ["_law_great"] spBox := by
  refine fg_of F sc__law_box (fun vs H Q E h => ?_) (fun cdv A outer s H vs Q E hr h => ⟨_, (PSs.nox (pss_one (ps_ret (pe_lst (pa_cons (pe_callB call_abs (by rfl) T.f_abs (by decide +kernel) (pa_cons (pv 0) pa_nil)) (pa_cons (pe_cmpR op_ge (pe_callB call_abs (by rfl) T.f_abs (by decide +kernel) (pa_cons (pv 0) pa_nil)) (pe_op op_pow pe_int pe_int) (nomark _)) (pa_cons (pe_op u_mod (pe_callTy call_int1 (by rfl) T.f_int (by decide +kernel) (pa_cons (pe_callB call_abs (by rfl) T.f_abs (by decide +kernel) (pa_cons (pv 0) pa_nil)) pa_nil)) pe_int) (pa_cons pe_int pa_nil)))))))), ?_⟩)
  · obtain ⟨g, rfl, _⟩ := h
    rfl
  · obtain ⟨g, rfl, q⟩ := h
    have nz : (0 : Int) < 2147483629 := by decide
    have hp : CPow 10 18 := ⟨by decide, by decide, by decide⟩
    refine ⟨_, rfl, _, rfl, _, rfl, _, rfl, _, _, rfl, rfl, hp, _, _, rfl, rfl, _, rfl, _, rfl, .inl ⟨_, rfl, _, _, rfl, rfl, nz, ?_⟩⟩
    refine ⟨by show 4 ≤ sizeLine; decide, fun p hp => q p _ hp (Evl.Ex.new hp) ⟨_, _, _, _, upd_same, ?_, ?_, ?_, by omega, by omega⟩⟩
    · split <;> omega
    · exact Int.emod_nonneg _ (by decide)
    · exact Int.emod_lt_of_pos _ (by decide)
def spCell (K : PySem.W.Frag) : Sp := fun vs H Q _ => ∃ (a : Addr) (ns : List Int) (k : Int), vs = [.ref a, .int k] ∧ SqL K H a (ns.map V.int) ∧ 0 ≤ k ∧ k ≤ 100 ∧ ns.length ≤ 1000 ∧
  ∀ (g : Int) (H' : Hp), Evl.Ex H H' → Q (.int g) H'
theorem ok_cell (T : Txt K mg) (F : FnP K "_law_cell" s__law_cell f fd) : Fg P w K mg base CX0 1 f fd ["_law_script", "_law_k"] (spCell K) := by
  refine fg_of F sc__law_cell (fun vs H Q E h => ?_) (fun cdv A outer s H vs Q E hr h => ⟨_, (PSs.nox (pss_one (ps_ret (pe_ifExp (pt_cmpR op_lt (pv 1) (pe_callB (u_len (K := K)) (by rfl) T.f_len (by decide +kernel) (pa_cons (pv 0) pa_nil)) (nomark _)) (pe_ix (u_ix (K := K)) (pv 0) (pv 1) (fun _ _ => rfl)) (pe_op (u_add (K := K)) (pe_op (u_add (K := K)) (pe_op (u_mul (K := K)) pe_int (pv 1)) pe_int) (pe_op u_mod (pe_callTy call_int1 (by rfl) T.f_int (by decide +kernel) (pa_cons (pe_callB (u_sum (K := K) rfl) (by rfl) T.f_sum (by decide +kernel) (pa_cons (pe_slice (u_sl (K := K)) (pv 0) po_none (po_some pe_int)) pa_nil)) pa_nil)) pe_int)))))), ?_⟩)
  · obtain ⟨a, ns, k, rfl, _⟩ := h
    rfl
  · obtain ⟨a, ns, k, rfl, S, k0, k1, hl, q⟩ := h
    have nz : (0 : Int) < 1000003 := by decide
    refine ⟨_, rfl, _, rfl, _, _, rfl, .inl ⟨_, S, rfl⟩, _, _, rfl, rfl, _, rfl, ?_⟩
    rw [List.length_map]
    refine ite2 (fun h => ?_) (fun h => ?_)
    · have h' : k < (ns.length : Int) := by simpa using h
      obtain ⟨j, rfl⟩ : ∃ j : Nat, k = j := ⟨k.toNat, by omega⟩
      have hj : j < ns.length := by omega
      refine ⟨_, rfl, _, rfl, .inl ⟨a, _, _, .int ns[j], rfl, rfl, S, ?_, q _ _ (Evl.Ex.refl _)⟩⟩
      rw [atI_nat]
      simp [hj]
    · have km : CMulX 7919 k := mulx_ok (a := 30) (b := 30) (by decide) (by show _ < 1073741824; omega) (by decide)
      have cut : ∃ ms : List Int, cutV (ns.map V.int) none (some 1) = ms.map V.int := ⟨(ns.drop _).take _, by unfold cutV; rw [← List.map_drop, ← List.map_take]⟩
      obtain ⟨ms, hms⟩ := cut
      refine ⟨_, rfl, .inl ⟨_, _, rfl, rfl, km, .inl ⟨_, _, rfl, rfl, _, rfl, _, rfl, .inl ⟨a, _, rfl, S, fun p hp => ⟨p, ms, rfl, ?_, .inl ⟨_, rfl, _, _, rfl, rfl, nz, .inl ⟨_, _, rfl, rfl, q _ _ (Evl.Ex.new hp)⟩⟩⟩⟩⟩⟩⟩
      rw [hms]
      exact SqL.of upd_same

end
end K3
namespace K3
open PySem PySem.Spec PyProof.Rows L2 VB BM
theorem zc_snoc_take (o u : Int) (j : Nat) (h : ws8[j]? = some u) : zc ((ws8.map fun u => o / u % 2).take (j + 1)) = zc ((ws8.map fun u => o / u % 2).take j) + (1 - o / u % 2) := by
  have e : ((ws8.map fun u => o / u % 2).take (j + 1)) = ((ws8.map fun u => o / u % 2).take j) ++ [o / u % 2] := by
    refine take_snoc ?_
    rw [List.getElem?_map, h]
    rfl
  rw [e]
  unfold zc
  rw [List.count_append]
  rcases Int.emod_two_eq (o / u) with z | z <;> rw [z] <;> simp
theorem zc_app (a b : List Int) : zc (a ++ b) = zc a + zc b := by
  unfold zc
  rw [List.count_append]
  omega
/-- a list as new, of octets -/
abbrev NewL (a : Addr) (n : Int) (H : Hp) (Q : VK) (ok : List Int → Prop) : Prop := ∀ (p : Addr) (H' : Hp) (xs : List Int), Oct xs → ok xs → p ≠ a → H p = none → Exb a H H' → Box H' a n → H' p = some (.lst (IV xs)) → Q (.ref p) H'
theorem oct_set {os : List Int} {i : Nat} {v : Int} (h : Oct os) (h0 : 0 ≤ v ∧ v ≤ 255) : Oct (os.set i v) := by
  intro z hz
  rcases List.mem_or_eq_of_mem_set hz with z1 | z1
  · exact h z z1
  · omega
theorem oct_app {a b : List Int} (h1 : Oct a) (h2 : Oct b) : Oct (a ++ b) := by
  intro o ho
  rcases List.mem_append.mp ho with z | z
  · exact h1 o z
  · exact h2 o z
theorem oct_rep {c : Nat} {o : Int} (h : 0 ≤ o ∧ o ≤ 255) : Oct (List.replicate c o) := fun z hz => by
  rw [List.eq_of_mem_replicate hz]
  exact h
theorem bit_up : ∀ o : Nat, o < 256 → ∀ j : Nat, j < 8 → (o / (128 / 2 ^ j) % 2 = 0 → o + 128 / 2 ^ j < 256) ∧ (o / (128 / 2 ^ j) % 2 = 1 → 128 / 2 ^ j ≤ o) := by decide +kernel
theorem ws8_at (j : Nat) (h : j < 8) : ws8[j]? = some ((128 / 2 ^ j : Nat) : Int) := by
  rcases j with _ | _ | _ | _ | _ | _ | _ | _ | j
  all_goals first | rfl | omega
section
variable {P : Program} {w : World} {K : PySem.W.Frag} {mg : Str → Option Value} {base : Heap} {f : Addr} {fd : FuncData}
/-- one value many times -/
theorem rep_l {H : Hp} {t : Addr} {k : Int} {o : Int} {Q : VK} (S : H t = some (.lst [V.int o])) (h1 : 0 ≤ k) (h2 : k ≤ 1000) (q : ∀ p, H p = none → Q (.ref p) (upd H p (.lst (IV (List.replicate k.toNat o))))) : rMulU K (.ref t) (.int k) H Q := by
  refine .inr (.inl ⟨t, k, _, rfl, rfl, S, by omega, by omega, ?_, fun p hp => ?_⟩)
  · exact Evl.sz_of (by simp; omega)
  · rw [rep_flat]
    exact q p hp
/-- two lists, one behind the other -/
theorem cat_l {H : Hp} {p r : Addr} {xs ys : List Int} {Q : VK} (h1 : H p = some (.lst (IV xs))) (h2 : H r = some (.lst (IV ys))) (hl : xs.length + ys.length ≤ 10000) (q : ∀ t, H t = none → Q (.ref t) (upd H t (.lst (IV (xs ++ ys))))) : rAddU K (.ref p) (.ref r) H Q := by
  refine .inr (.inl ⟨p, r, _, _, rfl, rfl, h1, h2, ?_, fun t ht => ?_⟩)
  · rw [iv_len, iv_len]
    exact Evl.sz_of (by omega)
  · have e : IV xs ++ IV ys = IV (xs ++ ys) := (List.map_append ..).symm
    rw [e]
    exact q t ht
/-! ### drawn octets -/
end
end K3
namespace K3
open PySem PySem.Spec PyProof.Rows L2 VB BM
theorem Box.mut {H : Hp} {a D : Addr} {n : Int} {o : HO} (B : Box H a n) (h : D ≠ a) : Box (upd H D o) a n := by
  obtain ⟨d, m, c, k, hb, r⟩ := B
  exact ⟨d, m, c, k, by rw [upd_ne (Ne.symm h)]; exact hb, r⟩
theorem Exb.mut {H0 H : Hp} {a D : Addr} {o : HO} (e : Exb a H0 H) (h : H0 D = none) : Exb a H0 (upd H D o) := by
  intro b u nb z
  have hb : b ≠ D := by
    rintro rfl
    rw [h] at z
    cases z
  rw [upd_ne hb]
  exact e b u nb z
theorem Exb.fresh {H H' : Hp} {a p : Addr} (e : Exb a H H') (h : H' p = none) (n : p ≠ a) : H p = none := by
  cases z : H p with
  | none => rfl
  | some o =>
    have := e p o n z
    rw [h] at this
    cases this
theorem Exb.refl (a : Addr) (H : Hp) : Exb a H H := fun _ _ _ e => e
theorem pick {xs : List Int} (h : Oct xs) {r : Int} (r0 : 0 ≤ r) (r1 : r < (xs.length : Int)) : ∃ v, 0 ≤ v ∧ v ≤ 255 ∧ atI (IV xs) r = some (.int v) := by
  obtain ⟨j, rfl⟩ : ∃ j : Nat, r = j := ⟨r.toNat, by omega⟩
  obtain ⟨v, hv⟩ := get_lt (l := xs) (i := j) (by omega)
  have := h v (List.mem_of_getElem? hv)
  exact ⟨v, this.1, this.2, iv_at hv⟩
theorem octs {xs : List Int} (h : (xs.all fun o => decide (0 ≤ o ∧ o ≤ 255)) = true) : Oct xs := fun o ho => by
  have := List.all_eq_true.mp h o ho
  simpa using this
section
variable {P : Program} {w : World} {K : PySem.W.Frag} {mg : Str → Option Value} {base : Heap} {f : Addr} {fd : FuncData}
/-! ### a page that fits -/
/-! ### many bits turned -/
end
end K3
namespace K3
open PySem PySem.Spec PyProof.Rows L2 VB BM
theorem zc_bound (bs : List Int) : 0 ≤ zc bs ∧ zc bs ≤ (bs.length : Int) := by
  have h : bs.count 0 ≤ bs.length := List.count_le_length
  unfold zc
  omega
theorem and_oct {x y : Int} (hx : 0 ≤ x ∧ x ≤ 255) (hy : 0 ≤ y ∧ y ≤ 255) : 0 ≤ Builtin.bitAnd x y ∧ Builtin.bitAnd x y ≤ 255 := by
  obtain ⟨a, rfl⟩ := nat_of hx.1
  obtain ⟨b, rfl⟩ := nat_of hy.1
  rw [VB.bitAnd_nn]
  have := Nat.and_le_left (n := a) (m := b)
  omega
theorem or_nn (a b : Nat) : Builtin.bitOr (a : Int) (b : Int) = ((a ||| b : Nat) : Int) := by
  rw [Bits.bitOr_pp (by omega) (by omega)]
  rfl
theorem or_oct {x y : Int} (hx : 0 ≤ x ∧ x ≤ 255) (hy : 0 ≤ y ∧ y ≤ 255) : 0 ≤ Builtin.bitOr x y ∧ Builtin.bitOr x y ≤ 255 := by
  obtain ⟨a, rfl⟩ := nat_of hx.1
  obtain ⟨b, rfl⟩ := nat_of hy.1
  rw [or_nn]
  have := Nat.or_lt_two_pow (n := 8) (x := a) (y := b) (by omega) (by omega)
  omega
theorem xor_oct {x y : Int} (hx : 0 ≤ x ∧ x ≤ 255) (hy : 0 ≤ y ∧ y ≤ 255) : 0 ≤ Builtin.bitXor x y ∧ Builtin.bitXor x y ≤ 255 := by
  obtain ⟨a, rfl⟩ := nat_of hx.1
  obtain ⟨b, rfl⟩ := nat_of hy.1
  rw [VB.bitXor_nn]
  have := Nat.xor_lt_two_pow (n := 8) (x := a) (y := b) (by omega) (by omega)
  omega
section
variable {P : Program} {w : World} {K : PySem.W.Frag} {mg : Str → Option Value} {base : Heap} {f : Addr} {fd : FuncData}
theorem getD_get {xs : List Int} {i : Nat} (h : i < xs.length) : xs[i]? = some (xs.getD i 0) := by
  rw [List.getD_eq_getElem?_getD]
  simp [h]
theorem nonempty (os : List Int) (oo : Oct os) (lo : os.length = 30) : ∃ j, j < 31 ∧ 0 < (os ++ [zc (bitsL os)]).getD j 0 := by
  have n0 : (os ++ [zc (bitsL os)]).getD 30 0 = zc (bitsL os) := by
    rw [List.getD_eq_getElem?_getD, List.getElem?_append_right (by omega), lo]
    rfl
  cases os with
  | nil => cases lo
  | cons o os =>
    have ho := oo o (List.mem_cons_self ..)
    by_cases z : 0 < o
    · exact ⟨0, by omega, z⟩
    · have : o = 0 := by omega
      subst this
      refine ⟨30, by omega, ?_⟩
      rw [n0, bitsL_cons, zc_app]
      have h1 : zc (bitsOf 0) = 8 := by decide
      have h2 := (zc_bound (bitsL os)).1
      omega
end
end K3
namespace K3
open PySem PySem.Spec PyProof.Rows L2 VB BM
section
variable {P : Program} {w : World} {K : PySem.W.Frag} {mg : Str → Option Value} {base : Heap} {f : Addr} {fd : FuncData}
/-- a chip's fields -/
structure Cp where
  blocks : Int
  pages : Int
  bad : Int
  ops : Int
  cuts : Int
  o : Addr
  e : Addr
  t : Addr
  p : Addr
  q : Addr
  r : Addr
def Cp.fs (c : Cp) : List (Str × V) := [("blocks", .int c.blocks), ("pages", .int c.pages), ("bad", .int c.bad), ("ops", .int c.ops), ("cuts", .int c.cuts), ("_octets", .ref c.o), ("_erased", .ref c.e), ("_turned_bad", .ref c.t), ("_cut_plans", .ref c.p), ("_fail_plans", .ref c.q), ("_reads", .ref c.r)]
abbrev Ch (K : PySem.W.Frag) : Addr := He.ga K "Chip"
def InsAt (K : PySem.W.Frag) (H : Hp) (a : Addr) (c : Cp) : Prop := ∃ dx, H a = some (.ins (Ch K) dx c.fs)
structure TxC (K : PySem.W.Frag) : Prop where
  cls : Cls K (Ch K)
  no : ∀ x ∈ (["blocks", "pages", "bad", "ops", "cuts", "_octets", "_erased", "_turned_bad", "_cut_plans", "_fail_plans", "_reads"] : List Str), NoAttr K (Ch K) x
theorem InsAt.ex {H H' : Hp} {a : Addr} {c : Cp} (h : InsAt K H a c) (e : Evl.Ex H H') : InsAt K H' a c := by
  obtain ⟨dx, h⟩ := h
  exact ⟨dx, e _ _ h⟩
end
end K3
namespace K3
open PySem PySem.Spec PyProof.Rows L2 VB BM
section
variable {P : Program} {w : World} {K : PySem.W.Frag} {mg : Str → Option Value} {base : Heap} {f : Addr} {fd : FuncData}
abbrev BV (bs : List Bool) : List V := bs.map V.bl
theorem bv_at {bs : List Bool} {i : Nat} (h : i < bs.length) : atI (BV bs) (i : Int) = some (.bl (bs.getD i false)) := by
  refine atI_nat ?_
  rw [List.getElem?_map, List.getD_eq_getElem?_getD]
  simp [h]
/-- the blocks' octets, each a tuple, at the refs -/
def Tups (K : PySem.W.Frag) (H : Hp) (rs : List Addr) (os : List (List Int)) : Prop := rs.length = os.length ∧ ∀ i, i < os.length → SqT K H (rs.getD i 0) (IV (os.getD i []))
theorem tup_ix {H : Hp} {l : Addr} {rs : List Addr} {b : Nat} {Q : VK} (h : H l = some (.lst (rs.map V.ref))) (hb : b < rs.length) (q : Q (.ref (rs.getD b 0)) H) : rIx K (.ref l) (.int (b : Int)) H Q := by
  refine Sv.ix (x := .non) (Sv.lst h) (i := (b : Int)) ?_ q
  refine atI_nat ?_
  rw [List.getElem?_map, List.getD_eq_getElem?_getD]
  simp [hb]
end
end K3
namespace K3
open PySem PySem.Spec PyProof.Rows L2 VB BM
section
variable {P : Program} {w : World} {K : PySem.W.Frag} {mg : Str → Option Value} {base : Heap} {f : Addr} {fd : FuncData}
def spCB : Sp := fun vs H Q _ => ∃ n : Nat, vs = [.int (n : Int)] ∧ 8 ≤ n ∧ n ≤ 16 ∧ ∀ (r : Addr) (H' : Hp), H r = none → Evl.Ex H H' → H' r = some (.tup (IV (List.replicate (31 * n) 255))) → Q (.ref r) H'
theorem ok_cb (T : Txt K mg) (F : FnP K "_clean_block" s__clean_block f fd) : Fg P w K mg base CX0 1 f fd ["pages"] spCB := by
  refine fg_of F sc__clean_block (fun vs H Q E h => ?_) (fun cdv A outer s H vs Q E hr h => ⟨_, (PSs.nox (pss_one (ps_ret (pe_op (u_mul (K := K)) (pe_tup (pa_cons pe_int pa_nil)) (pe_op (u_mul (K := K)) (pv 0) (pe_globI rfl T.g_PAGE_OCTETS)))))), ?_⟩)
  · obtain ⟨n, rfl, _⟩ := h
    rfl
  · obtain ⟨n, rfl, h1, h2, q⟩ := h
    refine ⟨by show 1 ≤ sizeLine; decide, fun t nt => ⟨_, rfl, .inl ⟨_, _, rfl, rfl, mulx_ok (a := 30) (b := 30) (by show _ < 1073741824; omega) (by decide) (by decide), ?_⟩⟩⟩
    have e : ((n : Int) * 31).toNat = 31 * n := by omega
    refine .inr (.inr ⟨t, _, [V.int 255], rfl, rfl, SqT.of upd_same, by simp, by show (2 : Int) ≤ (n : Int) * 31; omega, by show (n : Int) * 31 ≤ 1000; omega, by decide, fun p np => ?_⟩)
    have x0 := Evl.Ex.new (o := .tup [V.int 255]) nt
    have ef : (List.replicate ((n : Int) * 31).toNat [V.int 255]).flatten = IV (List.replicate (31 * n) 255) := by rw [e, rep_flat]
    show Q (.ref p) (upd _ p (.tup (List.replicate ((n : Int) * 31).toNat [V.int 255]).flatten))
    rw [ef]
    exact q p _ (Evl.fresh_back x0 np) (x0.trans (Evl.Ex.new np)) upd_same
theorem putF_new {f : Str} {v : V} : ∀ {fs : List (Str × V)}, (fs.map (·.1)).all (fun g => decide (g ≠ f)) = true → putF f v fs = fs ++ [(f, v)]
  | [], _ => rfl
  | (g, x) :: r, h => by
    rw [List.map_cons, List.all_cons, Bool.and_eq_true] at h
    have hg : g ≠ f := of_decide_eq_true h.1
    have hr := putF_new (v := v) h.2
    show (if g = f then (g, v) :: r else (g, x) :: putF f v r) = _
    rw [if_neg hg, hr]
    rfl
/-- one value many times -/
theorem repV {H : Hp} {t : Addr} {n : Nat} {v : V} {Q : VK} (S : H t = some (.lst [v])) (h1 : n ≤ 1000) (q : ∀ p, H p = none → Q (.ref p) (upd H p (.lst (List.replicate n v)))) : rMulU K (.ref t) (.int (n : Int)) H Q := by
  have e : (List.replicate ((n : Int)).toNat [v]).flatten = List.replicate n v := by
    have : ((n : Int)).toNat = n := by omega
    rw [this]
    simp
  refine .inr (.inl ⟨t, n, _, rfl, rfl, S, by omega, by omega, ?_, fun p hp => ?_⟩)
  · exact Evl.sz_of (by simp; omega)
  · rw [e]
    exact q p hp
end
end K3
namespace K3
open PySem PySem.Spec PyProof.Rows L2 VB BM
section
variable {P : Program} {w : World} {K : PySem.W.Frag} {mg : Str → Option Value} {base : Heap} {f : Addr} {fd : FuncData}
/-- what a chip is, beside its fields -/
structure CS where
  c : Cp
  rs : List Addr
  os : List (List Int)
  er : List Int
  tb : List Bool
  kp : List (Key × V)
  kq : List (Key × V)
structure ChipAt (K : PySem.W.Frag) (H : Hp) (a dx : Addr) (s : CS) : Prop where
  ins : H a = some (.ins (Ch K) dx s.c.fs)
  o : H s.c.o = some (.lst (s.rs.map V.ref))
  e : H s.c.e = some (.lst (IV s.er))
  t : H s.c.t = some (.lst (BV s.tb))
  p : H s.c.p = some (.dK s.kp)
  q : H s.c.q = some (.dK s.kq)
  tup : ∀ i, i < s.os.length → H (s.rs.getD i 0) = some (.tup (IV (s.os.getD i [])))
  oe : s.c.o ≠ s.c.e
  ot : s.c.o ≠ s.c.t
  et : s.c.e ≠ s.c.t
  pq : s.c.p ≠ s.c.q
  nr : s.rs.length = s.os.length
  ne : s.er.length = s.os.length
  nt : s.tb.length = s.os.length
  nb : s.c.blocks = s.os.length
  b8 : s.os.length ≤ 24
  g8 : 8 ≤ s.c.pages ∧ s.c.pages ≤ 16
  oct : ∀ i, i < s.os.length → Oct (s.os.getD i []) ∧ (s.os.getD i []).length = 31 * s.c.pages.toNat
  rr : H s.c.r = some (.dK []) ∧ s.c.p ≠ s.c.r ∧ s.c.q ≠ s.c.r
theorem put_ops (c : Cp) (n : Int) : putF "ops" (.int n) c.fs = ({ c with ops := n } : Cp).fs := rfl
theorem put_cuts (c : Cp) (n : Int) : putF "cuts" (.int n) c.fs = ({ c with cuts := n } : Cp).fs := rfl
theorem ChipAt.setc {H : Hp} {a dx : Addr} {s : CS} (h : ChipAt K H a dx s) (c' : Cp) (e1 : c'.o = s.c.o) (e2 : c'.e = s.c.e) (e3 : c'.t = s.c.t) (e4 : c'.p = s.c.p) (e5 : c'.q = s.c.q) (e6 : c'.blocks = s.c.blocks) (e7 : c'.pages = s.c.pages) (e8 : c'.r = s.c.r) :
    ChipAt K (upd H a (.ins (Ch K) dx c'.fs)) a dx { s with c := c' } := by
  have nl : ∀ {b : Addr} {xs : List V}, H b = some (.lst xs) → b ≠ a := fun hb z => by rw [z, h.ins] at hb; cases hb
  have nd : ∀ {b : Addr} {xs : List (Key × V)}, H b = some (.dK xs) → b ≠ a := fun hb z => by rw [z, h.ins] at hb; cases hb
  have nt : ∀ {b : Addr} {xs : List V}, H b = some (.tup xs) → b ≠ a := fun hb z => by rw [z, h.ins] at hb; cases hb
  refine ⟨upd_same, ?_, ?_, ?_, ?_, ?_, fun i hi => ?_, ?_, ?_, ?_, ?_, h.nr, h.ne, h.nt, ?_, h.b8, ?_, ?_, ?_, ?_, ?_⟩
  · show upd H a _ c'.o = _
    rw [e1, upd_ne (nl h.o)]
    exact h.o
  · show upd H a _ c'.e = _
    rw [e2, upd_ne (nl h.e)]
    exact h.e
  · show upd H a _ c'.t = _
    rw [e3, upd_ne (nl h.t)]
    exact h.t
  · show upd H a _ c'.p = _
    rw [e4, upd_ne (nd h.p)]
    exact h.p
  · show upd H a _ c'.q = _
    rw [e5, upd_ne (nd h.q)]
    exact h.q
  · rw [upd_ne (nt (h.tup i hi))]
    exact h.tup i hi
  · show c'.o ≠ c'.e
    rw [e1, e2]
    exact h.oe
  · show c'.o ≠ c'.t
    rw [e1, e3]
    exact h.ot
  · show c'.e ≠ c'.t
    rw [e2, e3]
    exact h.et
  · show c'.p ≠ c'.q
    rw [e4, e5]
    exact h.pq
  · show c'.blocks = _
    rw [e6]
    exact h.nb
  · show 8 ≤ c'.pages ∧ c'.pages ≤ 16
    rw [e7]
    exact h.g8
  · show ∀ i, i < s.os.length → Oct (s.os.getD i []) ∧ (s.os.getD i []).length = 31 * c'.pages.toNat
    rw [e7]
    exact h.oct
  · show upd H a _ c'.r = _
    rw [e8, upd_ne (nd h.rr.1)]
    exact h.rr.1
  · show c'.p ≠ c'.r
    rw [e4, e8]
    exact h.rr.2.1
  · show c'.q ≠ c'.r
    rw [e5, e8]
    exact h.rr.2.2
theorem ChipAt.ex {H H' : Hp} {a dx : Addr} {s : CS} (h : ChipAt K H a dx s) (e : Evl.Ex H H') : ChipAt K H' a dx s :=
  ⟨e _ _ h.ins, e _ _ h.o, e _ _ h.e, e _ _ h.t, e _ _ h.p, e _ _ h.q, fun i hi => e _ _ (h.tup i hi), h.oe, h.ot, h.et, h.pq, h.nr, h.ne, h.nt, h.nb, h.b8, h.g8, h.oct, ⟨e _ _ h.rr.1, h.rr.2⟩⟩
theorem ChipAt.setp {H : Hp} {a dx : Addr} {s : CS} (h : ChipAt K H a dx s) (k : List (Key × V)) : ChipAt K (upd H s.c.p (.dK k)) a dx { s with kp := k } := by
  have n : ∀ {b : Addr} {o : HO}, H b = some o → (∀ z, o ≠ .dK z) → b ≠ s.c.p := fun hb d => ne_of hb h.p (d _)
  exact ⟨by rw [upd_ne (n h.ins (fun _ z => by cases z))]; exact h.ins, by rw [upd_ne (n h.o (fun _ z => by cases z))]; exact h.o, by rw [upd_ne (n h.e (fun _ z => by cases z))]; exact h.e, by rw [upd_ne (n h.t (fun _ z => by cases z))]; exact h.t, upd_same,
    by rw [upd_ne (Ne.symm h.pq)]; exact h.q, fun i hi => by rw [upd_ne (n (h.tup i hi) (fun _ z => by cases z))]; exact h.tup i hi, h.oe, h.ot, h.et, h.pq, h.nr, h.ne, h.nt, h.nb, h.b8, h.g8, h.oct, ⟨by rw [upd_ne (Ne.symm h.rr.2.1)]; exact h.rr.1, h.rr.2⟩⟩
theorem ChipAt.setq {H : Hp} {a dx : Addr} {s : CS} (h : ChipAt K H a dx s) (k : List (Key × V)) : ChipAt K (upd H s.c.q (.dK k)) a dx { s with kq := k } := by
  have n : ∀ {b : Addr} {o : HO}, H b = some o → (∀ z, o ≠ .dK z) → b ≠ s.c.q := fun hb d => ne_of hb h.q (d _)
  exact ⟨by rw [upd_ne (n h.ins (fun _ z => by cases z))]; exact h.ins, by rw [upd_ne (n h.o (fun _ z => by cases z))]; exact h.o, by rw [upd_ne (n h.e (fun _ z => by cases z))]; exact h.e, by rw [upd_ne (n h.t (fun _ z => by cases z))]; exact h.t,
    by rw [upd_ne h.pq]; exact h.p, upd_same, fun i hi => by rw [upd_ne (n (h.tup i hi) (fun _ z => by cases z))]; exact h.tup i hi, h.oe, h.ot, h.et, h.pq, h.nr, h.ne, h.nt, h.nb, h.b8, h.g8, h.oct, ⟨by rw [upd_ne (Ne.symm h.rr.2.2)]; exact h.rr.1, h.rr.2⟩⟩
theorem getD_set {α : Type} (xs : List α) (b i : Nat) (y d : α) (h : b < xs.length) : (xs.set b y).getD i d = if i = b then y else xs.getD i d := by
  rw [List.getD_eq_getElem?_getD, List.getD_eq_getElem?_getD, List.getElem?_set]
  by_cases e : b = i
  · subst e
    rw [if_pos rfl, if_pos rfl, if_pos h]
    rfl
  · rw [if_neg e, if_neg (Ne.symm e)]
theorem ChipAt.seto {H : Hp} {a dx : Addr} {s : CS} (h : ChipAt K H a dx s) {b : Nat} (hb : b < s.os.length) {r : Addr} {ys : List Int} (hr : H r = some (.tup (IV ys))) (oy : Oct ys) (ly : ys.length = 31 * s.c.pages.toNat) :
    ChipAt K (upd H s.c.o (.lst ((s.rs.map V.ref).set b (.ref r)))) a dx { s with rs := s.rs.set b r, os := s.os.set b ys } := by
  have nd : ∀ {b : Addr} {o : HO}, H b = some o → (∀ z, o ≠ .lst z) → b ≠ s.c.o := fun hb d => ne_of hb h.o (d _)
  refine ⟨?_, ?_, ?_, ?_, ?_, ?_, fun i hi => ?_, h.oe, h.ot, h.et, h.pq, ?_, ?_, ?_, ?_, ?_, h.g8, fun i hi => ?_, ?_, h.rr.2⟩
  · rw [upd_ne (nd h.ins (fun _ z => by cases z))]
    exact h.ins
  · rw [upd_same]
    show some (HO.lst ((s.rs.map V.ref).set b (.ref r))) = some (HO.lst ((s.rs.set b r).map V.ref))
    rw [List.map_set]
  · rw [upd_ne (Ne.symm h.oe)]
    exact h.e
  · rw [upd_ne (Ne.symm h.ot)]
    exact h.t
  · rw [upd_ne (nd h.p (fun _ z => by cases z))]
    exact h.p
  · rw [upd_ne (nd h.q (fun _ z => by cases z))]
    exact h.q
  · have hi' : i < s.os.length := by
      have : i < (s.os.set b ys).length := hi
      rwa [List.length_set] at this
    show upd H s.c.o _ ((s.rs.set b r).getD i 0) = some (.tup (IV ((s.os.set b ys).getD i [])))
    rw [getD_set _ _ _ _ _ (by rw [h.nr]; exact hb), getD_set _ _ _ _ _ hb]
    by_cases e : i = b
    · rw [if_pos e, if_pos e, upd_ne (nd hr (fun _ z => by cases z))]
      exact hr
    · rw [if_neg e, if_neg e, upd_ne (nd (h.tup i hi') (fun _ z => by cases z))]
      exact h.tup i hi'
  · show (s.rs.set b r).length = (s.os.set b ys).length
    rw [List.length_set, List.length_set]
    exact h.nr
  · show s.er.length = (s.os.set b ys).length
    rw [List.length_set]
    exact h.ne
  · show s.tb.length = (s.os.set b ys).length
    rw [List.length_set]
    exact h.nt
  · show s.c.blocks = (s.os.set b ys).length
    rw [List.length_set]
    exact h.nb
  · show (s.os.set b ys).length ≤ 24
    rw [List.length_set]
    exact h.b8
  · have hi' : i < s.os.length := by
      have : i < (s.os.set b ys).length := hi
      rwa [List.length_set] at this
    show Oct ((s.os.set b ys).getD i []) ∧ ((s.os.set b ys).getD i []).length = _
    rw [getD_set _ _ _ _ _ hb]
    by_cases e : i = b
    · rw [if_pos e]
      exact ⟨oy, ly⟩
    · rw [if_neg e]
      exact h.oct i hi'
  · rw [upd_ne (nd h.rr.1 (fun _ z => by cases z))]
    exact h.rr.1
theorem ChipAt.sett {H : Hp} {a dx : Addr} {s : CS} (h : ChipAt K H a dx s) (b : Nat) (v : Bool) : ChipAt K (upd H s.c.t (.lst ((BV s.tb).set b (.bl v)))) a dx { s with tb := s.tb.set b v } := by
  have nd : ∀ {b : Addr} {o : HO}, H b = some o → (∀ z, o ≠ .lst z) → b ≠ s.c.t := fun hb d => ne_of hb h.t (d _)
  exact ⟨by rw [upd_ne (nd h.ins (fun _ z => by cases z))]; exact h.ins, by rw [upd_ne h.ot]; exact h.o, by rw [upd_ne h.et]; exact h.e, by rw [upd_same]; show _ = some (HO.lst ((s.tb.set b v).map V.bl)); rw [List.map_set], by rw [upd_ne (nd h.p (fun _ z => by cases z))]; exact h.p,
    by rw [upd_ne (nd h.q (fun _ z => by cases z))]; exact h.q, fun i hi => by rw [upd_ne (nd (h.tup i hi) (fun _ z => by cases z))]; exact h.tup i hi, h.oe, h.ot, h.et, h.pq, h.nr, h.ne, by show (s.tb.set b v).length = _; rw [List.length_set]; exact h.nt, h.nb, h.b8, h.g8, h.oct, ⟨by rw [upd_ne (nd h.rr.1 (fun _ z => by cases z))]; exact h.rr.1, h.rr.2⟩⟩
theorem drop_none {ks : List (Key × V)} {k : Key} (h : valV ks k = none) : dropK ks k = ks := by
  unfold dropK
  rw [List.filter_eq_self]
  intro p hp
  rw [decide_eq_true_iff]
  intro e
  unfold valV at h
  rw [Option.map_eq_none_iff, List.find?_eq_none] at h
  exact h p hp (by simp [e])
/-- all but the chip's own is as it was -/
def Fr (a : Addr) (c : Cp) (H H' : Hp) : Prop := ∀ x u, x ≠ a → x ≠ c.o → x ≠ c.e → x ≠ c.t → x ≠ c.p → x ≠ c.q → x ≠ c.r → H x = some u → H' x = some u
theorem Fr.ex {a : Addr} {c : Cp} {H H1 H2 : Hp} (f : Fr a c H H1) (e : Evl.Ex H1 H2) : Fr a c H H2 := fun x u n1 n2 n3 n4 n5 n6 n7 h => e _ _ (f x u n1 n2 n3 n4 n5 n6 n7 h)
theorem Fr.at {a y : Addr} {c : Cp} {H H1 : Hp} {o : HO} (f : Fr a c H H1) (hy : y = a ∨ y = c.o ∨ y = c.e ∨ y = c.t ∨ y = c.p ∨ y = c.q ∨ y = c.r) : Fr a c H (upd H1 y o) := fun x u n1 n2 n3 n4 n5 n6 n7 h => by
  have n : x ≠ y := by
    rintro rfl
    rcases hy with e | e | e | e | e | e | e
    · exact n1 e
    · exact n2 e
    · exact n3 e
    · exact n4 e
    · exact n5 e
    · exact n6 e
    · exact n7 e
  rw [upd_ne n]
  exact f x u n1 n2 n3 n4 n5 n6 n7 h
theorem Fr.refl (a : Addr) (c : Cp) (H : Hp) : Fr a c H H := fun _ _ _ _ _ _ _ _ _ h => h
theorem ChipAt.tupK {H H' : Hp} {a dx nw : Addr} {s : CS} {xs : List V} (h : ChipAt K H a dx s) (f : Fr a s.c H H') (hn : H nw = some (.tup xs)) : H' nw = some (.tup xs) :=
  f nw _ (ne_of hn h.ins (fun z => by cases z)) (ne_of hn h.o (fun z => by cases z)) (ne_of hn h.e (fun z => by cases z)) (ne_of hn h.t (fun z => by cases z)) (ne_of hn h.p (fun z => by cases z)) (ne_of hn h.q (fun z => by cases z)) (ne_of hn h.rr.1 (fun z => by cases z)) hn
theorem ChipAt.back {H H' : Hp} {a dx d : Addr} {s : CS} (h : ChipAt K H' a dx s) (f : Fr a s.c H H') (hd : H' d = none) : H d = none := by
  cases z : H d with
  | none => rfl
  | some o =>
    have n : ∀ {x : Addr} {u : HO}, H' x = some u → d ≠ x := fun hx e => by rw [← e, hd] at hx; cases hx
    have := f d o (n h.ins) (n h.o) (n h.e) (n h.t) (n h.p) (n h.q) (n h.rr.1) z
    rw [hd] at this
    cases this
def spSetO (K : PySem.W.Frag) : Sp := fun vs H Q _ => ∃ (a dx : Addr) (s : CS) (b : Nat) (r : Addr), vs = [.ref a, .int (b : Int), .ref r] ∧ ChipAt K H a dx s ∧ b < s.os.length ∧ Q .non (upd H s.c.o (.lst ((s.rs.map V.ref).set b (.ref r))))
theorem ok_set_octets (T : Txt K mg) (TC : TxC K) (F : FnM K "_set_octets" "Chip._set_octets" s_Chip___set_octets f fd) : Fg P w K mg base CX0 1 f fd ["self", "block", "octets"] (spSetO K) := by
  refine fg_of F sc_Chip___set_octets (fun vs H Q E h => ?_) (fun cdv A outer s₀ H vs Q E hr h => ⟨_, (PSs.nox (pss_cons (ps_asg (pv 2) (pg_sub (pe_fldU (K := K) (pv 0) rfl) (pv 1) set_list))
  (pss_one (ps_expr (pe_dpop2U (pe_fldU (K := K) (pv 0) rfl) (pv 1) pe_non))))), ?_⟩)
  · obtain ⟨a, dx, s, b, r, rfl, _⟩ := h
    rfl
  · obtain ⟨a, dx, s, b, r, rfl, hc, hb, q⟩ := h
    have br : b < s.rs.length := by rw [hc.nr]; exact hb
    refine ⟨_, rfl, _, rfl, a, _, dx, _, _, rfl, hc.ins, TC.cls, TC.no _ (by simp), rfl, _, rfl, s.c.o, _, _, b, rfl, rfl, hc.o, Evl.ixN_nat (by rw [List.length_map]; exact br), ?_⟩
    have i' : upd H s.c.o (.lst ((s.rs.map V.ref).set b (.ref r))) a = some (.ins (Ch K) dx s.c.fs) := by
      rw [upd_ne (ne_of hc.ins hc.o (fun z => by cases z))]
      exact hc.ins
    have r' : upd H s.c.o (.lst ((s.rs.map V.ref).set b (.ref r))) s.c.r = some (.dK []) := by
      rw [upd_ne (ne_of hc.rr.1 hc.o (fun z => by cases z))]
      exact hc.rr.1
    refine ⟨_, rfl, a, _, dx, _, _, rfl, i', TC.cls, TC.no _ (by simp), rfl, s.c.r, rfl, .inl ⟨_, Rd.of r'⟩, _, rfl, [], (Sum.inl (b : Int) : Key), r', rfl, fun v hv => ?_, fun hv => q⟩
    cases hv
end
end K3
namespace K3
open PySem PySem.Spec PyProof.Rows L2 VB BM
section
variable {P : Program} {w : World} {K : PySem.W.Frag} {mg : Str → Option Value} {base : Heap} {f : Addr} {fd : FuncData}
theorem Fr.trans {a : Addr} {c : Cp} {H H1 H2 : Hp} (f : Fr a c H H1) (g : Fr a c H1 H2) : Fr a c H H2 := fun x u n1 n2 n3 n4 n5 n6 n7 h => g x u n1 n2 n3 n4 n5 n6 n7 (f x u n1 n2 n3 n4 n5 n6 n7 h)
theorem ChipAt.sete {H : Hp} {a dx : Addr} {s : CS} (h : ChipAt K H a dx s) (b : Nat) (v : Int) : ChipAt K (upd H s.c.e (.lst (IV (s.er.set b v)))) a dx { s with er := s.er.set b v } := by
  have nd : ∀ {b : Addr} {o : HO}, H b = some o → (∀ z, o ≠ .lst z) → b ≠ s.c.e := fun hb d => ne_of hb h.e (d _)
  exact ⟨by rw [upd_ne (nd h.ins (fun _ z => by cases z))]; exact h.ins, by rw [upd_ne h.oe]; exact h.o, upd_same, by rw [upd_ne (Ne.symm h.et)]; exact h.t, by rw [upd_ne (nd h.p (fun _ z => by cases z))]; exact h.p,
    by rw [upd_ne (nd h.q (fun _ z => by cases z))]; exact h.q, fun i hi => by rw [upd_ne (nd (h.tup i hi) (fun _ z => by cases z))]; exact h.tup i hi, h.oe, h.ot, h.et, h.pq, h.nr, by show (s.er.set b v).length = _; rw [List.length_set]; exact h.ne, h.nt, h.nb, h.b8, h.g8, h.oct, ⟨by rw [upd_ne (nd h.rr.1 (fun _ z => by cases z))]; exact h.rr.1, h.rr.2⟩⟩
end
end K3
namespace K3
open PySem PySem.Spec PyProof.Rows L2 VB BM
section
variable {P : Program} {w : World} {K : PySem.W.Frag} {mg : Str → Option Value} {base : Heap} {f : Addr} {fd : FuncData}
theorem catA {H : Hp} {a b : Addr} {xs ys : List V} {Q : VK} (ha : H a = some (.tup xs)) (hb : H b = some (.tup ys)) (hl : xs.length + ys.length ≤ 10000) (q : ∀ r H', Evl.Ex H H' → H' r = some (.tup (xs ++ ys)) → Q (.ref r) H') : rAddA K (.ref a) (.ref b) H Q := by
  refine .inr ⟨a, b, xs, ys, rfl, rfl, SqT.of ha, SqT.of hb, Evl.sz_of (by omega), fun e => q b H (Evl.Ex.refl _) ?_, fun _ e => q a H (Evl.Ex.refl _) ?_, fun _ _ p hp => q p _ (Evl.Ex.new hp) upd_same⟩
  · rw [e]
    exact hb
  · rw [e, List.append_nil]
    exact ha
theorem cut_nn {O : List Int} {i j : Nat} (hi : i ≤ O.length) (hj : j ≤ O.length) : cutV (IV O) (some (i : Int)) (some (j : Int)) = IV ((O.drop i).take (j - i)) := by
  unfold cutV
  have m1 : min i (IV O).length = i := by rw [iv_len]; omega
  have m2 : min j (IV O).length = j := by rw [iv_len]; omega
  rw [HT.sIx_nat, HT.sIx_nat, m1, m2, ← List.map_drop, ← List.map_take]
theorem cut_n0 {O : List Int} {j : Nat} (hj : j ≤ O.length) : cutV (IV O) none (some (j : Int)) = IV (O.take j) := by
  unfold cutV
  have m2 : min j (IV O).length = j := by rw [iv_len]; omega
  have e0 : HT.sIx (IV O).length 0 none = 0 := rfl
  rw [HT.sIx_nat, m2, e0, List.drop_zero, Nat.sub_zero, ← List.map_take]
theorem cut_0n {O : List Int} {i : Nat} (hi : i ≤ O.length) : cutV (IV O) (some (i : Int)) none = IV (O.drop i) := by
  unfold cutV
  have m1 : min i (IV O).length = i := by rw [iv_len]; omega
  have e0 : HT.sIx (IV O).length (IV O).length none = (IV O).length := rfl
  rw [HT.sIx_nat, m1, e0, ← List.map_drop, ← List.map_take, List.take_of_length_le (by rw [List.length_drop, iv_len]; exact Nat.le_refl _)]
/-- a page of a block, written -/
def wrote (os ws : List Int) (p : Nat) : List Int := os.take (31 * p) ++ (both Builtin.bitAnd ((os.drop (31 * p)).take 31) ws ++ os.drop (31 * p + 31))
end
end K3
namespace K3
open PySem PySem.Spec PyProof.Rows L2 VB BM
/-- a value without parts -/
inductive Flat : V → Prop
  | non : Flat .non
  | bl (b : Bool) : Flat (.bl b)
  | int (i : Int) (h : i.natAbs < 10 ^ 40) : Flat (.int i)
  | str (x : Str) (h : (PyData.str x).canLay0 = true ∧ (PyData.str x).shown.length ≤ 60) : Flat (.str x)
/-- a value that may be handed: without parts, or a list or a tuple of such -/
inductive KV (K : PySem.W.Frag) (H : Hp) : V → Prop
  | flat {v : V} : Flat v → KV K H v
  | seq {t : Bool} {a : Addr} {xs : List V} : Sv t K H a xs → (∀ x ∈ xs, Flat x) → xs.length ≤ 60 → KV K H (.ref a)
theorem KV.ex {K : PySem.W.Frag} {H H' : Hp} {v : V} (h : KV K H v) (e : Evl.Ex H H') : KV K H' v := by
  cases h with
  | flat f => exact .flat f
  | seq S f l => exact .seq (S.ex e) f l
/-- an integer from lo to hi -/
def isIx : V → Int → Int → Bool
  | .int i, lo, hi => decide (lo ≤ i) && decide (i ≤ hi)
  | _, _, _ => false
theorem isIx_int {i lo hi : Int} (h1 : lo ≤ i) (h2 : i ≤ hi) : isIx (.int i) lo hi = true := by
  show (decide (lo ≤ i) && decide (i ≤ hi)) = true
  rw [decide_eq_true h1, decide_eq_true h2]
  rfl
theorem isIx_of {v : V} {lo hi : Int} (h : isIx v lo hi = true) : ∃ i, v = .int i ∧ lo ≤ i ∧ i ≤ hi := by
  cases v with
  | int i =>
    unfold isIx at h
    rw [Bool.and_eq_true, decide_eq_true_eq, decide_eq_true_eq] at h
    exact ⟨i, rfl, h.1, h.2⟩
  | _ => cases h
section
variable {P : Program} {w : World} {K : PySem.W.Frag} {mg : Str → Option Value} {base : Heap} {f : Addr} {fd : FuncData}
/-- isinstance(v, int) and not isinstance(v, bool) and lo <= v .. hi, as a value -/
theorem ix_te {σ : L2.St} {H : Hp} {Q : VK} {i : Nat} {v : V} {lo hi hx : Int} {g : Int → Int → V} {tl th : TE} (hσ : σ[i]? = some (some v)) (kv : KV K H v) (hl : ∀ Q' : VK, Q' (.int lo) H → tl σ H Q') (hh : ∀ Q' : VK, Q' (.int hx) H → th σ H Q') (hg : ∀ j : Int, g j hx = .bl (decide (j ≤ hi))) (q : Q (.bl (isIx v lo hi)) H) :
    tAndV (tCB (rIsi K) (tCons (tVar i) (tCons (tC (V.ty "int")) tNil))) (tAndV (tNotV (tCB (rIsi K) (tCons (tVar i) (tCons (tC (V.ty "bool")) tNil)))) (tChain (rI0 fun i j => V.bl (decide (i ≤ j))) (rI0 g) tl (tVar i) th)) σ H Q := by
  cases kv with
  | flat fv =>
    cases fv with
    | non => exact ⟨_, hσ, _, _, _, _, false, rfl, .ty _, .base .non, kit_ty (by decide +kernel), false, rfl, iteF q⟩
    | str x _ => exact ⟨_, hσ, _, _, _, _, false, rfl, .ty _, .base (.str x), kit_ty (by decide +kernel), false, rfl, iteF q⟩
    | bl b => exact ⟨_, hσ, _, _, _, _, true, rfl, .ty _, .base (.bl b), kit_ty (by decide +kernel), true, rfl, iteT ⟨_, hσ, _, _, _, _, true, rfl, .ty _, .base (.bl b), kit_ty (by decide +kernel), true, rfl, false, rfl, iteF q⟩⟩
    | int j _ =>
      refine ⟨_, hσ, _, _, _, _, true, rfl, .ty _, ty_int K H j, kit_ty (by decide +kernel), true, rfl, iteT ?_⟩
      refine ⟨_, hσ, _, _, _, _, false, rfl, .ty _, ty_int K H j, kit_ty (by decide +kernel), false, rfl, true, rfl, iteT ?_⟩
      refine hl _ ⟨_, hσ, _, _, rfl, rfl, _, rfl, ?_⟩
      have q' : Q (.bl (decide (lo ≤ j) && decide (j ≤ hi))) H := q
      by_cases c : lo ≤ j
      · rw [decide_eq_true c] at q' ⊢
        refine iteT (hh _ ⟨_, _, rfl, rfl, ?_⟩)
        rw [hg]
        exact q'
      · rw [decide_eq_false c] at q' ⊢
        exact iteF q'
  | @seq t a xs S _ _ =>
    cases t with
    | false => exact ⟨_, hσ, _, _, _, _, false, rfl, .ty _, S.ty, kit_ty (by decide +kernel), false, rfl, iteF q⟩
    | true => exact ⟨_, hσ, _, _, _, _, false, rfl, .ty _, S.ty, kit_ty (by decide +kernel), false, rfl, iteF q⟩
def spIntFrom (K : PySem.W.Frag) : Sp := fun vs H Q _ => ∃ (v : V) (l g : Int), vs = [v, .int l, .int g] ∧ KV K H v ∧ Q (.bl (isIx v l g)) H
theorem ok_int_from (T : Txt K mg) (F : FnP K "is_int_from" s_is_int_from f fd) : Fg P w K mg base CX0 2 f fd ["value", "least", "greatest"] (spIntFrom K) := by
  refine fg_of F sc_is_int_from (fun vs H Q E h => ?_) (fun cdv A outer s H vs Q E hr h => ⟨_, (PSs.nox (pss_one (ps_ret (pe_and (pe_callB (u_isi (K := K)) (by rfl) T.f_isinstance (by decide +kernel) (pa_cons (pv 0) (pa_cons (pe_bltn (v := .ty "int") rfl T.f_int (by decide +kernel) rfl) pa_nil))) (pe_and (pe_not (pe_callB (u_isi (K := K)) (by rfl) T.f_isinstance (by decide +kernel) (pa_cons (pv 0) (pa_cons (pe_bltn (v := .ty "bool") rfl T.f_bool (by decide +kernel) rfl) pa_nil)))) (pe_one (pe_chain op_le op_le (pv 1) (pv 0) (pv 2)))))))), ?_⟩)
  · obtain ⟨v, l, g, rfl, _⟩ := h
    rfl
  · obtain ⟨v, l, g, rfl, kv, q⟩ := h
    exact ix_te (i := 0) rfl kv (fun Q' h => ⟨_, rfl, h⟩) (fun Q' h => ⟨_, rfl, h⟩) (fun j => rfl) q
def spIsIdx (K : PySem.W.Frag) : Sp := fun vs H Q _ => ∃ (v : V) (m : Int), vs = [v, .int m] ∧ KV K H v ∧ Q (.bl (isIx v 0 (m - 1))) H
theorem ok_is_idx (T : Txt K mg) (F : FnP K "_law_is_index" s__law_is_index f fd) : Fg P w K mg base CX0 1 f fd ["_law_value", "_law_many"] (spIsIdx K) := by
  refine fg_of F sc__law_is_index (fun vs H Q E h => ?_) (fun cdv A outer s H vs Q E hr h => ⟨_, (PSs.nox (pss_one (ps_ret (pe_and (pe_callB (u_isi (K := K)) (by rfl) T.f_isinstance (by decide +kernel) (pa_cons (pv 0) (pa_cons (pe_bltn (v := .ty "int") rfl T.f_int (by decide +kernel) rfl) pa_nil))) (pe_and (pe_not (pe_callB (u_isi (K := K)) (by rfl) T.f_isinstance (by decide +kernel) (pa_cons (pv 0) (pa_cons (pe_bltn (v := .ty "bool") rfl T.f_bool (by decide +kernel) rfl) pa_nil)))) (pe_one (pe_chain op_le op_lt pe_int (pv 0) (pv 1)))))))), ?_⟩)
  · obtain ⟨v, m, rfl, _⟩ := h
    rfl
  · obtain ⟨v, m, rfl, kv, q⟩ := h
    exact ix_te (i := 0) rfl kv (fun Q' h => h) (fun Q' h => ⟨_, rfl, h⟩) (fun j => congrArg V.bl (decide_eq_decide.mpr (by omega))) q
/-- what a value is -/
inductive Dsc
  | one (v : V)
  | sq (t : Bool) (xs : List V)
def At (K : PySem.W.Frag) (H : Hp) (v : V) : Dsc → Prop
  | .one u => v = u ∧ Flat u
  | .sq t xs => ∃ a, v = .ref a ∧ Sv t K H a xs ∧ (∀ x ∈ xs, Flat x) ∧ xs.length ≤ 60 ∧ (t = false → H a = some (.lst xs)) ∧ (t = true → H a = some (.tup xs))
theorem At.kv {H : Hp} {v : V} {d : Dsc} (h : At K H v d) : KV K H v := by
  cases d with
  | one u =>
    obtain ⟨rfl, g⟩ := h
    exact .flat g
  | sq t xs =>
    obtain ⟨a, rfl, S, g, l, hl, ht⟩ := h
    exact .seq S g l
theorem At.ex {H H' : Hp} {v : V} {d : Dsc} (h : At K H v d) (e : Evl.Ex H H') : At K H' v d := by
  cases d with
  | one u => exact h
  | sq t xs =>
    obtain ⟨a, rfl, S, g, l, hl, ht⟩ := h
    exact ⟨a, rfl, S.ex e, g, l, fun z => e _ _ (hl z), fun z => e _ _ (ht z)⟩
def Dsc.isSq : Dsc → Bool
  | .one _ => false
  | .sq _ _ => true
def Dsc.octs : Dsc → Bool
  | .one _ => false
  | .sq _ xs => xs.all fun x => isIx x 0 255
def Dsc.len : Dsc → Nat
  | .one _ => 0
  | .sq _ xs => xs.length
def Dsc.oct (d : Dsc) (n : Int) : Bool := d.isSq && (decide ((d.len : Int) = n) && d.octs)
theorem kit_no {ty : String} (h1 : PySem.W.kitOne K (.type ty) (.type "list") = some false) (h2 : PySem.W.kitOne K (.type ty) (.type "tuple") = some false) : PySem.W.kitAny K (.type ty) [.type "list", .type "tuple"] = some false :=
  kitAny_cons (b := false) h1 (fun _ => kitAny_cons (b := false) h2 (fun _ => rfl) (fun z => nomatch z)) (fun z => nomatch z)
/-- isinstance(v, (list, tuple)) -/
theorem sq_te {σ : L2.St} {H : Hp} {Q : VK} {i : Nat} {v : V} {d : Dsc} (hσ : σ[i]? = some (some v)) (h : At K H v d) (q : RV (.bl d.isSq) H Q) :
    tCB (rIsiT K) (tCons (tVar i) (tCons (tTup (tCons (tC (V.ty "list")) (tCons (tC (V.ty "tuple")) tNil))) tNil)) σ H Q := by
  refine ⟨_, hσ, by show 2 ≤ sizeLine; decide, fun tp ht => ?_⟩
  have e0 := Evl.Ex.new (o := .tup [.ty "list", .ty "tuple"]) ht
  cases d with
  | one u =>
    obtain ⟨rfl, g⟩ := h
    have go : ∀ {ty : String}, TyX K (upd H tp (.tup [.ty "list", .ty "tuple"])) v (.type ty) → PySem.W.kitOne K (.type ty) (.type "list") = some false → PySem.W.kitOne K (.type ty) (.type "tuple") = some false →
        rIsiT K [v, .ref tp] (upd H tp (.tup [.ty "list", .ty "tuple"])) Q := fun tx h1 h2 => ⟨_, tp, _, _, [.type "list", .type "tuple"], false, rfl, upd_same, .cons (.ty _) (.cons (.ty _) .nil), tx, kit_no h1 h2, q _ e0⟩
    cases g with
    | non => exact go (.base .non) (kit_ty (by decide +kernel)) (kit_ty (by decide +kernel))
    | bl b => exact go (.base (.bl b)) (kit_ty (by decide +kernel)) (kit_ty (by decide +kernel))
    | int j _ => exact go (.base (.int j)) (kit_ty (by decide +kernel)) (kit_ty (by decide +kernel))
    | str x _ => exact go (.base (.str x)) (kit_ty (by decide +kernel)) (kit_ty (by decide +kernel))
  | sq t xs =>
    obtain ⟨a, rfl, S, g, l, hl, ht⟩ := h
    exact ⟨_, tp, _, _, [.type "list", .type "tuple"], true, rfl, upd_same, .cons (.ty _) (.cons (.ty _) .nil), (S.ex e0).ty, kit_seq K t, q _ e0⟩
def spIsList (K : PySem.W.Frag) : Sp := fun vs H Q _ => ∃ (v : V) (d : Dsc), vs = [v] ∧ At K H v d ∧ RV (.bl d.isSq) H Q
theorem ok_is_list (T : Txt K mg) (F : FnP K "is_list" s_is_list f fd) : Fg P w K mg base CX0 1 f fd ["value"] (spIsList K) := by
  refine fg_of F sc_is_list (fun vs H Q E h => ?_) (fun cdv A outer s H vs Q E hr h => ⟨_, (PSs.nox (pss_one (ps_ret (pe_callB (u_isiT (K := K)) (by rfl) T.f_isinstance (by decide +kernel) (pa_cons (pv 0) (pa_cons (pe_tup (pa_cons (pe_bltn (v := .ty "list") rfl T.f_list (by decide +kernel) rfl) (pa_cons (pe_bltn (v := .ty "tuple") rfl T.f_tuple (by decide +kernel) rfl) pa_nil))) pa_nil)))))), ?_⟩)
  · obtain ⟨v, d, rfl, _⟩ := h
    rfl
  · obtain ⟨v, d, rfl, h, q⟩ := h
    exact sq_te (i := 0) rfl h q
def spIsOct (K : PySem.W.Frag) : Sp := fun vs H Q _ => ∃ (v : V) (d : Dsc), vs = [v] ∧ At K H v d ∧ RV (.bl d.octs) H Q
theorem ok_is_octets (T : Txt K mg) (F : FnP K "is_octets" s_is_octets f fd) (C_is_list : Cal P w K mg base CX0 1 "is_list" ["value"] (spIsList K)) : Fg P w K mg base CX0 2 f fd ["value"] (spIsOct K) := by
  refine fg_of F sc_is_octets (fun vs H Q E h => ?_) (fun cdv A outer s H vs Q E hr h => ⟨_, (PSs.nox (pss_one (ps_ret (pe_and (pe_cal C_is_list hr.le pass0 (pa_cons (pv 0) pa_nil)) (pe_one (pe_callB (u_all (K := K) rfl) (by rfl) T.f_all (by decide +kernel) (pa_cons (pe_lc (own := [("octet", 1)]) rfl sc_is_octets.nd (pi_seq (K := K) (pv 0)) (blkOk_by (own := [("octet", 1)]) (N := ["value", "octet"]) (sc := defScope s_is_octets) (by decide +kernel)) (fun _ _ _ _ _ => (pg_name (i := 1) sc_is_octets.nd rfl (by first | exact Or.inl rfl | exact Or.inr rfl))) (fun _ _ _ _ _ => pts_nil) (fun _ _ _ _ _ => (pe_and (pe_callB (u_isi (K := K)) (by rfl) T.f_isinstance (by decide +kernel) (pa_cons (pv 1) (pa_cons (pe_bltn (v := .ty "int") rfl T.f_int (by decide +kernel) rfl) pa_nil))) (pe_and (pe_not (pe_callB (u_isi (K := K)) (by rfl) T.f_isinstance (by decide +kernel) (pa_cons (pv 1) (pa_cons (pe_bltn (v := .ty "bool") rfl T.f_bool (by decide +kernel) rfl) pa_nil)))) (pe_one (pe_chain op_le op_le pe_int (pv 1) pe_int)))))) pa_nil))))))), ?_⟩)
  · obtain ⟨v, d, rfl, _⟩ := h
    rfl
  · obtain ⟨v, d, rfl, h, q⟩ := h
    refine ⟨_, rfl, v, d, rfl, h, fun H0 e0 => ⟨_, rfl, ?_⟩⟩
    cases d with
    | one u => exact iteF (q _ e0)
    | sq t xs =>
      obtain ⟨a, rfl, S, g, l, hl, ht⟩ := h
      refine iteT ?_
      refine seq_var (t := t) rfl (S.ex e0) fun J wk D hD => ?_
      refine lc_pureVS (us := xs.map fun x => V.bl (isIx x 0 255)) wk (fun H' ex => (S.ex e0).ex ex) (by simp) (by omega) hD (fun _ => rfl) ?_ ?_
      · intro i x u H' Q' hx hu ex k
        rw [List.getElem?_map, hx] at hu
        cases hu
        exact ix_te (i := 1) rfl (.flat (g x (List.mem_of_getElem? hx))) (fun Q' h => h) (fun Q' h => h) (fun j => rfl) (k H' (Evl.Ex.refl _))
      · intro H' ex h3
        refine ⟨D, xs.map fun x => isIx x 0 255, rfl, SqL.of (by rw [h3, List.map_map]; rfl), ?_⟩
        have e : (xs.map fun x => isIx x 0 255).all id = xs.all fun x => isIx x 0 255 := by
          rw [List.all_map]
          rfl
        rw [e]
        exact q _ (e0.trans ex)
def spOctOf (K : PySem.W.Frag) : Sp := fun vs H Q _ => ∃ (v : V) (d : Dsc) (n : Int), vs = [v, .int n] ∧ At K H v d ∧ RV (.bl (d.oct n)) H Q
theorem ok_octets_of (T : Txt K mg) (F : FnP K "is_octets_of" s_is_octets_of f fd) (C_is_list : Cal P w K mg base CX0 1 "is_list" ["value"] (spIsList K)) (C_is_octets : Cal P w K mg base CX0 2 "is_octets" ["value"] (spIsOct K)) : Fg P w K mg base CX0 3 f fd ["value", "count"] (spOctOf K) := by
  refine fg_of F sc_is_octets_of (fun vs H Q E h => ?_) (fun cdv A outer s H vs Q E hr h => ⟨_, (PSs.nox (pss_one (ps_ret (pe_and (pe_cal C_is_list hr.le pass0 (pa_cons (pv 0) pa_nil)) (pe_and (pe_cmpR (u_eq (K := K) hr) (pe_callB (u_len (K := K)) (by rfl) T.f_len (by decide +kernel) (pa_cons (pv 0) pa_nil)) (pv 1) (nomark _)) (pe_one (pe_cal C_is_octets hr.le pass0 (pa_cons (pv 0) pa_nil)))))))), ?_⟩)
  · obtain ⟨v, d, n, rfl, _⟩ := h
    rfl
  · obtain ⟨v, d, n, rfl, h, q⟩ := h
    refine ⟨_, rfl, v, d, rfl, h, fun H1 e1 => ⟨_, rfl, ?_⟩⟩
    cases d with
    | one u => exact iteF (q _ e1)
    | sq t xs =>
      have h' := h
      obtain ⟨a, rfl, S, g, l, hl, ht⟩ := h
      refine iteT ⟨_, rfl, _, _, rfl, (S.ex e1).len, _, rfl, .inl ⟨rfl, _, rfl, ?_⟩⟩
      have q' : RV (.bl (decide ((xs.length : Int) = n) && (Dsc.sq t xs).octs)) H Q := q
      by_cases c : (xs.length : Int) = n
      · rw [decide_eq_true c] at q'
        rw [c, decide_eq_true rfl]
        exact iteT ⟨_, rfl, _, .sq t xs, rfl, At.ex h' e1, fun H2 e2 => q' _ (e1.trans e2)⟩
      · rw [decide_eq_false c] at q'
        rw [decide_eq_false (fun z => c (V.int.inj z))]
        exact iteF (q' _ e1)
end
end K3
namespace K3
open PySem PySem.Spec PyProof.Rows L2 VB BM
def dV : V → PyData
  | .bl b => .bool b
  | .int i => .int i
  | .str x => .str x
  | _ => .none
def Dsc.data : Dsc → PyData
  | .one v => dV v
  | .sq false xs => .list (xs.map dV)
  | .sq true xs => .tuple (xs.map dV)
theorem sh_int' {i : Int} (h : i.natAbs < 10 ^ 40) : Sh (.int i) 0 60 := by
  refine ⟨?_, by simp only [PyData.depth]; exact Nat.le_refl _, ?_⟩
  · simp only [PyData.showable, decide_eq_true_eq]
    by_cases z : i.natAbs = 0
    · rw [z]
      decide
    · refine (Nat.log2_lt z).mpr (Nat.lt_of_lt_of_le h ?_)
      exact Nat.le_trans (show 10 ^ 40 ≤ 2 ^ 140 by decide) (Nat.pow_le_pow_right (by decide) (by decide))
  · rw [PyData.shown_int]
    have := int_text_length_le10 (a := i) (k := 40) (by decide) h
    rw [PySem.ofString_length]
    omega
theorem sh_flat {v : V} (h : Flat v) : Sh (dV v) 0 60 := by
  cases h with
  | non => exact ⟨by decide +kernel, by decide +kernel, by decide +kernel⟩
  | bl b => cases b <;> exact ⟨by decide +kernel, by decide +kernel, by decide +kernel⟩
  | int i h => exact sh_int' h
  | str x h => exact ⟨by simp only [dV, PyData.showable], by simp only [dV, PyData.depth]; exact Nat.le_refl _, by have := h.2; simp only [dV]; omega⟩
section
variable {K : PySem.W.Frag}
theorem dp_flat {H : Hp} {v : V} (h : Flat v) : Dp K H v (dV v) := by
  cases h with
  | non => exact .non
  | bl b => exact .bl b
  | int i h => exact .int i
  | str x h => exact .str x
theorem dpAll_flat {H : Hp} : ∀ {xs : List V}, (∀ x ∈ xs, Flat x) → DpAll K H xs (xs.map dV)
  | [], _ => .nil
  | x :: xs, h => .cons (dp_flat (h x (List.mem_cons_self ..))) (dpAll_flat fun y hy => h y (List.mem_cons_of_mem _ hy))
theorem At.dp {H : Hp} {v : V} {d : Dsc} (h : At K H v d) : Dp K H v d.data := by
  cases d with
  | one u =>
    obtain ⟨rfl, g⟩ := h
    exact dp_flat g
  | sq t xs =>
    obtain ⟨a, rfl, S, g, l, hl, ht⟩ := h
    cases t with
    | false => exact .lst S (dpAll_flat g)
    | true => exact .tup S (dpAll_flat g)
theorem sh_sq {t : Bool} {xs : List V} (g : ∀ x ∈ xs, Flat x) (l : xs.length ≤ 100) : Sh (Dsc.sq t xs).data 1 7000 := by
  have all : ∀ e ∈ xs.map dV, Sh e 0 60 := fun e he => by
    obtain ⟨x, hx, rfl⟩ := List.mem_map.mp he
    exact sh_flat (g x hx)
  cases t with
  | false => exact (sh_list all (n := 100) (by simpa using l)).le
  | true => exact (sh_tup all (n := 100) (by simpa using l)).le
theorem At.sh {H : Hp} {v : V} {d : Dsc} (h : At K H v d) : Sh d.data 1 7000 := by
  cases d with
  | one u =>
    obtain ⟨rfl, g⟩ := h
    exact (sh_flat g).le
  | sq t xs =>
    obtain ⟨a, rfl, S, g, l, hl, ht⟩ := h
    exact sh_sq g (by omega)
/-- the text of data -/
theorem rpD {H : Hp} {v : V} {d : PyData} {h n : Nat} {Q : VK} (e : Dp K H v d) (s : Sh d h n) (q : Q (.str d.shown) H) (hh : h ≤ 60 := by decide) (hn : n ≤ 1000000 := by omega) : rReprA K [v] H Q := by
  cases e with
  | non => exact .inr (.inl ⟨rfl, by rw [PyData.shown_none] at q; exact q⟩)
  | bl b => exact .inl (.inr (.inr ⟨b, rfl, by rw [PyData.shown_bool] at q; exact q⟩))
  | int i => exact .inl (.inr (.inl ⟨i, rfl, by have := s.ok; simp only [PyData.showable, decide_eq_true_eq] at this; exact this, by rw [PyData.shown_int] at q; exact q⟩))
  | str x => exact .inr (.inr ⟨x, rfl, by have := s.len; rw [PyData.shown_str] at this; rw [sizeLine_eq]; omega, by rw [PyData.shown_str] at q; exact q⟩)
  | lst S g => exact .inl (.inl (rp (.lst S g) s q hh hn))
  | tup S g => exact .inl (.inl (rp (.tup S g) s q hh hn))
theorem At.rp {H : Hp} {v : V} {d : Dsc} {Q : VK} (h : At K H v d) (q : Q (.str d.data.shown) H) : rReprA K [v] H Q := rpD h.dp h.sh q
theorem can_flat {v : V} (h : Flat v) : (dV v).canLay0 = true := by
  cases h with
  | non => rfl
  | bl b => rfl
  | int i h => rfl
  | str x h => exact h.1
theorem canAll_flat : ∀ {xs : List V}, (∀ x ∈ xs, Flat x) → PyData.canLayAll0 (xs.map dV) = true
  | [], _ => by simp [PyData.canLayAll0]
  | x :: xs, h => by
    rw [List.map_cons]
    simp [PyData.canLayAll0, can_flat (h x (List.mem_cons_self ..)), canAll_flat fun y hy => h y (List.mem_cons_of_mem _ hy)]
theorem dep_flat {v : V} : (dV v).depth = 0 := by
  cases v <;> simp only [dV, PyData.depth]
theorem depAll_flat : ∀ xs : List V, PyData.depthAll (xs.map dV) = 0
  | [] => by simp [PyData.depthAll]
  | x :: xs => by simp [PyData.depthAll, dep_flat, depAll_flat xs]
theorem shp_list {xs : List V} (h : ∀ x ∈ xs, Flat x) : SeqAt.shaped (.list (xs.map dV)) = true := by
  simp [SeqAt.shaped, PyData.canLay0, PyData.depth, canAll_flat h, depAll_flat]
/-- xs == [] -/
theorem eq_empty {H : Hp} {a b : Addr} {xs : List V} {Q : VK} (ha : SqL K H a xs) (h : ∀ x ∈ xs, Flat x) (hb : SqL K H b []) (q : Q (.bl xs.isEmpty) H) : rEqU K (.ref a) (.ref b) H Q := by
  refine .inr ⟨_, _, .lst ha (dpAll_flat h), .lst hb .nil, shp_list h, by simp [SeqAt.shaped, PyData.canLay0, PyData.canLayAll0, PyData.depth, PyData.depthAll], ?_⟩
  cases xs with
  | nil => simpa [PyData.eqv, PyData.eqvAll] using q
  | cons x xs => simpa [PyData.eqv, PyData.eqvAll] using q
theorem ne_empty {H : Hp} {a b : Addr} {xs : List V} {Q : VK} (ha : SqL K H a xs) (h : ∀ x ∈ xs, Flat x) (hb : SqL K H b []) (q : Q (.bl (!xs.isEmpty)) H) : rNeU K (.ref a) (.ref b) H Q := by
  refine .inr ⟨_, _, .lst ha (dpAll_flat h), .lst hb .nil, shp_list h, by simp [SeqAt.shaped, PyData.canLay0, PyData.canLayAll0, PyData.depth, PyData.depthAll], ?_⟩
  cases xs with
  | nil => simpa [PyData.eqv, PyData.eqvAll] using q
  | cons x xs => simpa [PyData.eqv, PyData.eqvAll] using q
end
section
variable {P : Program} {w : World} {K : PySem.W.Frag} {mg : Str → Option Value} {base : Heap} {f : Addr} {fd : FuncData}
def spAreOct (K : PySem.W.Frag) : Sp := fun vs H Q _ => ∃ (v : V) (d : Dsc) (n : Int), vs = [v, .int n] ∧ At K H v d ∧ RV (.bl (d.oct n)) H Q
theorem ok_are_oct (T : Txt K mg) (F : FnP K "_law_are_octets" s__law_are_octets f fd) (C__law_is_index : Cal P w K mg base CX0 1 "_law_is_index" ["_law_value", "_law_many"] (spIsIdx K)) : Fg P w K mg base CX0 2 f fd ["_law_value", "_law_count"] (spAreOct K) := by
  refine fg_of F sc__law_are_octets (fun vs H Q E h => ?_) (fun cdv A outer s H vs Q E hr h => ⟨_, (PSs.nox (pss_cons (ps_if (PW.pt (pw_or (pt_not (pt_tru (K := K) (pe_callB (u_isiT (K := K)) (by rfl) T.f_isinstance (by decide +kernel) (pa_cons (pv 0) (pa_cons (pe_tup (pa_cons (pe_bltn (v := .ty "list") rfl T.f_list (by decide +kernel) rfl) (pa_cons (pe_bltn (v := .ty "tuple") rfl T.f_tuple (by decide +kernel) rfl) pa_nil))) pa_nil))) (by intro _; rfl))) (pw_or1 (pt_cmpR (u_ne (K := K) hr) (pe_callB (u_len (K := K)) (by rfl) T.f_len (by decide +kernel) (pa_cons (pv 0) pa_nil)) (pv 1) (nomark _)))))
  (pss_one (ps_ret pe_bl)) pss_nil)
  (pss_one (ps_ret (pe_cmpR (u_eq (K := K) hr) (pe_lc (own := [("_law_one", 2)]) rfl sc__law_are_octets.nd (pi_seq (K := K) (pv 0)) (blkOk_by (own := [("_law_one", 2)]) (N := ["_law_value", "_law_count", "_law_one"]) (sc := defScope s__law_are_octets) (by decide +kernel)) (fun _ _ _ _ _ => (pg_name (i := 2) sc__law_are_octets.nd rfl (by first | exact Or.inl rfl | exact Or.inr rfl))) (fun _ _ _ _ _ => (pts_one (pt_not (pt_tru (K := K) (pe_cal C__law_is_index hr.le pass0 (pa_cons (pv 2) (pa_cons pe_int pa_nil))) (by intro _; rfl))))) (fun _ _ _ _ _ => (pv 2))) (pe_lst pa_nil) (nomark _)))))), ?_⟩)
  · obtain ⟨v, d, n, rfl, _⟩ := h
    rfl
  · obtain ⟨v, d, n, rfl, h, q⟩ := h
    refine sq_te (i := 0) rfl h fun H1 e1 => ?_
    refine ⟨d.isSq, rfl, ?_⟩
    cases d with
    | one u => exact iteT (iteT (q _ e1))
    | sq t xs =>
      have h' := h
      obtain ⟨a, rfl, S, g, l, hl, ht⟩ := h
      refine iteF ⟨_, rfl, _, _, rfl, (S.ex e1).len, _, rfl, .inl ⟨rfl, _, rfl, ?_⟩⟩
      have q' : RV (.bl (decide ((xs.length : Int) = n) && xs.all fun x => isIx x 0 255)) H Q := q
      by_cases c : (xs.length : Int) = n
      · rw [decide_eq_true c] at q'
        rw [c, decide_eq_true rfl]
        refine iteF (seq_var (t := t) rfl (S.ex e1) fun J wk D hD => ?_)
        refine lc_it wk (fun i H' => i ≤ xs.length ∧ Evl.Ex H1 H' ∧ H' D = some (.lst ((xs.take i).filter fun x => !isIx x 0 255))) ⟨by omega, Evl.Ex.new hD, by rw [upd_same]; rfl⟩ (fun i H' _ hh => (S.ex e1).ex hh.2.1) ?_ ?_
        · rintro i x H2 H3 hi ⟨_, e2, h2⟩ ⟨rfl, hx⟩
          refine ⟨rfl, _, rfl, x, 256, rfl, .flat (g x (List.mem_of_getElem? hx)), _, rfl, ?_⟩
          have st : (xs.take (i + 1)).filter (fun x => !isIx x 0 255) = (xs.take i).filter (fun x => !isIx x 0 255) ++ (if (!isIx x 0 255) then [x] else []) := by
            rw [take_snoc hx, List.filter_append, List.filter_cons, List.filter_nil]
          have ll : ((xs.take i).filter fun x => !isIx x 0 255).length ≤ 60 := by
            have := List.length_filter_le (fun x => !isIx x 0 255) (xs.take i)
            rw [List.length_take] at this
            omega
          rw [show (256 : Int) - 1 = 255 from rfl]
          cases hv : isIx x 0 255 with
          | true =>
            refine iteF ⟨by omega, e2, ?_⟩
            rw [st, hv]
            simpa using h2
          | false =>
            refine iteT ⟨_, rfl, _, h2, Evl.sz_lt (by omega), by omega, Evl.Ex.mut e2 hD, ?_⟩
            rw [upd_same, st, hv]
            rfl
        · rintro H2 ⟨_, e2, h2⟩
          rw [List.take_length] at h2
          refine ⟨by show 0 ≤ sizeLine; decide, fun b nb => eq_empty (SqL.of ((Evl.Ex.new nb) _ _ h2)) (fun x hx => g x (List.mem_filter.mp hx).1) (SqL.of upd_same) ?_⟩
          have ee : ((xs.filter fun x => !isIx x 0 255).isEmpty) = xs.all fun x => isIx x 0 255 := by
            rw [Bool.eq_iff_iff, List.isEmpty_iff, List.filter_eq_nil_iff, List.all_eq_true]
            simp
          rw [ee]
          exact q' _ ((e1.trans e2).trans (Evl.Ex.new nb))
      · rw [decide_eq_false c] at q'
        rw [decide_eq_false (fun z => c (V.int.inj z))]
        exact iteT (q' _ e1)
end
end K3
namespace K3
open PySem PySem.Spec PyProof.Rows L2 VB BM
abbrev Er (K : PySem.W.Frag) (x : Str) : Addr := He.ga K x
/-- an error of the class x with a value is what comes -/
def Fl (K : PySem.W.Frag) (x : Str) (v : V) (H : Hp) (E : XK) : Prop := ∀ (d : Addr) (H' : Hp), Evl.Ex H H' → H' d = none → E (.ref (Er K x)) (some d) (upd H' d (.xd [("given", v)]))
theorem Fl.ex {K : PySem.W.Frag} {x : Str} {v : V} {H H' : Hp} {E : XK} (h : Fl K x v H E) (e : Evl.Ex H H') : Fl K x v H' E := fun d H2 e2 nd => h d H2 (e.trans e2) nd
section
variable {P : Program} {w : World} {K : PySem.W.Frag} {mg : Str → Option Value} {base : Heap} {f : Addr} {fd : FuncData}
def spChkB (K : PySem.W.Frag) : Sp := fun vs H Q E => ∃ (a : Addr) (c : Cp) (v : V), vs = [.ref a, v] ∧ InsAt K H a c ∧ KV K H v ∧ (isIx v 0 (c.blocks - 1) = true → RV .non H Q) ∧ (isIx v 0 (c.blocks - 1) = false → Fl K "InvalidBlock" v H E)
theorem ok_check_block {fB : Addr} (T : Txt K mg) (TC : TxC K) (F : FnM K "_check_block" "Chip._check_block" s_Chip___check_block f fd) (E_InvalidBlock : MkE P w K mg base "InvalidBlock" "given" (Er K "InvalidBlock") fB) (C_is_int_from : Cal P w K mg base CX0 2 "is_int_from" ["value", "least", "greatest"] (spIntFrom K)) :
    Fg P w K mg base (CX P w) 3 f fd ["self", "block"] (spChkB K) := by
  refine fg_of F sc_Chip___check_block (fun vs H Q E h => ?_) (fun cdv A outer s H vs Q E hr h => ⟨_, ((pss_one (ps_if (pt_not (pt_tru (K := K) (pe_cal C_is_int_from hr.le pass0 (pa_cons (pv 1) (pa_cons pe_int (pa_cons (pe_op op_sub (pe_fldU (K := K) (pv 0) rfl) pe_int) pa_nil)))) (by intro _; rfl)))
  (pss_one (ps_raiseE E_InvalidBlock hr (takes_of rfl rfl rfl rfl) rfl (pa_cons (pv 1) pa_nil))) pss_nil))), ?_⟩)
  · obtain ⟨a, c, v, rfl, _⟩ := h
    rfl
  · obtain ⟨a, c, v, rfl, ⟨dx, ha⟩, kv, q, qE⟩ := h
    refine ⟨_, rfl, _, rfl, a, _, dx, _, _, rfl, ha, TC.cls, TC.no _ (by simp), rfl, _, _, rfl, rfl, v, 0, c.blocks - 1, rfl, kv, _, rfl, ?_⟩
    cases hv : isIx v 0 (c.blocks - 1) with
    | true => exact iteF (q hv _ (Evl.Ex.refl _))
    | false => exact iteT ⟨_, rfl, made E_InvalidBlock.err.oex E_InvalidBlock.err.noG fun d nd => qE hv d H (Evl.Ex.refl _) nd⟩
def spChkP (K : PySem.W.Frag) : Sp := fun vs H Q E => ∃ (a : Addr) (c : Cp) (v : V), vs = [.ref a, v] ∧ InsAt K H a c ∧ KV K H v ∧ (isIx v 0 (c.pages - 1) = true → RV .non H Q) ∧ (isIx v 0 (c.pages - 1) = false → Fl K "InvalidPage" v H E)
theorem ok_check_page {fB : Addr} (T : Txt K mg) (TC : TxC K) (F : FnM K "_check_page" "Chip._check_page" s_Chip___check_page f fd) (E_InvalidPage : MkE P w K mg base "InvalidPage" "given" (Er K "InvalidPage") fB) (C_is_int_from : Cal P w K mg base CX0 2 "is_int_from" ["value", "least", "greatest"] (spIntFrom K)) :
    Fg P w K mg base (CX P w) 3 f fd ["self", "page"] (spChkP K) := by
  refine fg_of F sc_Chip___check_page (fun vs H Q E h => ?_) (fun cdv A outer s H vs Q E hr h => ⟨_, ((pss_one (ps_if (pt_not (pt_tru (K := K) (pe_cal C_is_int_from hr.le pass0 (pa_cons (pv 1) (pa_cons pe_int (pa_cons (pe_op op_sub (pe_fldU (K := K) (pv 0) rfl) pe_int) pa_nil)))) (by intro _; rfl)))
  (pss_one (ps_raiseE E_InvalidPage hr (takes_of rfl rfl rfl rfl) rfl (pa_cons (pv 1) pa_nil))) pss_nil))), ?_⟩)
  · obtain ⟨a, c, v, rfl, _⟩ := h
    rfl
  · obtain ⟨a, c, v, rfl, ⟨dx, ha⟩, kv, q, qE⟩ := h
    refine ⟨_, rfl, _, rfl, a, _, dx, _, _, rfl, ha, TC.cls, TC.no _ (by simp), rfl, _, _, rfl, rfl, v, 0, c.pages - 1, rfl, kv, _, rfl, ?_⟩
    cases hv : isIx v 0 (c.pages - 1) with
    | true => exact iteF (q hv _ (Evl.Ex.refl _))
    | false => exact iteT ⟨_, rfl, made E_InvalidPage.err.oex E_InvalidPage.err.noG fun d nd => qE hv d H (Evl.Ex.refl _) nd⟩
theorem nat_ix {v : V} {n : Int} (h : isIx v 0 (n - 1) = true) : ∃ b : Nat, v = .int (b : Int) ∧ (b : Int) < n := by
  obtain ⟨i, rfl, h1, h2⟩ := isIx_of h
  exact ⟨i.toNat, by rw [show ((i.toNat : Nat) : Int) = i by omega], by omega⟩
def pgL (os : List Int) (p : Nat) : List Int := (os.drop (31 * p)).take 31
def spRead (K : PySem.W.Frag) : Sp := fun vs H Q E => ∃ (a dx : Addr) (s : CS) (v u : V), vs = [.ref a, v, u] ∧ ChipAt K H a dx s ∧ KV K H v ∧ KV K H u ∧ (isIx v 0 (s.c.blocks - 1) = false → Fl K "InvalidBlock" v H E) ∧ (isIx v 0 (s.c.blocks - 1) = true → isIx u 0 (s.c.pages - 1) = false → Fl K "InvalidPage" u H E) ∧
  ∀ b p : Nat, v = .int (b : Int) → u = .int (p : Int) → b < s.os.length → (p : Int) < s.c.pages → RT (IV (pgL (s.os.getD b []) p)) H Q
theorem ok_read (T : Txt K mg) (TC : TxC K) (F : FnM K "read" "Chip.read" s_Chip__read f fd) (M_Chip___check_block : CalM P w K mg base (CX P w) 3 (Ch K) "_check_block" ["self", "block"] (spChkB K))
    (M_Chip___check_page : CalM P w K mg base (CX P w) 3 (Ch K) "_check_page" ["self", "page"] (spChkP K)) : Fg P w K mg base (CX P w) 4 f fd ["self", "block", "page"] (spRead K) := by
  refine fg_of F sc_Chip__read (fun vs H Q E h => ?_) (fun cdv A outer s₀ H vs Q E hr h => ⟨_, ((pss_cons (ps_expr (pe_calM M_Chip___check_block hr.le (passes_call (takes_of rfl rfl rfl rfl) (fun _ _ _ _ h => h)) (pv 0) (pa_cons (pv 1) pa_nil)))
  (pss_cons (ps_expr (pe_calM M_Chip___check_page hr.le (passes_call (takes_of rfl rfl rfl rfl) (fun _ _ _ _ h => h)) (pv 0) (pa_cons (pv 2) pa_nil)))
  (pss_one (ps_ret (pe_slice (u_sl (K := K)) (pe_ix (u_ix (K := K)) (pe_fldU (K := K) (pv 0) rfl) (pv 1) (fun _ _ => rfl)) (po_some (pe_op (u_mul (K := K)) (pv 2) (pe_globI rfl T.g_PAGE_OCTETS))) (po_some (pe_op (u_mul (K := K)) (pe_op (u_add (K := K)) (pv 2) pe_int) (pe_globI rfl T.g_PAGE_OCTETS))))))))), ?_⟩)
  · obtain ⟨a, dx, s, v, u, rfl, _⟩ := h
    rfl
  · obtain ⟨a, dx, s, v, u, rfl, hc, kv, ku, qB, qP, q⟩ := h
    refine ⟨_, rfl, a, dx, _, rfl, hc.ins, rfl, _, rfl, a, s.c, v, rfl, ⟨dx, hc.ins⟩, kv, fun hv H1 e1 => ?_, fun hv => qB hv⟩
    refine ⟨_, rfl, a, dx, _, rfl, e1 _ _ hc.ins, rfl, _, rfl, a, s.c, u, rfl, ⟨dx, e1 _ _ hc.ins⟩, ku.ex e1, fun hu H2 e2 => ?_, fun hu => (qP hv hu).ex e1⟩
    have E2 := e1.trans e2
    obtain ⟨b, rfl, b1⟩ := nat_ix hv
    obtain ⟨p, rfl, p1⟩ := nat_ix hu
    have hb : b < s.os.length := by have := hc.nb; omega
    have q := q b p rfl rfl hb p1
    have g8 := hc.g8
    have lo := (hc.oct b hb).2
    have S := SqT.of (K := K) (hc.tup b hb)
    refine ⟨_, rfl, a, _, dx, _, _, rfl, E2 _ _ hc.ins, TC.cls, TC.no _ (by simp), rfl, _, rfl, tup_ix (E2 _ _ hc.o) (by rw [hc.nr]; exact hb) ?_⟩
    generalize s.os.getD b [] = os at lo S q
    have mx : ∀ z : Int, 0 ≤ z → z ≤ 16 → CMulX z 31 := fun z _ _ => mulx_ok (a := 30) (b := 30) (by show _ < 1073741824; omega) (by decide) (by decide)
    refine ⟨_, rfl, .inl ⟨_, _, rfl, rfl, mx _ (by omega) (by omega), _, rfl, _, rfl, .inl ⟨_, _, rfl, rfl, .inl ⟨_, _, rfl, rfl, mx _ (by omega) (by omega), _, rfl, ?_⟩⟩⟩⟩
    have ea : (p : Int) * 31 = ((31 * p : Nat) : Int) := by omega
    have eb : ((p : Int) + 1) * 31 = ((31 * p + 31 : Nat) : Int) := by omega
    have ec : cutV (IV os) (some ((p : Int) * 31)) (some (((p : Int) + 1) * 31)) = IV ((os.drop (31 * p)).take 31) := by
      unfold cutV
      have m1 : min (31 * p) (IV os).length = 31 * p := by rw [iv_len]; omega
      have m2 : min (31 * p + 31) (IV os).length = 31 * p + 31 := by rw [iv_len]; omega
      rw [ea, eb, HT.sIx_nat, HT.sIx_nat, m1, m2, ← List.map_drop, ← List.map_take]
      congr 2
      omega
    refine .inr (.inl ⟨_, _, rfl, Evl.ex_t E2 S, ?_, fun r nr => ?_⟩)
    · rintro ⟨h0, h⟩
      rw [eb, HT.sIx_nat, iv_len] at h
      rw [ea, HT.sIx_nat, iv_len] at h0
      omega
    · rw [ec]
      exact q r _ (Evl.fresh_back E2 nr) (E2.trans (Evl.Ex.new nr)) upd_same
def spErases (K : PySem.W.Frag) : Sp := fun vs H Q E => ∃ (a dx : Addr) (s : CS) (v : V), vs = [.ref a, v] ∧ ChipAt K H a dx s ∧ KV K H v ∧ (isIx v 0 (s.c.blocks - 1) = false → Fl K "InvalidBlock" v H E) ∧
  ∀ b : Nat, v = .int (b : Int) → b < s.os.length → RV (.int (s.er.getD b 0)) H Q
theorem ok_erases (T : Txt K mg) (TC : TxC K) (F : FnM K "erases" "Chip.erases" s_Chip__erases f fd) (M_Chip___check_block : CalM P w K mg base (CX P w) 3 (Ch K) "_check_block" ["self", "block"] (spChkB K)) :
    Fg P w K mg base (CX P w) 4 f fd ["self", "block"] (spErases K) := by
  refine fg_of F sc_Chip__erases (fun vs H Q E h => ?_) (fun cdv A outer s₀ H vs Q E hr h => ⟨_, ((pss_cons (ps_expr (pe_calM M_Chip___check_block hr.le (passes_call (takes_of rfl rfl rfl rfl) (fun _ _ _ _ h => h)) (pv 0) (pa_cons (pv 1) pa_nil)))
  (pss_one (ps_ret (pe_ix (u_ix (K := K)) (pe_fldU (K := K) (pv 0) rfl) (pv 1) (fun _ _ => rfl)))))), ?_⟩)
  · obtain ⟨a, dx, s, v, rfl, _⟩ := h
    rfl
  · obtain ⟨a, dx, s, v, rfl, hc, kv, qB, q⟩ := h
    refine ⟨_, rfl, a, dx, _, rfl, hc.ins, rfl, _, rfl, a, s.c, v, rfl, ⟨dx, hc.ins⟩, kv, fun hv H1 e1 => ?_, fun hv => qB hv⟩
    obtain ⟨b, rfl, b1⟩ := nat_ix hv
    have hb : b < s.os.length := by have := hc.nb; omega
    exact ⟨_, rfl, a, _, dx, _, _, rfl, e1 _ _ hc.ins, TC.cls, TC.no _ (by simp), rfl, _, rfl, Sv.ix (x := .non) (Sv.lst (e1 _ _ hc.e)) (i := (b : Int)) (iv_at (getD_get (by rw [hc.ne]; exact hb))) (q b rfl hb _ e1)⟩
/-- a chip without plans, no block of which is bad -/
structure Plain (s : CS) : Prop where
  kp : s.kp = []
  kq : s.kq = []
  tb : ∀ b, b < s.os.length → s.tb.getD b false = false
  cuts : s.c.cuts = 0
  bd : 0 ≤ s.c.bad ∧ s.c.bad ≤ 17
  bl : 8 ≤ s.os.length
def CS.done (s : CS) (b : Nat) (nw : Addr) (ns : List Int) : CS := { s with c := { s.c with ops := s.c.ops + 1 }, rs := s.rs.set b nw, os := s.os.set b ns }
def spNo : Sp := fun _ _ _ _ => False
def spDo (K : PySem.W.Frag) : Sp := fun vs H Q _ => ∃ (a dx : Addr) (s : CS) (b : Nat) (nw : Addr) (ns : List Int), vs = [.ref a, .int (b : Int), .ref nw] ∧ ChipAt K H a dx s ∧ Plain s ∧ b < s.os.length ∧ H nw = some (.tup (IV ns)) ∧ Oct ns ∧ ns.length = 31 * s.c.pages.toNat ∧
  ∀ H' : Hp, Fr a s.c H H' → ChipAt K H' a dx (s.done b nw ns) → Q (.bl true) H'
theorem ok_do_op (T : Txt K mg) (TC : TxC K) (F : FnM K "_do_op" "Chip._do_op" s_Chip___do_op f fd) (C_changed : Cal P w K mg base CX0 6 "changed" ["old", "new", "mask"] spNo)
    (M_Chip__bad_blocks : CalM P w K mg base CX0 1 (Ch K) "bad_blocks" ["self"] spNo) (M_Chip___set_octets : CalM P w K mg base CX0 1 (Ch K) "_set_octets" ["self", "block", "octets"] (spSetO K)) :
    Fg P w K mg base CX0 7 f fd ["self", "block", "new"] (spDo K) := by
  refine fg_of F sc_Chip___do_op (fun vs H Q E h => ?_) (fun cdv A outer s₀ H vs Q E hr h => ⟨_, (PSs.nox (pss_cons (ps_set (i := 3) sc_Chip___do_op.nd rfl (by first | exact Or.inl rfl | exact Or.inr rfl) (pe_fldU (K := K) (pv 0) rfl))
  (pss_cons (ps_fldaugU (K := K) (pv 0) pe_int in_add)
  (pss_cons (ps_set (i := 4) sc_Chip___do_op.nd rfl (by first | exact Or.inl rfl | exact Or.inr rfl) (pe_dpop2U (pe_fldU (K := K) (pv 0) rfl) (pv 3) pe_non))
  (pss_cons (ps_set (i := 5) sc_Chip___do_op.nd rfl (by first | exact Or.inl rfl | exact Or.inr rfl) (pe_dpop2U (pe_fldU (K := K) (pv 0) rfl) (pv 3) pe_non))
  (pss_cons (ps_if (pt_cmpR op_notN (pv 4) pe_non (nomark _))
  (pss_cons (ps_fldaugU (K := K) (pv 0) pe_int in_add)
  (pss_cons (ps_if (pt_not (pt_tru (K := K) (pe_ix (u_ix (K := K)) (pe_fldU (K := K) (pv 0) rfl) (pv 1) (fun _ _ => rfl)) (by intro _; rfl)))
  (pss_one (ps_expr (pe_calM M_Chip___set_octets hr.le pass0 (pv 0) (pa_cons (pv 1) (pa_cons (pe_cal C_changed hr.le pass0 (pa_cons (pe_ix (u_ix (K := K)) (pe_fldU (K := K) (pv 0) rfl) (pv 1) (fun _ _ => rfl)) (pa_cons (pv 2) (pa_cons (pv 4) pa_nil)))) pa_nil))))) pss_nil)
  (pss_one ps_never))) pss_nil)
  (pss_cons (ps_if (pt_tru (K := K) (pe_ix (u_ix (K := K)) (pe_fldU (K := K) (pv 0) rfl) (pv 1) (fun _ _ => rfl)) (by intro _; rfl))
  (pss_one (ps_ret pe_bl)) pss_nil)
  (pss_cons (ps_if (PW.pt (pw_and (pt_cmpR op_notN (pv 5) pe_non (nomark _)) (pw_and1 (pt_cmpR op_lt (pe_callB (u_len (K := K)) (by rfl) T.f_len (by decide +kernel) (pa_cons (pe_calM0 M_Chip__bad_blocks hr.le pass0 (pv 0)) pa_nil)) (pe_fldU (K := K) (pv 0) rfl) (nomark _)))))
  (pss_cons (ps_expr (pe_calM M_Chip___set_octets hr.le pass0 (pv 0) (pa_cons (pv 1) (pa_cons (pe_cal C_changed hr.le pass0 (pa_cons (pe_ix (u_ix (K := K)) (pe_fldU (K := K) (pv 0) rfl) (pv 1) (fun _ _ => rfl)) (pa_cons (pv 2) (pa_cons (pv 5) pa_nil)))) pa_nil))))
  (pss_cons (ps_asg pe_bl (pg_sub (pe_fldU (K := K) (pv 0) rfl) (pv 1) set_list))
  (pss_one (ps_ret pe_bl)))) pss_nil)
  (pss_cons (ps_expr (pe_calM M_Chip___set_octets hr.le pass0 (pv 0) (pa_cons (pv 1) (pa_cons (pv 2) pa_nil))))
  (pss_one (ps_ret pe_bl))))))))))), ?_⟩)
  · obtain ⟨a, dx, s, b, nw, ns, rfl, _⟩ := h
    rfl
  · obtain ⟨a, dx, s, b, nw, ns, rfl, hc, pl, hb, hn, on, ln, q⟩ := h
    refine ⟨_, rfl, a, _, dx, _, _, rfl, hc.ins, TC.cls, TC.no _ (by simp), rfl, ?_⟩
    refine ⟨_, rfl, a, _, dx, _, _, rfl, hc.ins, TC.cls, TC.no _ (by simp), rfl, _, _, rfl, rfl, dx, _, hc.ins, by show 11 < 1000; decide, ?_⟩
    rw [put_ops]
    have h1 := hc.setc { s.c with ops := s.c.ops + 1 } rfl rfl rfl rfl rfl rfl rfl rfl
    have f1 : Fr a s.c H (upd H a (.ins (Ch K) dx ({ s.c with ops := s.c.ops + 1 } : Cp).fs)) := (Fr.refl a s.c H).at (.inl rfl)
    generalize upd H a (.ins (Ch K) dx ({ s.c with ops := s.c.ops + 1 } : Cp).fs) = H1 at h1 f1 ⊢
    have z1 : valV s.kp (Sum.inl s.c.ops : Key) = none := by rw [pl.kp]; rfl
    have z2 : valV s.kq (Sum.inl s.c.ops : Key) = none := by rw [pl.kq]; rfl
    refine ⟨_, rfl, a, _, dx, _, _, rfl, h1.ins, TC.cls, TC.no _ (by simp), rfl, s.c.p, rfl, .inl ⟨_, Rd.of h1.p⟩, _, rfl, s.kp, (Sum.inl s.c.ops : Key), h1.p, rfl, fun v hv => ?_, fun hv => ?_⟩
    · rw [z1] at hv; cases hv
    refine ⟨_, rfl, a, _, dx, _, _, rfl, h1.ins, TC.cls, TC.no _ (by simp), rfl, s.c.q, rfl, .inl ⟨_, Rd.of h1.q⟩, _, rfl, s.kq, (Sum.inl s.c.ops : Key), h1.q, rfl, fun v hv => ?_, fun hv => ?_⟩
    · rw [z2] at hv; cases hv
    have bt : b < s.tb.length := by rw [hc.nt]; exact hb
    refine ⟨_, rfl, rfl, _, rfl, ?_⟩
    rw [decide_eq_true (show V.non = V.non from rfl)]
    refine iteF ⟨_, rfl, a, _, dx, _, _, rfl, h1.ins, TC.cls, TC.no _ (by simp), rfl, _, rfl, Sv.ix (x := .non) (Sv.lst h1.t) (i := (b : Int)) (bv_at bt) ⟨_, rfl, ?_⟩⟩
    have hv : ({ s with c := { s.c with ops := s.c.ops + 1 } } : CS).tb.getD b false = false := pl.tb b hb
    rw [hv]
    refine iteF ⟨_, rfl, rfl, _, rfl, ?_⟩
    rw [decide_eq_true (show V.non = V.non from rfl)]
    refine iteF ⟨_, rfl, a, dx, _, rfl, h1.ins, rfl, _, rfl, _, rfl, a, dx, _, b, nw, rfl, h1, hb, ?_⟩
    exact q _ (f1.at (.inr (.inl rfl))) (h1.seto hb (hc.tupK f1 hn) on ln)
end
end K3
namespace K3
open PySem PySem.Spec PyProof.Rows L2 VB BM
section
variable {P : Program} {w : World} {K : PySem.W.Frag} {mg : Str → Option Value} {base : Heap} {f : Addr} {fd : FuncData}
def CS.erased (s : CS) (b : Nat) : CS := { s with er := s.er.set b (s.er.getD b 0 + 1) }
/-- behind an erase of block b: its octets at nw -/
def CS.clean (s : CS) (b : Nat) (nw : Addr) : CS := (s.erased b).done b nw (List.replicate (31 * s.c.pages.toNat) 255)
def spEr (K : PySem.W.Frag) : Sp := fun vs H Q E => ∃ (a dx : Addr) (s : CS) (v : V), vs = [.ref a, v] ∧ ChipAt K H a dx s ∧ Plain s ∧ KV K H v ∧ (isIx v 0 (s.c.blocks - 1) = false → Fl K "InvalidBlock" v H E) ∧
  ∀ b : Nat, v = .int (b : Int) → b < s.os.length → ∀ (nw : Addr) (H' : Hp), Fr a s.c H H' → ChipAt K H' a dx (s.clean b nw) → Q (.bl true) H'
theorem ok_erase (T : Txt K mg) (TC : TxC K) (F : FnM K "erase" "Chip.erase" s_Chip__erase f fd) (M_Chip___check_block : CalM P w K mg base (CX P w) 3 (Ch K) "_check_block" ["self", "block"] (spChkB K))
    (C__clean_block : Cal P w K mg base CX0 1 "_clean_block" ["pages"] spCB) (M_Chip___do_op : CalM P w K mg base CX0 7 (Ch K) "_do_op" ["self", "block", "new"] (spDo K)) :
    Fg P w K mg base (CX P w) 8 f fd ["self", "block"] (spEr K) := by
  refine fg_of F sc_Chip__erase (fun vs H Q E h => ?_) (fun cdv A outer s₀ H vs Q E hr h => ⟨_, ((pss_cons (ps_expr (pe_calM M_Chip___check_block hr.le (passes_call (takes_of rfl rfl rfl rfl) (fun _ _ _ _ h => h)) (pv 0) (pa_cons (pv 1) pa_nil)))
  (pss_cons (ps_if (pt_not (pt_tru (K := K) (pe_ix (u_ix (K := K)) (pe_fldU (K := K) (pv 0) rfl) (pv 1) (fun _ _ => rfl)) (by intro _; rfl)))
  (pss_one (ps_augS (pe_fldU (K := K) (pv 0) rfl) (pv 1) (get_list (K := K)) pe_int ip_add set_list)) pss_nil)
  (pss_one (ps_ret (pe_calM M_Chip___do_op hr.le pass0 (pv 0) (pa_cons (pv 1) (pa_cons (pe_cal C__clean_block hr.le pass0 (pa_cons (pe_fldU (K := K) (pv 0) rfl) pa_nil)) pa_nil)))))))), ?_⟩)
  · obtain ⟨a, dx, s, v, rfl, _⟩ := h
    rfl
  · obtain ⟨a, dx, s, v, rfl, hc, pl, kv, qB, q⟩ := h
    refine ⟨_, rfl, a, dx, _, rfl, hc.ins, rfl, _, rfl, a, s.c, v, rfl, ⟨dx, hc.ins⟩, kv, fun hv H1 e1 => ?_, fun hv => qB hv⟩
    obtain ⟨b, rfl, b1⟩ := nat_ix hv
    have hb : b < s.os.length := by have := hc.nb; omega
    have q := q b rfl hb
    have bt : b < s.tb.length := by rw [hc.nt]; exact hb
    have be : b < s.er.length := by rw [hc.ne]; exact hb
    have g8 := hc.g8
    have h1 := hc.ex e1
    have f1 : Fr a s.c H H1 := (Fr.refl a s.c H).ex e1
    refine ⟨_, rfl, a, _, dx, _, _, rfl, h1.ins, TC.cls, TC.no _ (by simp), rfl, _, rfl, Sv.ix (x := .non) (Sv.lst h1.t) (i := (b : Int)) (bv_at bt) ⟨_, rfl, ?_⟩⟩
    rw [pl.tb b hb]
    refine iteT ⟨_, rfl, a, _, dx, _, _, rfl, h1.ins, TC.cls, TC.no _ (by simp), rfl, _, rfl, s.c.e, IV s.er, b, .int (s.er.getD b 0), rfl, rfl, SqL.of h1.e, ?_, by have := hc.b8; omega, ?_⟩
    · rw [List.getElem?_map, getD_get be]
      rfl
    refine ⟨_, _, rfl, rfl, s.c.e, _, _, b, rfl, rfl, h1.e, Evl.ixN_nat (by rw [iv_len]; exact be), ?_⟩
    have es : (IV s.er).set b (V.int (s.er.getD b 0 + 1)) = IV (s.er.set b (s.er.getD b 0 + 1)) := List.map_set.symm
    rw [es]
    have h2 := h1.sete b (s.er.getD b 0 + 1)
    have f2 := f1.at (o := .lst (IV (s.er.set b (s.er.getD b 0 + 1)))) (.inr (.inr (.inl rfl)))
    generalize upd H1 s.c.e (.lst (IV (s.er.set b (s.er.getD b 0 + 1)))) = H2 at h2 f2 ⊢
    refine ⟨_, rfl, a, dx, _, rfl, h2.ins, rfl, _, rfl, _, rfl, a, _, dx, _, _, rfl, h2.ins, TC.cls, TC.no _ (by simp), rfl, s.c.pages.toNat, ?_, by omega, by omega, fun r H3 nr e3 hr3 => ?_⟩
    · show [V.int s.c.pages] = [V.int ((s.c.pages.toNat : Nat) : Int)]
      rw [show ((s.c.pages.toNat : Nat) : Int) = s.c.pages by omega]
    · exact ⟨a, dx, s.erased b, b, r, _, rfl, h2.ex e3, ⟨pl.kp, pl.kq, pl.tb, pl.cuts, pl.bd, pl.bl⟩, hb, hr3, fun z hz => by rw [List.eq_of_mem_replicate hz]; omega, by rw [List.length_replicate]; rfl, fun H' f' hc' => q r H' ((f2.ex e3).trans f') hc'⟩
def CS.wr (s : CS) (b p : Nat) (ws : List Int) (nw : Addr) : CS := s.done b nw (wrote (s.os.getD b []) ws p)
def spWr (K : PySem.W.Frag) : Sp := fun vs H Q E => ∃ (a dx : Addr) (s : CS) (v u x : V) (d : Dsc), vs = [.ref a, v, u, x] ∧ ChipAt K H a dx s ∧ Plain s ∧ KV K H v ∧ KV K H u ∧ At K H x d ∧
  (isIx v 0 (s.c.blocks - 1) = false → Fl K "InvalidBlock" v H E) ∧ (isIx v 0 (s.c.blocks - 1) = true → isIx u 0 (s.c.pages - 1) = false → Fl K "InvalidPage" u H E) ∧
  (isIx v 0 (s.c.blocks - 1) = true → isIx u 0 (s.c.pages - 1) = true → d.oct 31 = false → Fl K "InvalidOctets" x H E) ∧
  ∀ (b p : Nat) (w : Addr) (ws : List Int) (t : Bool), v = .int (b : Int) → u = .int (p : Int) → b < s.os.length → (p : Int) < s.c.pages → d.oct 31 = true → x = .ref w → Sv t K H w (IV ws) → d = .sq t (IV ws) → Oct ws → ws.length = 31 → ∀ (nw : Addr) (H' : Hp), Fr a s.c H H' → ChipAt K H' a dx (s.wr b p ws nw) → Q (.bl true) H'
theorem oct_list {xs : List V} (h : (xs.all fun x => isIx x 0 255) = true) : ∃ ws : List Int, xs = IV ws ∧ Oct ws := by
  induction xs with
  | nil => exact ⟨[], rfl, fun o ho => by cases ho⟩
  | cons x xs ih =>
    rw [List.all_cons, Bool.and_eq_true] at h
    obtain ⟨i, rfl, h1, h2⟩ := isIx_of h.1
    obtain ⟨ws, rfl, ho⟩ := ih h.2
    refine ⟨i :: ws, rfl, fun o hm => ?_⟩
    rcases List.mem_cons.mp hm with e | e
    · subst e
      exact ⟨h1, h2⟩
    · exact ho o e
theorem At.oct {H : Hp} {x : V} {d : Dsc} (h : At K H x d) (ho : d.oct 31 = true) : ∃ (w : Addr) (ws : List Int) (t : Bool), x = .ref w ∧ Sv t K H w (IV ws) ∧ Oct ws ∧ ws.length = 31 ∧ d = .sq t (IV ws) := by
  cases d with
  | one u => cases ho
  | sq t xs =>
    obtain ⟨w, rfl, S, g, l, _, _⟩ := h
    have ho : (decide ((xs.length : Int) = 31) && xs.all fun x => isIx x 0 255) = true := ho
    rw [Bool.and_eq_true, decide_eq_true_eq] at ho
    obtain ⟨ws, rfl, oo⟩ := oct_list ho.2
    exact ⟨w, ws, t, rfl, S, oo, by have := ho.1; rw [iv_len] at this; omega, rfl⟩
theorem ok_write (T : Txt K mg) (TC : TxC K) {fO : Addr} (F : FnM K "write" "Chip.write" s_Chip__write f fd) (E_InvalidOctets : MkE P w K mg base "InvalidOctets" "given" (Er K "InvalidOctets") fO) (M_Chip___check_block : CalM P w K mg base (CX P w) 3 (Ch K) "_check_block" ["self", "block"] (spChkB K))
    (M_Chip___check_page : CalM P w K mg base (CX P w) 3 (Ch K) "_check_page" ["self", "page"] (spChkP K)) (C_is_octets_of : Cal P w K mg base CX0 3 "is_octets_of" ["value", "count"] (spOctOf K)) (M_Chip___do_op : CalM P w K mg base CX0 7 (Ch K) "_do_op" ["self", "block", "new"] (spDo K)) :
    Fg P w K mg base (CX P w) 8 f fd ["self", "block", "page", "octets"] (spWr K) := by
  refine fg_of F sc_Chip__write (fun vs H Q E h => ?_) (fun cdv A outer s₀ H vs Q E hr h => ⟨_, ((pss_cons (ps_expr (pe_calM M_Chip___check_block hr.le (passes_call (takes_of rfl rfl rfl rfl) (fun _ _ _ _ h => h)) (pv 0) (pa_cons (pv 1) pa_nil)))
  (pss_cons (ps_expr (pe_calM M_Chip___check_page hr.le (passes_call (takes_of rfl rfl rfl rfl) (fun _ _ _ _ h => h)) (pv 0) (pa_cons (pv 2) pa_nil)))
  (pss_cons (ps_if (pt_not (pt_tru (K := K) (pe_cal C_is_octets_of hr.le pass0 (pa_cons (pv 3) (pa_cons (pe_globI rfl T.g_PAGE_OCTETS) pa_nil))) (by intro _; rfl)))
  (pss_one (ps_raiseE E_InvalidOctets hr (takes_of rfl rfl rfl rfl) rfl (pa_cons (pv 3) pa_nil))) pss_nil)
  (pss_cons (ps_set (i := 4) sc_Chip__write.nd rfl (by first | exact Or.inl rfl | exact Or.inr rfl) (pe_op (u_mul (K := K)) (pv 2) (pe_globI rfl T.g_PAGE_OCTETS)))
  (pss_cons (ps_set (i := 5) sc_Chip__write.nd rfl (by first | exact Or.inl rfl | exact Or.inr rfl) (pe_op (u_addA (K := K)) (pv 4) (pe_globI rfl T.g_PAGE_OCTETS)))
  (pss_cons (ps_set (i := 6) sc_Chip__write.nd rfl (by first | exact Or.inl rfl | exact Or.inr rfl) (pe_ix (u_ix (K := K)) (pe_fldU (K := K) (pv 0) rfl) (pv 1) (fun _ _ => rfl)))
  (pss_cons (ps_set (i := 7) sc_Chip__write.nd rfl (by first | exact Or.inl rfl | exact Or.inr rfl) (pe_callTy (u_tup (K := K)) (by rfl) T.f_tuple (by decide +kernel) (pa_cons (pe_lc (own := [("was", 8), ("octet", 9)]) rfl sc_Chip__write.nd (pi_zm (K := K) rfl T.f_zip (pa_cons (pe_slice (u_sl (K := K)) (pv 6) (po_some (pv 4)) (po_some (pv 5))) (pa_cons (pv 3) pa_nil))) (blkOk_by (own := [("was", 8), ("octet", 9)]) (N := ["self", "block", "page", "octets", "start", "end", "old", "written", "was", "octet"]) (sc := defScope s_Chip__write) (by decide +kernel)) (fun _ _ _ _ _ => (pg_tupU (K := K) (n := 2) rfl (pgs_cons (pg_name (i := 8) sc_Chip__write.nd rfl (by first | exact Or.inl rfl | exact Or.inr rfl)) (pgs_cons (pg_name (i := 9) sc_Chip__write.nd rfl (by first | exact Or.inl rfl | exact Or.inr rfl)) pgs_nil)))) (fun _ _ _ _ _ => pts_nil) (fun _ _ _ _ _ => (pe_op op_and (pv 8) (pv 9)))) pa_nil)))
  (pss_one (ps_ret (pe_calM M_Chip___do_op hr.le pass0 (pv 0) (pa_cons (pv 1) (pa_cons (pe_op (u_addA (K := K)) (pe_op (u_addA (K := K)) (pe_slice (u_sl (K := K)) (pv 6) po_none (po_some (pv 4))) (pv 7)) (pe_slice (u_sl (K := K)) (pv 6) (po_some (pv 5)) po_none)) pa_nil))))))))))))), ?_⟩)
  · obtain ⟨a, dx, s, v, u, x, d, rfl, _⟩ := h
    rfl
  · obtain ⟨a, dx, s, v, u, x, d, rfl, hc, pl, kv, ku, hx, qB, qP, qO, q⟩ := h
    refine ⟨_, rfl, a, dx, _, rfl, hc.ins, rfl, _, rfl, a, s.c, v, rfl, ⟨dx, hc.ins⟩, kv, fun hv H1 e1 => ?_, fun hv => qB hv⟩
    refine ⟨_, rfl, a, dx, _, rfl, e1 _ _ hc.ins, rfl, _, rfl, a, s.c, u, rfl, ⟨dx, e1 _ _ hc.ins⟩, ku.ex e1, fun hu H2 e2 => ?_, fun hu => (qP hv hu).ex e1⟩
    have E2 := e1.trans e2
    refine ⟨_, rfl, x, d, 31, rfl, hx.ex E2, fun H3 e3 => ⟨_, rfl, ?_⟩⟩
    have E3 := E2.trans e3
    cases ho : d.oct 31 with
    | false => exact iteT ⟨_, rfl, made E_InvalidOctets.err.oex E_InvalidOctets.err.noG fun d nd => qO hv hu ho d H3 E3 nd⟩
    | true =>
    obtain ⟨w, ws, t, rfl, S, ow, lw, ed⟩ := hx.oct ho
    obtain ⟨b, rfl, b1⟩ := nat_ix hv
    obtain ⟨p, rfl, hp⟩ := nat_ix hu
    have hb : b < s.os.length := by have := hc.nb; omega
    have q := q b p w ws t rfl rfl hb hp ho rfl S ed ow lw
    have g8 := hc.g8
    have o31 := hc.oct b hb
    have br : b < s.rs.length := by rw [hc.nr]; exact hb
    refine iteF ?_
    have h3 := hc.ex E3
    have mx : CMulX (p : Int) 31 := mulx_ok (a := 30) (b := 30) (by show _ < 1073741824; omega) (by decide) (by decide)
    refine ⟨_, rfl, .inl ⟨_, _, rfl, rfl, mx, _, rfl, .inl (.inl ⟨_, _, rfl, rfl, ?_⟩)⟩⟩
    refine ⟨_, rfl, a, _, dx, _, _, rfl, h3.ins, TC.cls, TC.no _ (by simp), rfl, _, rfl, tup_ix h3.o br ?_⟩
    have ea : (p : Int) * 31 = ((31 * p : Nat) : Int) := by omega
    have eb : (p : Int) * 31 + 31 = ((31 * p + 31 : Nat) : Int) := by omega
    have L : (s.os.getD b []).length = 31 * s.c.pages.toNat := o31.2
    have hT := h3.tup b hb
    have hT : H3 (s.rs.getD b 0) = some (.tup (IV (s.os.getD b []))) := hT
    have oO := o31.1
    generalize hO : s.os.getD b [] = O at L hT oO
    generalize s.rs.getD b 0 = ro at hT
    have p1 : 31 * p + 31 ≤ O.length := by omega
    refine ⟨_, rfl, _, rfl, _, rfl, _, rfl, _, rfl, .inr (.inl ⟨ro, _, rfl, SqT.of hT, ?_, fun z nz => ?_⟩)⟩
    · rintro ⟨h0, h⟩
      rw [eb, HT.sIx_nat, iv_len] at h
      rw [ea, HT.sIx_nat, iv_len] at h0
      omega
    have ec : cutV (IV O) (some ((p : Int) * 31)) (some ((p : Int) * 31 + 31)) = IV ((O.drop (31 * p)).take 31) := by
      rw [eb, ea, cut_nn (by omega) p1]
      congr 2
      omega
    have xz := Evl.Ex.new (o := .tup (IV ((O.drop (31 * p)).take 31))) nz
    show tCons (tVar 3) tNil _ (upd H3 z (.tup (cutV (IV O) (some ((p : Int) * 31)) (some ((p : Int) * 31 + 31))))) _
    rw [ec]
    have lz : ((O.drop (31 * p)).take 31).length = 31 := by rw [List.length_take, List.length_drop]; omega
    have S3 := (S.ex E3).ex xz
    refine ⟨_, rfl, true, t, z, w, _, _, rfl, Sv.tup upd_same, S3, fun D hD => ?_⟩
    have wk := walk_zm (t := true) (u := t) (K := K) (a := z) (b := w) (xs := IV ((O.drop (31 * p)).take 31)) (ys := IV ws) (n := 31) (by rw [iv_len, iv_len, lz, lw]; rfl)
    have lB := both_len (f := Builtin.bitAnd) (xs := (O.drop (31 * p)).take 31) (ys := ws) (by rw [lz, lw])
    refine lc_pureVZ (us := IV (both Builtin.bitAnd ((O.drop (31 * p)).take 31) ws)) wk (fun H' ex => ⟨(Sv.tup upd_same).ex ex, S3.ex ex⟩) (by rw [iv_len, lB, lz]) (by omega) hD (fun _ _ => rfl) ?_ ?_
    · intro i x y v H' Q' hx hy hv ex k
      obtain ⟨m, n, rfl, rfl, rfl⟩ := both_at hx hy hv
      exact ⟨_, rfl, _, rfl, _, _, rfl, rfl, k H' (Evl.Ex.refl _)⟩
    intro H4 e4 h4
    refine ⟨D, _, rfl, .inl ⟨SqL.of h4, fun l nl => ?_⟩⟩
    have xl := Evl.Ex.new (o := .tup (IV (both Builtin.bitAnd ((O.drop (31 * p)).take 31) ws))) nl
    have hl := upd_same (H := H4) (a := l) (o := .tup (IV (both Builtin.bitAnd ((O.drop (31 * p)).take 31) ws)))
    have E5 := E3.trans ((xz.trans e4).trans xl)
    have hT5 := ((xz.trans e4).trans xl) _ _ hT
    generalize upd H4 l (.tup (IV (both Builtin.bitAnd ((O.drop (31 * p)).take 31) ws))) = H5 at hl E5 hT5 ⊢
    refine ⟨_, rfl, a, dx, _, rfl, E5 _ _ hc.ins, rfl, _, rfl, ?_⟩
    refine ⟨_, rfl, _, rfl, _, rfl, .inr (.inl ⟨ro, _, rfl, SqT.of hT5, ?_, fun z1 nz1 => ?_⟩)⟩
    · rintro ⟨_, h⟩
      rw [ea, HT.sIx_nat, iv_len] at h
      omega
    have x1 := Evl.Ex.new (o := .tup (cutV (IV O) none (some ((p : Int) * 31)))) nz1
    have c1 : cutV (IV O) none (some ((p : Int) * 31)) = IV (O.take (31 * p)) := by rw [ea, cut_n0 (by omega)]
    have h1 : upd H5 z1 (.tup (cutV (IV O) none (some ((p : Int) * 31)))) z1 = some (.tup (IV (O.take (31 * p)))) := by rw [upd_same, c1]
    refine ⟨_, rfl, catA h1 (x1 _ _ hl) (by rw [iv_len, iv_len, List.length_take, lB, lz]; omega) fun r1 H6 e6 h6 => ?_⟩
    have E6 := x1.trans e6
    refine ⟨_, rfl, _, rfl, _, rfl, .inr (.inl ⟨ro, _, rfl, SqT.of (E6 _ _ hT5), ?_, fun z2 nz2 => ?_⟩)⟩
    · rintro ⟨h0, _⟩
      rw [eb, HT.sIx_nat, iv_len] at h0
      omega
    have x2 := Evl.Ex.new (o := .tup (cutV (IV O) (some ((p : Int) * 31 + 31)) none)) nz2
    have c2 : cutV (IV O) (some ((p : Int) * 31 + 31)) none = IV (O.drop (31 * p + 31)) := by rw [eb, cut_0n p1]
    have h2 : upd H6 z2 (.tup (cutV (IV O) (some ((p : Int) * 31 + 31)) none)) z2 = some (.tup (IV (O.drop (31 * p + 31)))) := by rw [upd_same, c2]
    refine catA (x2 _ _ h6) h2 (by rw [List.length_append, iv_len, iv_len, iv_len, List.length_take, lB, lz, List.length_drop]; omega) fun r2 H7 e7 h7 => ?_
    have E7 := E5.trans (E6.trans (x2.trans e7))
    have ew : IV (O.take (31 * p)) ++ IV (both Builtin.bitAnd ((O.drop (31 * p)).take 31) ws) ++ IV (O.drop (31 * p + 31)) = IV (wrote O ws p) := by
      unfold wrote
      rw [List.append_assoc, ← List.map_append, ← List.map_append]
    rw [ew] at h7
    have q' : ∀ (nw : Addr) (H' : Hp), Fr a s.c H H' → ChipAt K H' a dx (s.done b nw (wrote O ws p)) → Q (.bl true) H' := by rw [← hO]; exact q
    refine ⟨a, dx, s, b, r2, _, rfl, hc.ex E7, pl, hb, h7, oct_app (fun x hx => oO x (List.mem_of_mem_take hx)) (oct_app (both_oct (fun x hx => oO x (List.mem_of_mem_drop (List.mem_of_mem_take hx))) ow fun _ _ => and_oct) (fun x hx => oO x (List.mem_of_mem_drop hx))),
      by unfold wrote; rw [List.length_append, List.length_append, List.length_take, List.length_drop, lB, lz]; omega, fun H' f' hc' => q' r2 H' (((Fr.refl a s.c H).ex E7).trans f') hc'⟩
end
end K3
namespace K3
open PySem PySem.Spec PyProof.Rows L2 VB BM
section
variable {P : Program} {w : World} {K : PySem.W.Frag} {mg : Str → Option Value} {base : Heap} {f : Addr} {fd : FuncData}
def spBC (K : PySem.W.Frag) : Sp := fun vs H Q _ => ∃ v : V, vs = [v] ∧ KV K H v ∧ Q (.bl (isIx v 8 24)) H
theorem ok_bc (T : Txt K mg) (F : FnP K "is_block_count" s_is_block_count f fd) (C_is_int_from : Cal P w K mg base CX0 2 "is_int_from" ["value", "least", "greatest"] (spIntFrom K)) : Fg P w K mg base CX0 3 f fd ["value"] (spBC K) := by
  refine fg_of F sc_is_block_count (fun vs H Q E h => ?_) (fun cdv A outer s H vs Q E hr h => ⟨_, (PSs.nox (pss_one (ps_ret (pe_cal C_is_int_from hr.le pass0 (pa_cons (pv 0) (pa_cons (pe_globI rfl T.g_LEAST_BLOCKS) (pa_cons (pe_globI rfl T.g_MOST_BLOCKS) pa_nil))))))), ?_⟩)
  · obtain ⟨v, rfl, _⟩ := h
    rfl
  · obtain ⟨v, rfl, kv, q⟩ := h
    exact ⟨_, rfl, v, 8, 24, rfl, kv, q⟩
def spPC (K : PySem.W.Frag) : Sp := fun vs H Q _ => ∃ v : V, vs = [v] ∧ KV K H v ∧ Q (.bl (isIx v 8 16)) H
theorem ok_pc (T : Txt K mg) (F : FnP K "is_page_count" s_is_page_count f fd) (C_is_int_from : Cal P w K mg base CX0 2 "is_int_from" ["value", "least", "greatest"] (spIntFrom K)) : Fg P w K mg base CX0 3 f fd ["value"] (spPC K) := by
  refine fg_of F sc_is_page_count (fun vs H Q E h => ?_) (fun cdv A outer s H vs Q E hr h => ⟨_, (PSs.nox (pss_one (ps_ret (pe_cal C_is_int_from hr.le pass0 (pa_cons (pv 0) (pa_cons (pe_globI rfl T.g_LEAST_PAGES) (pa_cons (pe_globI rfl T.g_MOST_PAGES) pa_nil))))))), ?_⟩)
  · obtain ⟨v, rfl, _⟩ := h
    rfl
  · obtain ⟨v, rfl, kv, q⟩ := h
    exact ⟨_, rfl, v, 8, 16, rfl, kv, q⟩
def spBdC (K : PySem.W.Frag) : Sp := fun vs H Q _ => ∃ (v : V) (b : Int), vs = [v, .int b] ∧ KV K H v ∧ Q (.bl (isIx v 0 (b - 7))) H
theorem ok_bdc (T : Txt K mg) (F : FnP K "is_bad_count" s_is_bad_count f fd) (C_is_int_from : Cal P w K mg base CX0 2 "is_int_from" ["value", "least", "greatest"] (spIntFrom K)) : Fg P w K mg base CX0 3 f fd ["value", "blocks"] (spBdC K) := by
  refine fg_of F sc_is_bad_count (fun vs H Q E h => ?_) (fun cdv A outer s H vs Q E hr h => ⟨_, (PSs.nox (pss_one (ps_ret (pe_cal C_is_int_from hr.le pass0 (pa_cons (pv 0) (pa_cons pe_int (pa_cons (pe_op op_sub (pv 1) (pe_globI rfl T.g_LEAST_GOOD_BLOCKS)) pa_nil))))))), ?_⟩)
  · obtain ⟨v, b, rfl, _⟩ := h
    rfl
  · obtain ⟨v, b, rfl, kv, q⟩ := h
    exact ⟨_, rfl, _, rfl, _, _, rfl, rfl, v, 0, b - 7, rfl, kv, q⟩
/-- what Chip(..) makes of a new instance -/
def spInitC (K : PySem.W.Frag) : Sp := fun vs H Q E => ∃ (x dx : Addr) (v u z : V), vs = [.ref x, v, u, z] ∧ H x = some (.ins (Ch K) dx []) ∧ KV K H v ∧ KV K H u ∧ KV K H z ∧
  (isIx v 8 24 = false → Fl K "InvalidShape" v H E) ∧ (isIx v 8 24 = true → isIx u 8 16 = false → Fl K "InvalidShape" u H E) ∧ (∀ n : Int, v = .int n → isIx v 8 24 = true → isIx u 8 16 = true → isIx z 0 (n - 7) = false → Fl K "InvalidShape" z H E) ∧
  ∀ n pg bd : Nat, v = .int (n : Int) → u = .int (pg : Int) → z = .int (bd : Int) → 8 ≤ n → n ≤ 24 → 8 ≤ pg → pg ≤ 16 → (bd : Int) ≤ (n : Int) - 7 →
  ∀ (c : Cp) (rs : List Addr) (H' : Hp), c.blocks = n → c.pages = pg → c.bad = bd → c.ops = 0 → c.cuts = 0 → (∀ b o, b ≠ x → H b = some o → H' b = some o) → H' x = some (.ins (Ch K) dx c.fs) →
    rs.length = n → (∀ r ∈ rs, H' r = some (.tup (IV (List.replicate (31 * pg) 255)))) → H' c.o = some (.lst (rs.map V.ref)) → H' c.e = some (.lst (IV (List.replicate n 0))) → H' c.t = some (.lst (BV (List.replicate n false))) →
    H' c.p = some (.dK []) → H' c.q = some (.dK []) → H' c.r = some (.dK []) → c.o ≠ c.e → c.o ≠ c.t → c.e ≠ c.t → c.p ≠ c.q → c.p ≠ c.r → c.q ≠ c.r → H c.o = none → H c.e = none → H c.t = none → H c.p = none → H c.q = none → H c.r = none → Q .non H'
theorem nat_ix2 {v : V} {lo hi : Int} (h0 : 0 ≤ lo) (h : isIx v lo hi = true) : ∃ b : Nat, v = .int (b : Int) ∧ lo ≤ (b : Int) ∧ (b : Int) ≤ hi := by
  obtain ⟨i, rfl, h1, h2⟩ := isIx_of h
  exact ⟨i.toNat, by rw [show ((i.toNat : Nat) : Int) = i by omega], by omega, by omega⟩
theorem ok_init {fS : Addr} (T : Txt K mg) (TC : TxC K) (F : FnM K "__init__" "Chip.__init__" s_Chip____init__ f fd) (E_InvalidShape : MkE P w K mg base "InvalidShape" "given" (Er K "InvalidShape") fS) (C_is_block_count : Cal P w K mg base CX0 3 "is_block_count" ["value"] (spBC K)) (C_is_page_count : Cal P w K mg base CX0 3 "is_page_count" ["value"] (spPC K))
    (C_is_bad_count : Cal P w K mg base CX0 3 "is_bad_count" ["value", "blocks"] (spBdC K)) (C__clean_block : Cal P w K mg base CX0 1 "_clean_block" ["pages"] spCB) : Fg P w K mg base (CX P w) 4 f fd ["self", "blocks", "pages", "bad"] (spInitC K) := by
  refine fg_of F sc_Chip____init__ (fun vs H Q E h => ?_) (fun cdv A outer s H vs Q E hr h => ⟨_, ((pss_cons (ps_if (pt_not (pt_tru (K := K) (pe_cal C_is_block_count hr.le pass0 (pa_cons (pv 1) pa_nil)) (by intro _; rfl)))
  (pss_one (ps_raiseE E_InvalidShape hr (takes_of rfl rfl rfl rfl) rfl (pa_cons (pv 1) pa_nil))) pss_nil)
  (pss_cons (ps_if (pt_not (pt_tru (K := K) (pe_cal C_is_page_count hr.le pass0 (pa_cons (pv 2) pa_nil)) (by intro _; rfl)))
  (pss_one (ps_raiseE E_InvalidShape hr (takes_of rfl rfl rfl rfl) rfl (pa_cons (pv 2) pa_nil))) pss_nil)
  (pss_cons (ps_if (pt_not (pt_tru (K := K) (pe_cal C_is_bad_count hr.le pass0 (pa_cons (pv 3) (pa_cons (pv 1) pa_nil))) (by intro _; rfl)))
  (pss_one (ps_raiseE E_InvalidShape hr (takes_of rfl rfl rfl rfl) rfl (pa_cons (pv 3) pa_nil))) pss_nil)
  (pss_cons (ps_fldU (K := K) (pv 0) (pv 1) rfl)
  (pss_cons (ps_fldU (K := K) (pv 0) (pv 2) rfl)
  (pss_cons (ps_fldU (K := K) (pv 0) (pv 3) rfl)
  (pss_cons (ps_fldU (K := K) (pv 0) pe_int rfl)
  (pss_cons (ps_fldU (K := K) (pv 0) pe_int rfl)
  (pss_cons (ps_fldU (K := K) (pv 0) (pe_lc (own := [("_", 4)]) rfl sc_Chip____init__.nd (pi_range1 rfl T.f_range (pa_cons (pv 1) pa_nil)) (blkOk_by (own := [("_", 4)]) (N := ["self", "blocks", "pages", "bad", "_"]) (sc := defScope s_Chip____init__) (by decide +kernel)) (fun _ _ _ _ _ => (pg_name (i := 4) sc_Chip____init__.nd rfl (by first | exact Or.inl rfl | exact Or.inr rfl))) (fun _ _ _ _ _ => pts_nil) (fun _ _ _ _ _ => (pe_cal C__clean_block hr.le pass0 (pa_cons (pv 2) pa_nil)))) rfl)
  (pss_cons (ps_fldU (K := K) (pv 0) (pe_op (u_mul (K := K)) (pe_lst (pa_cons pe_int pa_nil)) (pv 1)) rfl)
  (pss_cons (ps_fldU (K := K) (pv 0) (pe_op (u_mul (K := K)) (pe_lst (pa_cons pe_bl pa_nil)) (pv 1)) rfl)
  (pss_cons (ps_fldU (K := K) (pv 0) pe_dnewK rfl)
  (pss_cons (ps_fldU (K := K) (pv 0) pe_dnewK rfl)
  (pss_one (ps_fldU (K := K) (pv 0) pe_dnewK rfl)))))))))))))))), ?_⟩)
  · obtain ⟨x, dx, v, u, z, rfl, _⟩ := h
    rfl
  · obtain ⟨x, dx, v, u, z, rfl, hx, kv, ku, kz, q1, q2, q3, q⟩ := h
    refine ⟨_, rfl, v, rfl, kv, _, rfl, ?_⟩
    cases hv : isIx v 8 24 with
    | false => exact iteT ⟨_, rfl, made E_InvalidShape.err.oex E_InvalidShape.err.noG fun d nd => q1 hv d H (Evl.Ex.refl _) nd⟩
    | true =>
    refine iteF ⟨_, rfl, u, rfl, ku, _, rfl, ?_⟩
    cases hu : isIx u 8 16 with
    | false => exact iteT ⟨_, rfl, made E_InvalidShape.err.oex E_InvalidShape.err.noG fun d nd => q2 hv hu d H (Evl.Ex.refl _) nd⟩
    | true =>
    obtain ⟨n, rfl, n1', n2'⟩ := nat_ix2 (by decide) hv
    obtain ⟨pg, rfl, g1', g2'⟩ := nat_ix2 (by decide) hu
    have n1 : 8 ≤ n := by omega
    have n2 : n ≤ 24 := by omega
    have g1 : 8 ≤ pg := by omega
    have g2 : pg ≤ 16 := by omega
    refine iteF ⟨_, rfl, _, rfl, z, (n : Int), rfl, kz, _, rfl, ?_⟩
    cases hz : isIx z 0 ((n : Int) - 7) with
    | false => exact iteT ⟨_, rfl, made E_InvalidShape.err.oex E_InvalidShape.err.noG fun d nd => q3 _ rfl hv hu hz d H (Evl.Ex.refl _) nd⟩
    | true =>
    obtain ⟨bd, rfl, b0', b1⟩ := nat_ix2 (by decide) hz
    have q := q n pg bd rfl rfl rfl n1 n2 g1 g2 b1
    refine iteF ?_
    -- the numbers
    refine ⟨_, rfl, _, rfl, x, _, dx, _, rfl, hx, TC.cls, TC.no _ (by simp), by show 0 < 1000; decide, ?_⟩
    rw [putF_new (f := "blocks") rfl]
    have e1 : Exb x H (upd H x (HO.ins (Ch K) dx (([] : List (Str × V)) ++ [(("blocks" : Str), V.int (n : Int))]))) := Exb.upd
    have h1 := upd_same (H := H) (a := x) (o := HO.ins (Ch K) dx (([] : List (Str × V)) ++ [(("blocks" : Str), V.int (n : Int))]))
    generalize upd H x (HO.ins (Ch K) dx (([] : List (Str × V)) ++ [(("blocks" : Str), V.int (n : Int))])) = H1 at e1 h1 ⊢
    refine ⟨_, rfl, _, rfl, x, _, dx, _, rfl, h1, TC.cls, TC.no _ (by simp), by show 1 < 1000; decide, ?_⟩
    rw [putF_new (f := "pages") rfl]
    have e2 : Exb x H1 (upd H1 x (HO.ins (Ch K) dx (([] : List (Str × V)) ++ [(("blocks" : Str), V.int (n : Int))] ++ [(("pages" : Str), V.int (pg : Int))]))) := Exb.upd
    have h2 := upd_same (H := H1) (a := x) (o := HO.ins (Ch K) dx (([] : List (Str × V)) ++ [(("blocks" : Str), V.int (n : Int))] ++ [(("pages" : Str), V.int (pg : Int))]))
    generalize upd H1 x (HO.ins (Ch K) dx (([] : List (Str × V)) ++ [(("blocks" : Str), V.int (n : Int))] ++ [(("pages" : Str), V.int (pg : Int))])) = H2 at e2 h2 ⊢
    refine ⟨_, rfl, _, rfl, x, _, dx, _, rfl, h2, TC.cls, TC.no _ (by simp), by show 2 < 1000; decide, ?_⟩
    rw [putF_new (f := "bad") rfl]
    have e3 : Exb x H2 (upd H2 x (HO.ins (Ch K) dx (([] : List (Str × V)) ++ [(("blocks" : Str), V.int (n : Int))] ++ [(("pages" : Str), V.int (pg : Int))] ++ [(("bad" : Str), V.int (bd : Int))]))) := Exb.upd
    have h3 := upd_same (H := H2) (a := x) (o := HO.ins (Ch K) dx (([] : List (Str × V)) ++ [(("blocks" : Str), V.int (n : Int))] ++ [(("pages" : Str), V.int (pg : Int))] ++ [(("bad" : Str), V.int (bd : Int))]))
    generalize upd H2 x (HO.ins (Ch K) dx (([] : List (Str × V)) ++ [(("blocks" : Str), V.int (n : Int))] ++ [(("pages" : Str), V.int (pg : Int))] ++ [(("bad" : Str), V.int (bd : Int))])) = H3 at e3 h3 ⊢
    refine ⟨_, rfl, x, _, dx, _, rfl, h3, TC.cls, TC.no _ (by simp), by show 3 < 1000; decide, ?_⟩
    rw [putF_new (f := "ops") rfl]
    have e4 : Exb x H3 (upd H3 x (HO.ins (Ch K) dx (([] : List (Str × V)) ++ [(("blocks" : Str), V.int (n : Int))] ++ [(("pages" : Str), V.int (pg : Int))] ++ [(("bad" : Str), V.int (bd : Int))] ++ [(("ops" : Str), V.int 0)]))) := Exb.upd
    have h4 := upd_same (H := H3) (a := x) (o := HO.ins (Ch K) dx (([] : List (Str × V)) ++ [(("blocks" : Str), V.int (n : Int))] ++ [(("pages" : Str), V.int (pg : Int))] ++ [(("bad" : Str), V.int (bd : Int))] ++ [(("ops" : Str), V.int 0)]))
    generalize upd H3 x (HO.ins (Ch K) dx (([] : List (Str × V)) ++ [(("blocks" : Str), V.int (n : Int))] ++ [(("pages" : Str), V.int (pg : Int))] ++ [(("bad" : Str), V.int (bd : Int))] ++ [(("ops" : Str), V.int 0)])) = H4 at e4 h4 ⊢
    refine ⟨_, rfl, x, _, dx, _, rfl, h4, TC.cls, TC.no _ (by simp), by show 4 < 1000; decide, ?_⟩
    rw [putF_new (f := "cuts") rfl]
    have e5 : Exb x H4 (upd H4 x (HO.ins (Ch K) dx (([] : List (Str × V)) ++ [(("blocks" : Str), V.int (n : Int))] ++ [(("pages" : Str), V.int (pg : Int))] ++ [(("bad" : Str), V.int (bd : Int))] ++ [(("ops" : Str), V.int 0)] ++ [(("cuts" : Str), V.int 0)]))) := Exb.upd
    have h5 := upd_same (H := H4) (a := x) (o := HO.ins (Ch K) dx (([] : List (Str × V)) ++ [(("blocks" : Str), V.int (n : Int))] ++ [(("pages" : Str), V.int (pg : Int))] ++ [(("bad" : Str), V.int (bd : Int))] ++ [(("ops" : Str), V.int 0)] ++ [(("cuts" : Str), V.int 0)]))
    generalize upd H4 x (HO.ins (Ch K) dx (([] : List (Str × V)) ++ [(("blocks" : Str), V.int (n : Int))] ++ [(("pages" : Str), V.int (pg : Int))] ++ [(("bad" : Str), V.int (bd : Int))] ++ [(("ops" : Str), V.int 0)] ++ [(("cuts" : Str), V.int 0)])) = H5 at e5 h5 ⊢
    have E5 := (((e1.trans e2).trans e3).trans e4).trans e5
    clear e1 e2 e3 e4 e5 h1 h2 h3 h4 hx
    -- the octets
    refine ⟨_, rfl, (n : Int), rfl, by omega, by omega, fun D hD => ?_⟩
    have nn : ((n : Int)).toNat = n := by omega
    rw [nn]
    have nD : D ≠ x := fun z => by rw [z, h5] at hD; cases hD
    refine lc_range (lo := 0) (n := n) (fun i H' => i ≤ n ∧ Evl.Ex H5 H' ∧ ∃ rs : List Addr, rs.length = i ∧ H' D = some (.lst (rs.map V.ref)) ∧ ∀ r ∈ rs, r ≠ D ∧ H5 r = none ∧ H' r = some (.tup (IV (List.replicate (31 * pg) 255)))) ⟨by omega, Evl.Ex.new hD, [], rfl, upd_same, fun _ h => (by cases h)⟩ ?_ ?_
    · rintro i H6 hi ⟨_, e6, rs, lr, hrs, ar⟩
      refine ⟨rfl, _, rfl, pg, rfl, g1, g2, fun r H7 nr e7 hr7 => ?_⟩
      have hD7 := e7 _ _ hrs
      have rD : r ≠ D := fun z => by rw [z, hrs] at nr; cases nr
      refine ⟨_, hD7, by rw [List.length_map, lr]; exact Evl.sz_lt (by omega), by omega, Evl.Ex.mut (e6.trans e7) hD, rs ++ [r], by simp [lr], by rw [upd_same, List.map_append]; rfl, ?_⟩
      intro q' hq'
      rcases List.mem_append.mp hq' with h | h
      · obtain ⟨a1, a2, a3⟩ := ar q' h
        exact ⟨a1, a2, by rw [upd_ne a1]; exact e7 _ _ a3⟩
      · have : q' = r := by simpa using h
        subst this
        exact ⟨rD, Evl.fresh_back e6 nr, by rw [upd_ne rD]; exact hr7⟩
    rintro H6 ⟨_, e6, rs, lr, hrs, ar⟩
    have xD : D ≠ x := nD
    refine ⟨_, rfl, x, _, dx, _, rfl, e6 _ _ h5, TC.cls, TC.no _ (by simp), by show 5 < 1000; decide, ?_⟩
    rw [putF_new (f := "_octets") rfl]
    have f7 : Exb x H6 (upd H6 x (HO.ins (Ch K) dx (([] : List (Str × V)) ++ [(("blocks" : Str), V.int (n : Int))] ++ [(("pages" : Str), V.int (pg : Int))] ++ [(("bad" : Str), V.int (bd : Int))] ++ [(("ops" : Str), V.int 0)] ++ [(("cuts" : Str), V.int 0)] ++ [(("_octets" : Str), V.ref D)]))) := Exb.upd
    have h7 := upd_same (H := H6) (a := x) (o := HO.ins (Ch K) dx (([] : List (Str × V)) ++ [(("blocks" : Str), V.int (n : Int))] ++ [(("pages" : Str), V.int (pg : Int))] ++ [(("bad" : Str), V.int (bd : Int))] ++ [(("ops" : Str), V.int 0)] ++ [(("cuts" : Str), V.int 0)] ++ [(("_octets" : Str), V.ref D)]))
    generalize upd H6 x (HO.ins (Ch K) dx (([] : List (Str × V)) ++ [(("blocks" : Str), V.int (n : Int))] ++ [(("pages" : Str), V.int (pg : Int))] ++ [(("bad" : Str), V.int (bd : Int))] ++ [(("ops" : Str), V.int 0)] ++ [(("cuts" : Str), V.int 0)] ++ [(("_octets" : Str), V.ref D)])) = H7 at f7 h7 ⊢
    have E7 := (E5.trans (Exb.of e6)).trans f7
    have hD7 := f7 D _ nD hrs
    have fD : H D = none := Exb.fresh E5 hD nD
    -- the erases
    refine ⟨by show 1 ≤ sizeLine; decide, fun l0 n0 => ⟨_, rfl, repV upd_same (by omega) fun l1 n1 => ?_⟩⟩
    have x0 := Evl.Ex.new (o := .lst [V.int 0]) n0
    have x1 := Evl.Ex.new (o := .lst (List.replicate n (V.int 0))) n1
    have g7 := Evl.fresh_back x0 n1
    have nl1 : l1 ≠ x := fun z => by rw [z, h7] at g7; cases g7
    have Dl1 : D ≠ l1 := fun z => by rw [← z, hD7] at g7; cases g7
    have k1 := upd_same (H := upd H7 l0 (.lst [V.int 0])) (a := l1) (o := .lst (List.replicate n (V.int 0)))
    have X1 := x0.trans x1
    have h7' := X1 _ _ h7
    have hD8 := X1 _ _ hD7
    generalize upd (upd H7 l0 (.lst [V.int 0])) l1 (.lst (List.replicate n (V.int 0))) = H8 at k1 X1 h7' hD8 ⊢
    refine ⟨_, rfl, x, _, dx, _, rfl, h7', TC.cls, TC.no _ (by simp), by show 6 < 1000; decide, ?_⟩
    rw [putF_new (f := "_erased") rfl]
    have f9 : Exb x H8 (upd H8 x (HO.ins (Ch K) dx (([] : List (Str × V)) ++ [(("blocks" : Str), V.int (n : Int))] ++ [(("pages" : Str), V.int (pg : Int))] ++ [(("bad" : Str), V.int (bd : Int))] ++ [(("ops" : Str), V.int 0)] ++ [(("cuts" : Str), V.int 0)] ++ [(("_octets" : Str), V.ref D)] ++ [(("_erased" : Str), V.ref l1)]))) := Exb.upd
    have h9 := upd_same (H := H8) (a := x) (o := HO.ins (Ch K) dx (([] : List (Str × V)) ++ [(("blocks" : Str), V.int (n : Int))] ++ [(("pages" : Str), V.int (pg : Int))] ++ [(("bad" : Str), V.int (bd : Int))] ++ [(("ops" : Str), V.int 0)] ++ [(("cuts" : Str), V.int 0)] ++ [(("_octets" : Str), V.ref D)] ++ [(("_erased" : Str), V.ref l1)]))
    generalize upd H8 x (HO.ins (Ch K) dx (([] : List (Str × V)) ++ [(("blocks" : Str), V.int (n : Int))] ++ [(("pages" : Str), V.int (pg : Int))] ++ [(("bad" : Str), V.int (bd : Int))] ++ [(("ops" : Str), V.int 0)] ++ [(("cuts" : Str), V.int 0)] ++ [(("_octets" : Str), V.ref D)] ++ [(("_erased" : Str), V.ref l1)])) = H9 at f9 h9 ⊢
    have E9 := (E7.trans (Exb.of X1)).trans f9
    have hD9 := f9 D _ nD hD8
    have k9 := f9 l1 _ nl1 k1
    have fl1 : H l1 = none := Exb.fresh E7 g7 nl1
    -- the flags
    refine ⟨by show 1 ≤ sizeLine; decide, fun l2 n2 => ⟨_, rfl, repV upd_same (by omega) fun l3 n3 => ?_⟩⟩
    have x2 := Evl.Ex.new (o := .lst [V.bl false]) n2
    have x3 := Evl.Ex.new (o := .lst (List.replicate n (V.bl false))) n3
    have g9 := Evl.fresh_back x2 n3
    have nl3 : l3 ≠ x := fun z => by rw [z, h9] at g9; cases g9
    have Dl3 : D ≠ l3 := fun z => by rw [← z, hD9] at g9; cases g9
    have l13 : l1 ≠ l3 := fun z => by rw [← z, k9] at g9; cases g9
    have k3 := upd_same (H := upd H9 l2 (.lst [V.bl false])) (a := l3) (o := .lst (List.replicate n (V.bl false)))
    have X3 := x2.trans x3
    have h9' := X3 _ _ h9
    have hD10 := X3 _ _ hD9
    have k10 := X3 _ _ k9
    generalize upd (upd H9 l2 (.lst [V.bl false])) l3 (.lst (List.replicate n (V.bl false))) = H10 at k3 X3 h9' hD10 k10 ⊢
    refine ⟨_, rfl, x, _, dx, _, rfl, h9', TC.cls, TC.no _ (by simp), by show 7 < 1000; decide, ?_⟩
    rw [putF_new (f := "_turned_bad") rfl]
    have f11 : Exb x H10 (upd H10 x (HO.ins (Ch K) dx (([] : List (Str × V)) ++ [(("blocks" : Str), V.int (n : Int))] ++ [(("pages" : Str), V.int (pg : Int))] ++ [(("bad" : Str), V.int (bd : Int))] ++ [(("ops" : Str), V.int 0)] ++ [(("cuts" : Str), V.int 0)] ++ [(("_octets" : Str), V.ref D)] ++ [(("_erased" : Str), V.ref l1)] ++ [(("_turned_bad" : Str), V.ref l3)]))) := Exb.upd
    have h11 := upd_same (H := H10) (a := x) (o := HO.ins (Ch K) dx (([] : List (Str × V)) ++ [(("blocks" : Str), V.int (n : Int))] ++ [(("pages" : Str), V.int (pg : Int))] ++ [(("bad" : Str), V.int (bd : Int))] ++ [(("ops" : Str), V.int 0)] ++ [(("cuts" : Str), V.int 0)] ++ [(("_octets" : Str), V.ref D)] ++ [(("_erased" : Str), V.ref l1)] ++ [(("_turned_bad" : Str), V.ref l3)]))
    generalize upd H10 x (HO.ins (Ch K) dx (([] : List (Str × V)) ++ [(("blocks" : Str), V.int (n : Int))] ++ [(("pages" : Str), V.int (pg : Int))] ++ [(("bad" : Str), V.int (bd : Int))] ++ [(("ops" : Str), V.int 0)] ++ [(("cuts" : Str), V.int 0)] ++ [(("_octets" : Str), V.ref D)] ++ [(("_erased" : Str), V.ref l1)] ++ [(("_turned_bad" : Str), V.ref l3)])) = H11 at f11 h11 ⊢
    have E11 := (E9.trans (Exb.of X3)).trans f11
    have hD11 := f11 D _ nD hD10
    have k11 := f11 l1 _ nl1 k10
    have j11 := f11 l3 _ nl3 k3
    have fl3 : H l3 = none := Exb.fresh E9 g9 nl3
    -- the plans
    refine fun p1 np1 => ?_
    have y1 := Evl.Ex.new (o := .dK []) np1
    have m1 := upd_same (H := H11) (a := p1) (o := .dK [])
    have np1x : p1 ≠ x := fun z => by rw [z, h11] at np1; cases np1
    have h11' := y1 _ _ h11
    have hD12 := y1 _ _ hD11
    have k12 := y1 _ _ k11
    have j12 := y1 _ _ j11
    have fp1 : H p1 = none := Exb.fresh E11 np1 np1x
    generalize upd H11 p1 (.dK []) = H12 at y1 m1 h11' hD12 k12 j12 ⊢
    refine ⟨_, rfl, x, _, dx, _, rfl, h11', TC.cls, TC.no _ (by simp), by show 8 < 1000; decide, ?_⟩
    rw [putF_new (f := "_cut_plans") rfl]
    have f13 : Exb x H12 (upd H12 x (HO.ins (Ch K) dx (([] : List (Str × V)) ++ [(("blocks" : Str), V.int (n : Int))] ++ [(("pages" : Str), V.int (pg : Int))] ++ [(("bad" : Str), V.int (bd : Int))] ++ [(("ops" : Str), V.int 0)] ++ [(("cuts" : Str), V.int 0)] ++ [(("_octets" : Str), V.ref D)] ++ [(("_erased" : Str), V.ref l1)] ++ [(("_turned_bad" : Str), V.ref l3)] ++ [(("_cut_plans" : Str), V.ref p1)]))) := Exb.upd
    have h13 := upd_same (H := H12) (a := x) (o := HO.ins (Ch K) dx (([] : List (Str × V)) ++ [(("blocks" : Str), V.int (n : Int))] ++ [(("pages" : Str), V.int (pg : Int))] ++ [(("bad" : Str), V.int (bd : Int))] ++ [(("ops" : Str), V.int 0)] ++ [(("cuts" : Str), V.int 0)] ++ [(("_octets" : Str), V.ref D)] ++ [(("_erased" : Str), V.ref l1)] ++ [(("_turned_bad" : Str), V.ref l3)] ++ [(("_cut_plans" : Str), V.ref p1)]))
    generalize upd H12 x (HO.ins (Ch K) dx (([] : List (Str × V)) ++ [(("blocks" : Str), V.int (n : Int))] ++ [(("pages" : Str), V.int (pg : Int))] ++ [(("bad" : Str), V.int (bd : Int))] ++ [(("ops" : Str), V.int 0)] ++ [(("cuts" : Str), V.int 0)] ++ [(("_octets" : Str), V.ref D)] ++ [(("_erased" : Str), V.ref l1)] ++ [(("_turned_bad" : Str), V.ref l3)] ++ [(("_cut_plans" : Str), V.ref p1)])) = H13 at f13 h13 ⊢
    have E13 := (E11.trans (Exb.of y1)).trans f13
    refine fun p2 np2 => ?_
    have y2 := Evl.Ex.new (o := .dK []) np2
    have m2 := upd_same (H := H13) (a := p2) (o := .dK [])
    have np2x : p2 ≠ x := fun z => by rw [z, h13] at np2; cases np2
    have m1' := f13 p1 _ np1x m1
    have p12 : p1 ≠ p2 := fun z => by rw [← z, m1'] at np2; cases np2
    have h13' := y2 _ _ h13
    have fp2 : H p2 = none := Exb.fresh E13 np2 np2x
    have G := (f13.trans (Exb.of y2))
    have hD14 := G D _ nD hD12
    have k14 := G l1 _ nl1 k12
    have j14 := G l3 _ nl3 j12
    have m14 := y2 _ _ m1'
    have E14 := E13.trans (Exb.of y2)
    have ar14 : ∀ r ∈ rs, r ≠ x ∧ upd H13 p2 (.dK []) r = some (.tup (IV (List.replicate (31 * pg) 255))) := by
      intro r hr
      obtain ⟨a1, a2, a3⟩ := ar r hr
      have rx : r ≠ x := fun z => by rw [z, h5] at a2; cases a2
      exact ⟨rx, ((((f7.trans (Exb.of X1)).trans f9).trans (Exb.of X3)).trans ((f11.trans (Exb.of y1)).trans G)) r _ rx a3⟩
    generalize upd H13 p2 (.dK []) = H14 at y2 m2 h13' G hD14 k14 j14 m14 E14 ar14 ⊢
    refine ⟨_, rfl, x, _, dx, _, rfl, h13', TC.cls, TC.no _ (by simp), by show 9 < 1000; decide, ?_⟩
    rw [putF_new (f := "_fail_plans") rfl]
    have f15 : Exb x H14 (upd H14 x (HO.ins (Ch K) dx (([] : List (Str × V)) ++ [(("blocks" : Str), V.int (n : Int))] ++ [(("pages" : Str), V.int (pg : Int))] ++ [(("bad" : Str), V.int (bd : Int))] ++ [(("ops" : Str), V.int 0)] ++ [(("cuts" : Str), V.int 0)] ++ [(("_octets" : Str), V.ref D)] ++ [(("_erased" : Str), V.ref l1)] ++ [(("_turned_bad" : Str), V.ref l3)] ++ [(("_cut_plans" : Str), V.ref p1)] ++ [(("_fail_plans" : Str), V.ref p2)]))) := Exb.upd
    have h15 := upd_same (H := H14) (a := x) (o := HO.ins (Ch K) dx (([] : List (Str × V)) ++ [(("blocks" : Str), V.int (n : Int))] ++ [(("pages" : Str), V.int (pg : Int))] ++ [(("bad" : Str), V.int (bd : Int))] ++ [(("ops" : Str), V.int 0)] ++ [(("cuts" : Str), V.int 0)] ++ [(("_octets" : Str), V.ref D)] ++ [(("_erased" : Str), V.ref l1)] ++ [(("_turned_bad" : Str), V.ref l3)] ++ [(("_cut_plans" : Str), V.ref p1)] ++ [(("_fail_plans" : Str), V.ref p2)]))
    generalize upd H14 x (HO.ins (Ch K) dx (([] : List (Str × V)) ++ [(("blocks" : Str), V.int (n : Int))] ++ [(("pages" : Str), V.int (pg : Int))] ++ [(("bad" : Str), V.int (bd : Int))] ++ [(("ops" : Str), V.int 0)] ++ [(("cuts" : Str), V.int 0)] ++ [(("_octets" : Str), V.ref D)] ++ [(("_erased" : Str), V.ref l1)] ++ [(("_turned_bad" : Str), V.ref l3)] ++ [(("_cut_plans" : Str), V.ref p1)] ++ [(("_fail_plans" : Str), V.ref p2)])) = H15 at f15 h15 ⊢
    have E15 := E14.trans f15
    have hD15 := f15 D _ nD hD14
    have k15 := f15 l1 _ nl1 k14
    have j15 := f15 l3 _ nl3 j14
    have m15 := f15 p1 _ np1x m14
    have m25 := f15 p2 _ np2x m2
    refine fun p3 np3 => ?_
    have y3 := Evl.Ex.new (o := .dK []) np3
    have m3 := upd_same (H := H15) (a := p3) (o := .dK [])
    have np3x : p3 ≠ x := fun z => by rw [z, h15] at np3; cases np3
    have p13 : p1 ≠ p3 := fun z => by rw [← z, m15] at np3; cases np3
    have p23 : p2 ≠ p3 := fun z => by rw [← z, m25] at np3; cases np3
    have h15' := y3 _ _ h15
    have fp3 : H p3 = none := Exb.fresh E15 np3 np3x
    have hD16 := y3 _ _ hD15
    have k16 := y3 _ _ k15
    have j16 := y3 _ _ j15
    have m16 := y3 _ _ m15
    have m26 := y3 _ _ m25
    have E16 := E15.trans (Exb.of y3)
    have ar16 : ∀ r ∈ rs, r ≠ x ∧ upd H15 p3 (.dK []) r = some (.tup (IV (List.replicate (31 * pg) 255))) := fun r hr => ⟨(ar14 r hr).1, y3 _ _ (f15 r _ (ar14 r hr).1 (ar14 r hr).2)⟩
    generalize upd H15 p3 (.dK []) = H16 at y3 m3 h15' hD16 k16 j16 m16 m26 E16 ar16 ⊢
    refine ⟨_, rfl, x, _, dx, _, rfl, h15', TC.cls, TC.no _ (by simp), by show 10 < 1000; decide, ?_⟩
    rw [putF_new (f := "_reads") rfl]
    have f17 : Exb x H16 (upd H16 x (HO.ins (Ch K) dx (([] : List (Str × V)) ++ [(("blocks" : Str), V.int (n : Int))] ++ [(("pages" : Str), V.int (pg : Int))] ++ [(("bad" : Str), V.int (bd : Int))] ++ [(("ops" : Str), V.int 0)] ++ [(("cuts" : Str), V.int 0)] ++ [(("_octets" : Str), V.ref D)] ++ [(("_erased" : Str), V.ref l1)] ++ [(("_turned_bad" : Str), V.ref l3)] ++ [(("_cut_plans" : Str), V.ref p1)] ++ [(("_fail_plans" : Str), V.ref p2)] ++ [(("_reads" : Str), V.ref p3)]))) := Exb.upd
    have h17 := upd_same (H := H16) (a := x) (o := HO.ins (Ch K) dx (([] : List (Str × V)) ++ [(("blocks" : Str), V.int (n : Int))] ++ [(("pages" : Str), V.int (pg : Int))] ++ [(("bad" : Str), V.int (bd : Int))] ++ [(("ops" : Str), V.int 0)] ++ [(("cuts" : Str), V.int 0)] ++ [(("_octets" : Str), V.ref D)] ++ [(("_erased" : Str), V.ref l1)] ++ [(("_turned_bad" : Str), V.ref l3)] ++ [(("_cut_plans" : Str), V.ref p1)] ++ [(("_fail_plans" : Str), V.ref p2)] ++ [(("_reads" : Str), V.ref p3)]))
    generalize upd H16 x (HO.ins (Ch K) dx (([] : List (Str × V)) ++ [(("blocks" : Str), V.int (n : Int))] ++ [(("pages" : Str), V.int (pg : Int))] ++ [(("bad" : Str), V.int (bd : Int))] ++ [(("ops" : Str), V.int 0)] ++ [(("cuts" : Str), V.int 0)] ++ [(("_octets" : Str), V.ref D)] ++ [(("_erased" : Str), V.ref l1)] ++ [(("_turned_bad" : Str), V.ref l3)] ++ [(("_cut_plans" : Str), V.ref p1)] ++ [(("_fail_plans" : Str), V.ref p2)] ++ [(("_reads" : Str), V.ref p3)])) = H17 at f17 h17 ⊢
    have bv : List.replicate n (V.bl false) = BV (List.replicate n false) := List.map_replicate.symm
    have iv0 : List.replicate n (V.int 0) = IV (List.replicate n 0) := List.map_replicate.symm
    rw [bv] at j16
    rw [iv0] at k16
    exact q ⟨n, pg, bd, 0, 0, D, l1, l3, p1, p2, p3⟩ rs H17 rfl rfl rfl rfl rfl (E16.trans f17) h17 lr (fun r hr => f17 r _ (ar16 r hr).1 (ar16 r hr).2) (f17 D _ nD hD16) (f17 l1 _ nl1 k16) (f17 l3 _ nl3 j16) (f17 p1 _ np1x m16) (f17 p2 _ np2x m26) (f17 p3 _ np3x m3) Dl1 Dl3 l13 p12 p13 p23 fD fl1 fl3 fp1 fp2 fp3
end
end K3
namespace K3
open PySem PySem.Spec PyProof.Rows L2 VB BM
section
variable {P : Program} {w : World} {K : PySem.W.Frag} {mg : Str → Option Value} {base : Heap} {f : Addr} {fd : FuncData}
theorem menu_v {H : Hp} {l : Addr} {xs : List V} {r : Int} {Q : VK} (h : H l = some (.lst xs)) (r0 : 0 ≤ r) (r1 : r < (xs.length : Int)) (q : ∀ v ∈ xs, Q v H) : rIx K (.ref l) (.int r) H Q := by
  obtain ⟨j, rfl⟩ : ∃ j : Nat, r = j := ⟨r.toNat, by omega⟩
  have hj : j < xs.length := by omega
  exact Sv.ix (x := .non) (Sv.lst h) (i := (j : Int)) (atI_nat (List.getElem?_eq_getElem hj)) (q _ (List.getElem_mem hj))
theorem menu_i {H : Hp} {l : Addr} {xs : List Int} {r : Int} {Q : VK} (h : H l = some (.lst (IV xs))) (r0 : 0 ≤ r) (r1 : r < (xs.length : Int)) (q : ∀ v ∈ xs, Q (.int v) H) : rIx K (.ref l) (.int r) H Q := by
  refine menu_v h r0 (by rw [iv_len]; exact r1) fun v hv => ?_
  obtain ⟨i, hi, rfl⟩ := List.mem_map.mp hv
  exact q i hi
def spShape : Sp := fun vs H Q _ => ∃ (bx : Addr) (c : Int), vs = [.ref bx] ∧ Box H bx c ∧ c < 60000000 ∧ ∀ (L : Addr) (b p bd : Int) (H' : Hp), 8 ≤ b → b ≤ 24 → 8 ≤ p → p ≤ 16 → 0 ≤ bd → bd ≤ b - 7 → Exb bx H H' → Box H' bx (c + 6) → H' L = some (.lst (IV [b, p, bd])) → H L = none → L ≠ bx → Q (.ref L) H'
theorem ok_shape (T : Txt K mg) (F : FnP K "_law_shape" s__law_shape f fd) (C__law_take : Cal P w K mg base CX0 1 "_law_take" ["_law_box_here", "_law_many"] spTake) : Fg P w K mg base CX0 2 f fd ["_law_box_here"] spShape := by
  refine fg_of F sc__law_shape (fun vs H Q E h => ?_) (fun cdv A outer s H vs Q E hr h => ⟨_, (PSs.nox (pss_cons (ps_set (i := 1) sc__law_shape.nd rfl (by first | exact Or.inl rfl | exact Or.inr rfl) (pe_ix (u_ix (K := K)) (pe_lst (pa_cons pe_int (pa_cons pe_int (pa_cons pe_int (pa_cons pe_int (pa_cons (pe_op (u_add (K := K)) pe_int (pe_cal C__law_take hr.le pass0 (pa_cons (pv 0) (pa_cons pe_int pa_nil)))) pa_nil)))))) (pe_cal C__law_take hr.le pass0 (pa_cons (pv 0) (pa_cons pe_int pa_nil))) (fun _ _ => rfl)))
  (pss_cons (ps_set (i := 2) sc__law_shape.nd rfl (by first | exact Or.inl rfl | exact Or.inr rfl) (pe_ix (u_ix (K := K)) (pe_lst (pa_cons pe_int (pa_cons pe_int (pa_cons pe_int (pa_cons (pe_op (u_add (K := K)) pe_int (pe_cal C__law_take hr.le pass0 (pa_cons (pv 0) (pa_cons pe_int pa_nil)))) pa_nil))))) (pe_cal C__law_take hr.le pass0 (pa_cons (pv 0) (pa_cons pe_int pa_nil))) (fun _ _ => rfl)))
  (pss_one (ps_ret (pe_lst (pa_cons (pv 1) (pa_cons (pv 2) (pa_cons (pe_ix (u_ix (K := K)) (pe_lst (pa_cons pe_int (pa_cons (pe_op op_sub (pv 1) pe_int) (pa_cons (pe_cal C__law_take hr.le pass0 (pa_cons (pv 0) (pa_cons (pe_op op_sub (pv 1) pe_int) pa_nil))) pa_nil)))) (pe_cal C__law_take hr.le pass0 (pa_cons (pv 0) (pa_cons pe_int pa_nil))) (fun _ _ => rfl)) pa_nil))))))))), ?_⟩)
  · obtain ⟨bx, c, rfl, _⟩ := h
    rfl
  · obtain ⟨bx, c, rfl, B, hc, q⟩ := h
    refine ⟨_, rfl, bx, 17, c, rfl, B, by omega, by omega, by omega, fun x H1 x0 x1 e1 B1 => .inl ⟨_, _, rfl, rfl, by show 5 ≤ sizeLine; decide, fun l1 nl1 => ?_⟩⟩
    have y1 := Evl.Ex.new (o := .lst (IV [8, 9, 10, 24, 8 + x])) nl1
    have hl1 := upd_same (H := H1) (a := l1) (o := .lst (IV [8, 9, 10, 24, 8 + x]))
    have n1 := B1.at nl1
    refine ⟨_, rfl, bx, 5, c + 1, rfl, B1.ex y1, by omega, by omega, by omega, fun r H2 r0 r1 e2 B2 => menu_i (e2 _ _ n1 hl1) r0 r1 fun b hb => ?_⟩
    simp only [List.mem_cons, List.not_mem_nil, or_false] at hb
    have E2 := (e1.trans (Exb.of y1)).trans e2
    refine ⟨_, rfl, bx, 9, c + 1 + 1, rfl, B2, by omega, by omega, by omega, fun x' H3 x0' x1' e3 B3 => .inl ⟨_, _, rfl, rfl, by show 4 ≤ sizeLine; decide, fun l3 nl3 => ?_⟩⟩
    have y3 := Evl.Ex.new (o := .lst (IV [8, 9, 16, 8 + x'])) nl3
    have hl3 := upd_same (H := H3) (a := l3) (o := .lst (IV [8, 9, 16, 8 + x']))
    have n3 := B3.at nl3
    refine ⟨_, rfl, bx, 4, c + 1 + 1 + 1, rfl, B3.ex y3, by omega, by omega, by omega, fun r' H4 r0' r1' e4 B4 => menu_i (e4 _ _ n3 hl3) r0' r1' fun p hp => ?_⟩
    simp only [List.mem_cons, List.not_mem_nil, or_false] at hp
    have E4 := E2.trans ((e3.trans (Exb.of y3)).trans e4)
    refine ⟨_, rfl, _, rfl, _, rfl, _, _, rfl, rfl, _, rfl, _, rfl, _, _, rfl, rfl, bx, b - 6, c + 1 + 1 + 1 + 1, rfl, B4, by omega, by omega, by omega, fun z H5 z0 z1 e5 B5 => ⟨by show 3 ≤ sizeLine; decide, fun l5 nl5 => ?_⟩⟩
    have y5 := Evl.Ex.new (o := .lst (IV [0, b - 7, z])) nl5
    have hl5 := upd_same (H := H5) (a := l5) (o := .lst (IV [0, b - 7, z]))
    have n5 := B5.at nl5
    refine ⟨_, rfl, bx, 3, c + 1 + 1 + 1 + 1 + 1, rfl, B5.ex y5, by omega, by omega, by omega, fun t H6 t0 t1 e6 B6 => menu_i (e6 _ _ n5 hl5) t0 t1 fun bd hbd => ⟨by show 3 ≤ sizeLine; decide, fun L nL => ?_⟩⟩
    simp only [List.mem_cons, List.not_mem_nil, or_false] at hbd
    have E6 := E4.trans ((e5.trans (Exb.of y5)).trans e6)
    have yL := Evl.Ex.new (o := .lst (IV [b, p, bd])) nL
    exact q L b p bd _ (by omega) (by omega) (by omega) (by omega) (by omega) (by omega) (E6.trans (Exb.of yL)) ((B6.ex yL).le (by omega)) upd_same (Exb.fresh E6 nL (B6.at nL)) (B6.at nL)
/-- a value that is no index below many -/
def spOddIx (K : PySem.W.Frag) : Sp := fun vs H Q _ => ∃ (bx : Addr) (c m : Int), vs = [.ref bx, .int m] ∧ Box H bx c ∧ c < 60000000 ∧ 0 ≤ m ∧ m ≤ 100 ∧ ∀ (v : V) (d : Dsc) (H' : Hp), At K H' v d → isIx v 0 (m - 1) = false → (∀ a, v = .ref a → H a = none ∧ a ≠ bx) → Exb bx H H' → Box H' bx (c + 2) → Q v H'
theorem ok_odd_ix (T : Txt K mg) (F : FnP K "_law_odd_index" s__law_odd_index f fd) (C__law_take : Cal P w K mg base CX0 1 "_law_take" ["_law_box_here", "_law_many"] spTake) : Fg P w K mg base CX0 2 f fd ["_law_box_here", "_law_many"] (spOddIx K) := by
  refine fg_of F sc__law_odd_index (fun vs H Q E h => ?_) (fun cdv A outer s H vs Q E hr h => ⟨_, (PSs.nox (pss_cons (ps_set (i := 2) sc__law_odd_index.nd rfl (by first | exact Or.inl rfl | exact Or.inr rfl) (pe_cal C__law_take hr.le pass0 (pa_cons (pv 0) (pa_cons pe_int pa_nil))))
  (pss_cons (ps_if (pt_cmpR op_lt (pv 2) pe_int (nomark _))
  (pss_one (ps_ret (pe_ix (u_ix (K := K)) (pe_lst (pa_cons (pe_un un_neg pe_int) (pa_cons (pv 1) (pa_cons (pe_op (u_add (K := K)) (pe_op (u_add (K := K)) (pv 1) pe_int) (pe_cal C__law_take hr.le pass0 (pa_cons (pv 0) (pa_cons pe_int pa_nil)))) pa_nil)))) (pv 2) (fun _ _ => rfl)))) pss_nil)
  (pss_one (ps_ret (pe_ix (u_ix (K := K)) (pe_lst (pa_cons pe_bl (pa_cons pe_bl (pa_cons pe_non (pa_cons pe_str (pa_cons (pe_lst (pa_cons pe_int pa_nil)) (pa_cons (pe_tup (pa_cons pe_int pa_nil)) pa_nil))))))) (pe_op op_sub (pv 2) pe_int) (fun _ _ => rfl))))))), ?_⟩)
  · obtain ⟨bx, c, m, rfl, _⟩ := h
    rfl
  · obtain ⟨bx, c, m, rfl, B, hc, m0, m1, q⟩ := h
    refine ⟨_, rfl, bx, 9, c, rfl, B, by omega, by omega, by omega, fun way H1 w0 w1 e1 B1 => ?_⟩
    have fl : ∀ i : Int, i.natAbs < 10000 → Flat (.int i) := fun i h => .int i (Nat.lt_of_lt_of_le h (by decide))
    refine ⟨_, rfl, _, _, rfl, rfl, _, rfl, if_dec (fun c3 => ?_) (fun c3 => ?_)⟩
    · refine ⟨_, rfl, _, rfl, _, rfl, .inl ⟨_, _, rfl, rfl, _, rfl, bx, 1000, c + 1, rfl, B1, by omega, by omega, by omega, fun x H2 x0 x1 e2 B2 => .inl ⟨_, _, rfl, rfl, by show 3 ≤ sizeLine; decide, fun l nl => ⟨_, rfl, ?_⟩⟩⟩⟩
      have y := Evl.Ex.new (o := .lst (IV [-1, m, m + 1 + x])) nl
      refine menu_i (xs := [-1, m, m + 1 + x]) upd_same w0 c3 fun i hi => ?_
      simp only [List.mem_cons, List.not_mem_nil, or_false] at hi
      refine q (.int i) (.one (.int i)) _ ⟨rfl, fl i (by omega)⟩ ?_ (fun a h => by cases h) ((e1.trans e2).trans (Exb.of y)) ((B2.ex y).le (by omega))
      show (decide (0 ≤ i) && decide (i ≤ m - 1)) = false
      rcases hi with rfl | rfl | rfl
      · rfl
      · rw [decide_eq_false (show ¬ i ≤ i - 1 by omega), Bool.and_false]
      · rw [decide_eq_false (show ¬ m + 1 + x ≤ m - 1 by omega), Bool.and_false]
    · refine ⟨by show 1 ≤ sizeLine; decide, fun l nl => ⟨by show 1 ≤ sizeLine; decide, fun t nt => ⟨by show 6 ≤ sizeLine; decide, fun M nM => ⟨_, rfl, _, _, rfl, rfl, ?_⟩⟩⟩⟩
      have y1 := Evl.Ex.new (o := .lst (IV [0])) nl
      have y2 := Evl.Ex.new (o := .tup (IV [0])) nt
      have y3 := Evl.Ex.new (o := .lst [V.bl true, .bl false, .non, .str "0", .ref l, .ref t]) nM
      have hl := y3 _ _ (y2 _ _ (upd_same (H := H1) (a := l) (o := .lst (IV [0]))))
      have ht := y3 _ _ (upd_same (H := upd H1 l (.lst (IV [0]))) (a := t) (o := .tup (IV [0])))
      have Y := (y1.trans y2).trans y3
      have nt1 := Evl.fresh_back y1 nt
      have nb := B1.at nl
      have nb2 := B1.at nt1
      refine menu_v upd_same (by omega) (by show _ < 6; omega) fun v hv => ?_
      have B' := (B1.ex Y).le (show c + 1 ≤ c + 2 by omega)
      have E' := e1.trans (Exb.of Y)
      have f0 : ∀ x ∈ IV [0], Flat x := fun x hx => by
        have : x = .int 0 := by simpa using hx
        subst this
        exact fl 0 (by decide)
      simp only [List.mem_cons, List.not_mem_nil, or_false] at hv
      rcases hv with rfl | rfl | rfl | rfl | rfl | rfl
      · exact q _ (.one (.bl true)) _ ⟨rfl, .bl true⟩ rfl (fun a h => by cases h) E' B'
      · exact q _ (.one (.bl false)) _ ⟨rfl, .bl false⟩ rfl (fun a h => by cases h) E' B'
      · exact q _ (.one .non) _ ⟨rfl, .non⟩ rfl (fun a h => by cases h) E' B'
      · exact q _ (.one (.str "0")) _ ⟨rfl, .str _ ⟨by decide +kernel, by decide +kernel⟩⟩ rfl (fun a h => by cases h) E' B'
      · exact q _ (.sq false (IV [0])) _ ⟨l, rfl, Sv.lst hl, f0, by decide, fun _ => hl, fun z => by cases z⟩ rfl (fun a h => by cases h; exact ⟨Exb.fresh e1 nl nb, nb⟩) E' B'
      · exact q _ (.sq true (IV [0])) _ ⟨t, rfl, Sv.tup ht, f0, by decide, (fun z => by cases z), fun _ => ht⟩ rfl (fun a h => by cases h; exact ⟨Exb.fresh e1 nt1 nb2, nb2⟩) E' B'
end
end K3
namespace K3
open PySem PySem.Spec PyProof.Rows L2 VB BM
section
variable {P : Program} {w : World} {K : PySem.W.Frag} {mg : Str → Option Value} {base : Heap} {f : Addr} {fd : FuncData}
/-- 31 drawn octets -/
theorem row_te {σ : L2.St} {H : Hp} {Q : VK} {bx : Addr} {c : Int} {j : Nat} {vs : List Nat} (hw : ∀ x, wipe ((wipe σ vs).set j x) vs = wipe σ vs) (h0 : ∀ x, ((wipe σ vs).set j x)[0]? = some (some (.ref bx))) (B : Box H bx c) (hc : c < 70000000)
    (q : ∀ (D : Addr) (xs : List Int) (H' : Hp), Exb bx H H' → Box H' bx (c + 31) → H' D = some (.lst (IV xs)) → Oct xs → xs.length = 31 → H D = none → D ≠ bx → Q (.ref D) H') :
    tLc (iRng1 (tCons (tC (V.int 31)) tNil)) (gName j) tYes (tCall spTake [] E0 (tCons (tVar 0) (tCons (tC (V.int 256)) tNil))) vs σ H Q := by
  refine ⟨31, rfl, by omega, by omega, fun D hD => ?_⟩
  have nD := B.at hD
  refine lc_range (lo := 0) (n := 31) (fun i H' => i ≤ 31 ∧ Exb bx H H' ∧ Box H' bx (c + i) ∧ ∃ xs : List Int, xs.length = i ∧ Oct xs ∧ H' D = some (.lst (IV xs))) ⟨by omega, Exb.new hD, (B.ex (Evl.Ex.new hD)).le (by omega), [], rfl, fun _ h => (by cases h), upd_same⟩ ?_ ?_
  · rintro i H6 hi ⟨_, e6, B6, xs, lx, ox, hx⟩
    refine ⟨hw _, _, h0 _, bx, 256, c + i, rfl, B6, by omega, by omega, by omega, fun r H7 r0 r1 e7 B7 => ⟨_, e7 D _ nD hx, by rw [iv_len, lx]; exact Evl.sz_lt (by omega), by omega, ?_, ?_, xs ++ [r], by simp [lx], oct_snoc ox r0 (by omega), by rw [upd_same, iv_snoc]⟩⟩
    · intro y o nb z
      have hy : y ≠ D := by
        rintro rfl
        rw [hD] at z
        cases z
      rw [upd_ne hy]
      exact e7 y o nb (e6 y o nb z)
    · obtain ⟨d, m', c', k, hbx, r⟩ := B7
      exact ⟨d, m', c', k, by rw [upd_ne (Ne.symm nD)]; exact hbx, r.1, r.2.1, r.2.2.1, r.2.2.2.1, by omega⟩
  · rintro H6 ⟨_, e6, B6, xs, lx, ox, hx⟩
    exact q D xs H6 e6 (B6.le (by omega)) hx ox lx hD nD
theorem flat_oct {xs : List Int} (h : Oct xs) : ∀ x ∈ IV xs, Flat x := fun x hx => by
  obtain ⟨i, hi, rfl⟩ := List.mem_map.mp hx
  have := h i hi
  exact .int i (Nat.lt_of_lt_of_le (show i.natAbs < 1000 by omega) (by decide))
theorem octs_of {xs : List Int} (h : Oct xs) : ((IV xs).all fun x => isIx x 0 255) = true := by
  rw [List.all_eq_true]
  intro x hx
  obtain ⟨i, hi, rfl⟩ := List.mem_map.mp hx
  exact isIx_int (h i hi).1 (h i hi).2
/-- a value that is no list of 31 octets -/
def spOddOc (K : PySem.W.Frag) : Sp := fun vs H Q _ => ∃ (bx : Addr) (c : Int), vs = [.ref bx] ∧ Box H bx c ∧ c < 60000000 ∧ ∀ (v : V) (d : Dsc) (H' : Hp), At K H' v d → d.oct 31 = false → (∀ a, v = .ref a → H a = none ∧ a ≠ bx) → Exb bx H H' → Box H' bx (c + 40) → Q v H'
theorem ok_odd_oc (T : Txt K mg) (F : FnP K "_law_odd_octets" s__law_odd_octets f fd) (C__law_take : Cal P w K mg base CX0 1 "_law_take" ["_law_box_here", "_law_many"] spTake) : Fg P w K mg base CX0 2 f fd ["_law_box_here"] (spOddOc K) := by
  refine fg_of F sc__law_odd_octets (fun vs H Q E h => ?_) (fun cdv A outer s H vs Q E hr h => ⟨_, (PSs.nox (pss_cons (ps_par3 (i := 1) (j := 2) (l := 3) rfl sc__law_odd_octets.nd rfl rfl rfl (by decide) (by decide) (by decide) rfl rfl rfl (pa_cons (pe_cal C__law_take hr.le pass0 (pa_cons (pv 0) (pa_cons pe_int pa_nil))) (pa_cons (pe_cal C__law_take hr.le pass0 (pa_cons (pv 0) (pa_cons pe_int pa_nil))) (pa_cons (pe_lc (own := [("_law_k", 4)]) rfl sc__law_odd_octets.nd (pi_range1 rfl T.f_range (pa_cons pe_int pa_nil)) (blkOk_by (own := [("_law_k", 4)]) (N := ["_law_box_here", "_law_way", "_law_at", "_law_row", "_law_k"]) (sc := defScope s__law_odd_octets) (by decide +kernel)) (fun _ _ _ _ _ => (pg_name (i := 4) sc__law_odd_octets.nd rfl (by first | exact Or.inl rfl | exact Or.inr rfl))) (fun _ _ _ _ _ => pts_nil) (fun _ _ _ _ _ => (pe_cal C__law_take hr.le pass0 (pa_cons (pv 0) (pa_cons pe_int pa_nil))))) pa_nil))) (by rfl))
  (pss_cons (ps_if (pt_cmpR op_lt (pv 1) pe_int (nomark _))
  (pss_one (ps_ret (pe_ix (u_ix (K := K)) (pe_lst (pa_cons (pe_slice (u_sl (K := K)) (pv 3) po_none (po_some pe_int)) (pa_cons (pe_op (u_add (K := K)) (pv 3) (pe_lst (pa_cons pe_int pa_nil))) pa_nil))) (pv 1) (fun _ _ => rfl)))) pss_nil)
  (pss_cons (ps_if (pt_cmpR op_lt (pv 1) pe_int (nomark _))
  (pss_cons (ps_asg (pe_ix (u_ix (K := K)) (pe_lst (pa_cons pe_int (pa_cons (pe_un un_neg pe_int) (pa_cons pe_bl (pa_cons pe_non (pa_cons pe_str pa_nil)))))) (pe_op op_sub (pv 1) pe_int) (fun _ _ => rfl)) (pg_sub (pv 3) (pv 2) set_list))
  (pss_one (ps_ret (pe_ifExp (pt_cmpR (u_eq (K := K) hr) (pe_cal C__law_take hr.le pass0 (pa_cons (pv 0) (pa_cons pe_int pa_nil))) pe_int (nomark _)) (pv 3) (pe_callTy (u_tup (K := K)) (by rfl) T.f_tuple (by decide +kernel) (pa_cons (pv 3) pa_nil)))))) pss_nil)
  (pss_one (ps_ret (pe_ix (u_ix (K := K)) (pe_lst (pa_cons pe_non (pa_cons (pe_lst pa_nil) pa_nil))) (pe_op op_sub (pv 1) pe_int) (fun _ _ => rfl)))))))), ?_⟩)
  · obtain ⟨bx, c, rfl, _⟩ := h
    rfl
  · obtain ⟨bx, c, rfl, B, hc, q⟩ := h
    refine ⟨_, rfl, bx, 9, c, rfl, B, by omega, by omega, by omega, fun way H1 w0 w1 e1 B1 => ⟨_, rfl, bx, 31, c + 1, rfl, B1, by omega, by omega, by omega, fun at_ H2 a0 a1 e2 B2 => ?_⟩⟩
    refine row_te (fun _ => rfl) (fun _ => rfl) B2 (by omega) fun D xs H3 e3 B3 hD ox lx nD nDb => ⟨_, _, _, rfl, ?_⟩
    have E3 := (e1.trans e2).trans e3
    have fD : H D = none := Exb.fresh (e1.trans e2) nD nDb
    have nolen : ∀ {t : Bool} {ys : List V}, ys.length ≠ 31 → (Dsc.sq t ys).oct 31 = false := fun {t ys} h => by
      show (true && (decide ((ys.length : Int) = 31) && _)) = false
      rw [decide_eq_false (show ¬ (ys.length : Int) = 31 by omega)]
      rfl
    refine ⟨_, rfl, _, _, rfl, rfl, _, rfl, if_dec (fun c2 => ?_) (fun c2 => ?_)⟩
    · refine ⟨_, rfl, _, rfl, .inl ⟨D, _, rfl, SqL.of hD, fun p np => ⟨_, rfl, by show 1 ≤ sizeLine; decide, fun z nz => ?_⟩⟩⟩
      have y1 := Evl.Ex.new (o := .lst (cutV (IV xs) none (some 30))) np
      have y2 := Evl.Ex.new (o := .lst [V.int 0]) nz
      have cut : cutV (IV xs) none (some 30) = IV (xs.take 30) := cut_n0 (j := 30) (by omega)
      have hp : upd H3 p (.lst (cutV (IV xs) none (some 30))) p = some (.lst (IV (xs.take 30))) := by rw [upd_same, cut]
      refine cat_l (ys := [0]) (y2 _ _ (y1 _ _ hD)) upd_same (by rw [lx]; decide) fun t nt => ⟨by show 2 ≤ sizeLine; decide, fun M nM => ⟨_, rfl, ?_⟩⟩
      have y3 := Evl.Ex.new (o := .lst (IV (xs ++ [0]))) nt
      have y4 := Evl.Ex.new (o := .lst [V.ref p, .ref t]) nM
      have Y := ((y1.trans y2).trans y3).trans y4
      have fp := np
      have ft : H3 t = none := Evl.fresh_back (y1.trans y2) nt
      have hp' := y4 _ _ (y3 _ _ (y2 _ _ hp))
      have ht' := y4 _ _ (upd_same (H := upd (upd H3 p (.lst (cutV (IV xs) none (some 30)))) z (.lst [V.int 0])) (a := t) (o := .lst (IV (xs ++ [0]))))
      have B' := (B3.ex Y).le (show c + 1 + 1 + 31 ≤ c + 40 by omega)
      have E' := E3.trans (Exb.of Y)
      refine menu_v upd_same w0 (by show _ < 2; omega) fun v hv => ?_
      simp only [List.mem_cons, List.not_mem_nil, or_false] at hv
      rcases hv with rfl | rfl
      · exact q _ (.sq false (IV (xs.take 30))) _ ⟨p, rfl, Sv.lst hp', flat_oct (fun o ho => ox o (List.mem_of_mem_take ho)), by rw [iv_len, List.length_take]; omega, fun _ => hp', fun z => by cases z⟩ (nolen (by rw [iv_len, List.length_take]; omega)) (fun a h => by cases h; exact ⟨Exb.fresh E3 fp (B3.at fp), B3.at fp⟩) E' B'
      · exact q _ (.sq false (IV (xs ++ [0]))) _ ⟨t, rfl, Sv.lst ht', flat_oct (oct_app ox (fun o ho => by simp only [List.mem_cons, List.not_mem_nil, or_false] at ho; omega)), by rw [iv_len, List.length_append]; show _ + 1 ≤ _; omega, fun _ => ht', fun z => by cases z⟩ (nolen (by rw [iv_len, List.length_append]; show _ + 1 ≠ _; omega)) (fun a h => by cases h; exact ⟨Exb.fresh E3 ft (B3.at ft), B3.at ft⟩) E' B'
    refine ⟨_, rfl, _, _, rfl, rfl, _, rfl, if_dec (fun c7 => ?_) (fun c7 => ?_)⟩
    · refine ⟨_, rfl, by show 5 ≤ sizeLine; decide, fun M nM => ⟨_, rfl, _, _, rfl, rfl, ?_⟩⟩
      have y1 := Evl.Ex.new (o := .lst [V.int 256, .int (-1), .bl true, .non, .str "1"]) nM
      refine menu_v (xs := [V.int 256, .int (-1), .bl true, .non, .str "1"]) upd_same (by omega) (by show _ < 5; omega) fun v hv => ?_
      have bad : Flat v ∧ isIx v 0 255 = false := by
        simp only [List.mem_cons, List.not_mem_nil, or_false] at hv
        rcases hv with rfl | rfl | rfl | rfl | rfl
        · exact ⟨.int _ (by decide), rfl⟩
        · exact ⟨.int _ (by decide), rfl⟩
        · exact ⟨.bl _, rfl⟩
        · exact ⟨.non, rfl⟩
        · exact ⟨.str _ ⟨by decide +kernel, by decide +kernel⟩, rfl⟩
      obtain ⟨k, rfl⟩ : ∃ k : Nat, at_ = k := ⟨at_.toNat, by omega⟩
      refine ⟨_, rfl, _, rfl, D, _, _, k, rfl, rfl, y1 _ _ hD, Evl.ixN_nat (by rw [iv_len]; omega), ?_⟩
      have e4 : Exb bx H (upd (upd H3 M (.lst [V.int 256, .int (-1), .bl true, .non, .str "1"])) D (.lst ((IV xs).set k v))) := Exb.mut (E3.trans (Exb.of y1)) fD
      have B4 : Box (upd (upd H3 M (.lst [V.int 256, .int (-1), .bl true, .non, .str "1"])) D (.lst ((IV xs).set k v))) bx (c + 1 + 1 + 31) := Box.mut (B3.ex y1) nDb
      have hD4 := upd_same (H := upd H3 M (.lst [V.int 256, .int (-1), .bl true, .non, .str "1"])) (a := D) (o := .lst ((IV xs).set k v))
      generalize upd (upd H3 M (.lst [V.int 256, .int (-1), .bl true, .non, .str "1"])) D (.lst ((IV xs).set k v)) = H4 at e4 B4 hD4 ⊢
      have kx : k < (IV xs).length := by rw [iv_len]; omega
      have fl : ∀ x ∈ (IV xs).set k v, Flat x := fun x hx => by
        rcases List.mem_or_eq_of_mem_set hx with h | rfl
        · exact flat_oct ox x h
        · exact bad.1
      have no : ∀ t, (Dsc.sq t ((IV xs).set k v)).oct 31 = false := fun t => by
        show (true && (_ && ((IV xs).set k v).all fun x => isIx x 0 255)) = false
        have : (((IV xs).set k v).all fun x => isIx x 0 255) = false := by
          rw [List.all_eq_false]
          exact ⟨v, List.mem_iff_getElem.mpr ⟨k, by rw [List.length_set]; exact kx, by rw [List.getElem_set_self]⟩, by rw [bad.2]; exact Bool.false_ne_true⟩
        rw [this, Bool.and_false, Bool.and_false]
      have ls : ((IV xs).set k v).length ≤ 60 := by rw [List.length_set, iv_len]; omega
      refine ⟨_, rfl, bx, 2, _, rfl, B4, by omega, by omega, by omega, fun z H5 z0 z1 e5 B5 => .inl ⟨rfl, _, rfl, ?_⟩⟩
      have hD5 := e5 _ _ nDb hD4
      refine if_eq (fun hz => ?_) (fun hz => ?_)
      · exact ⟨_, rfl, q _ (.sq false _) _ ⟨D, rfl, Sv.lst hD5, fl, ls, fun _ => hD5, fun z => by cases z⟩ (no _) (fun a h => by cases h; exact ⟨fD, nDb⟩) (e4.trans e5) (B5.le (by omega))⟩
      · refine ⟨_, rfl, D, _, rfl, .inl ⟨SqL.of hD5, fun l nl => ?_⟩⟩
        have y := Evl.Ex.new (o := .tup ((IV xs).set k v)) nl
        exact q _ (.sq true _) _ ⟨l, rfl, Sv.tup upd_same, fl, ls, (fun z => by cases z), fun _ => upd_same⟩ (no _) (fun a h => by cases h; exact ⟨Exb.fresh (e4.trans e5) nl (B5.at nl), B5.at nl⟩) ((e4.trans e5).trans (Exb.of y)) ((B5.ex y).le (by omega))
    · refine ⟨by show 0 ≤ sizeLine; decide, fun z nz => ⟨by show 2 ≤ sizeLine; decide, fun M nM => ⟨_, rfl, _, _, rfl, rfl, ?_⟩⟩⟩
      have y1 := Evl.Ex.new (o := .lst []) nz
      have y2 := Evl.Ex.new (o := .lst [V.non, .ref z]) nM
      have hz := y2 _ _ (upd_same (H := H3) (a := z) (o := .lst []))
      have B' := (B3.ex (y1.trans y2)).le (show c + 1 + 1 + 31 ≤ c + 40 by omega)
      have E' := E3.trans (Exb.of (y1.trans y2))
      refine menu_v upd_same (by omega) (by show _ < 2; omega) fun v hv => ?_
      simp only [List.mem_cons, List.not_mem_nil, or_false] at hv
      rcases hv with rfl | rfl
      · exact q _ (.one .non) _ ⟨rfl, .non⟩ rfl (fun a h => by cases h) E' B'
      · exact q _ (.sq false []) _ ⟨z, rfl, Sv.lst hz, (fun x hx => absurd hx List.not_mem_nil), Nat.zero_le _, fun _ => hz, fun z => by cases z⟩ rfl (fun a h => by cases h; exact ⟨Exb.fresh E3 nz (B3.at nz), B3.at nz⟩) E' B'
end
end K3
namespace K3
open PySem PySem.Spec PyProof.Rows L2 VB BM
section
variable {P : Program} {w : World} {K : PySem.W.Frag} {mg : Str → Option Value} {base : Heap} {f : Addr} {fd : FuncData}
theorem Box.nt {H : Hp} {bx r : Addr} {n : Int} {xs : List V} (B : Box H bx n) (h : H r = some (.tup xs)) : r ≠ bx := by
  rintro rfl
  obtain ⟨_, _, _, _, hb, _⟩ := B
  rw [h] at hb
  cases hb
/-- one octet, so many times -/
theorem rep_te {σ : L2.St} {H : Hp} {Q : VK} {o : Int} (q : ∀ (a : Addr) (H' : Hp), H a = none → Evl.Ex H H' → H' a = some (.lst (IV (List.replicate 31 o))) → Q (.ref a) H') :
    tOp (rMulU K) (tLst (tCons (tC (V.int o)) tNil)) (tC (V.int 31)) σ H Q := by
  refine ⟨by show 1 ≤ sizeLine; decide, fun a0 na0 => rep_l (k := 31) upd_same (by omega) (by omega) fun a1 na1 => ?_⟩
  have y0 := Evl.Ex.new (o := .lst [V.int o]) na0
  exact q a1 _ (Evl.fresh_back y0 na1) (y0.trans (Evl.Ex.new na1)) upd_same
def spDrawn (K : PySem.W.Frag) : Sp := fun vs H Q _ => ∃ (bx o : Addr) (c : Int) (os : List Int), vs = [.ref bx, .ref o] ∧ Box H bx c ∧ c < 60000000 ∧ H o = some (.tup (IV os)) ∧ Oct os ∧ os.length = 31 ∧
  ∀ (w : Addr) (ws : List Int) (H' : Hp), Exb bx H H' → Box H' bx (c + 40) → H' w = some (.lst (IV ws)) → Oct ws → ws.length = 31 → H w = none → w ≠ bx → Q (.ref w) H'
theorem ok_drawn (T : Txt K mg) (F : FnP K "_law_drawn_octets" s__law_drawn_octets f fd) (C__law_take : Cal P w K mg base CX0 1 "_law_take" ["_law_box_here", "_law_many"] spTake) : Fg P w K mg base CX0 2 f fd ["_law_box_here", "_law_old"] (spDrawn K) := by
  refine fg_of F sc__law_drawn_octets (fun vs H Q E h => ?_) (fun cdv A outer s H vs Q E hr h => ⟨_, (PSs.nox (pss_cons (ps_set (i := 2) sc__law_drawn_octets.nd rfl (by first | exact Or.inl rfl | exact Or.inr rfl) (pe_cal C__law_take hr.le pass0 (pa_cons (pv 0) (pa_cons pe_int pa_nil))))
  (pss_cons (ps_if (pt_cmpR (u_eq (K := K) hr) (pv 2) pe_int (nomark _))
  (pss_one (ps_ret (pe_op (u_mul (K := K)) (pe_lst (pa_cons pe_int pa_nil)) pe_int))) pss_nil)
  (pss_cons (ps_if (pt_cmpR (u_eq (K := K) hr) (pv 2) pe_int (nomark _))
  (pss_one (ps_ret (pe_op (u_mul (K := K)) (pe_lst (pa_cons pe_int pa_nil)) pe_int))) pss_nil)
  (pss_cons (ps_if (pt_cmpR (u_eq (K := K) hr) (pv 2) pe_int (nomark _))
  (pss_cons (ps_set (i := 3) sc__law_drawn_octets.nd rfl (by first | exact Or.inl rfl | exact Or.inr rfl) (pe_op (u_mul (K := K)) (pe_lst (pa_cons pe_int pa_nil)) pe_int))
  (pss_cons (ps_asg (pe_op op_sub pe_int (pe_ix (u_ix (K := K)) (pe_lst (pa_cons pe_int (pa_cons pe_int (pa_cons pe_int (pa_cons pe_int (pa_cons pe_int (pa_cons pe_int (pa_cons pe_int (pa_cons pe_int pa_nil))))))))) (pe_cal C__law_take hr.le pass0 (pa_cons (pv 0) (pa_cons pe_int pa_nil))) (fun _ _ => rfl))) (pg_sub (pv 3) (pe_cal C__law_take hr.le pass0 (pa_cons (pv 0) (pa_cons pe_int pa_nil))) set_list))
  (pss_one (ps_ret (pv 3))))) pss_nil)
  (pss_cons (ps_if (pt_cmpR (u_eq (K := K) hr) (pv 2) pe_int (nomark _))
  (pss_one (ps_ret (pe_lc (own := [("_law_octet", 4)]) rfl sc__law_drawn_octets.nd (pi_seq (K := K) (pv 1)) (blkOk_by (own := [("_law_octet", 4)]) (N := ["_law_box_here", "_law_old", "_law_way", "_law_row", "_law_octet", "_law_k"]) (sc := defScope s__law_drawn_octets) (by decide +kernel)) (fun _ _ _ _ _ => (pg_name (i := 4) sc__law_drawn_octets.nd rfl (by first | exact Or.inl rfl | exact Or.inr rfl))) (fun _ _ _ _ _ => pts_nil) (fun _ _ _ _ _ => (pe_op op_sub pe_int (pv 4)))))) pss_nil)
  (pss_cons (ps_if (pt_cmpR (u_eq (K := K) hr) (pv 2) pe_int (nomark _))
  (pss_one (ps_ret (pe_callTy (u_list (K := K)) (by rfl) T.f_list (by decide +kernel) (pa_cons (pv 1) pa_nil)))) pss_nil)
  (pss_one (ps_ret (pe_lc (own := [("_law_k", 5)]) rfl sc__law_drawn_octets.nd (pi_range1 rfl T.f_range (pa_cons pe_int pa_nil)) (blkOk_by (own := [("_law_k", 5)]) (N := ["_law_box_here", "_law_old", "_law_way", "_law_row", "_law_octet", "_law_k"]) (sc := defScope s__law_drawn_octets) (by decide +kernel)) (fun _ _ _ _ _ => (pg_name (i := 5) sc__law_drawn_octets.nd rfl (by first | exact Or.inl rfl | exact Or.inr rfl))) (fun _ _ _ _ _ => pts_nil) (fun _ _ _ _ _ => (pe_cal C__law_take hr.le pass0 (pa_cons (pv 0) (pa_cons pe_int pa_nil)))))))))))))), ?_⟩)
  · obtain ⟨bx, o, c, os, rfl, _⟩ := h
    rfl
  · obtain ⟨bx, o, c, os, rfl, B, hc, ho, oo, lo, q⟩ := h
    refine ⟨_, rfl, bx, 7, c, rfl, B, by omega, by omega, by omega, fun way H1 w0 w1 e1 B1 => ?_⟩
    have o1 := e1 _ _ (Box.nt B ho) ho
    have fin : ∀ {w : Addr} {ws : List Int} {H' : Hp}, H1 w = none → Evl.Ex H1 H' → H' w = some (.lst (IV ws)) → Oct ws → ws.length = 31 → Q (.ref w) H' := fun {w ws H'} nw e hw ow lw =>
      q w ws H' (e1.trans (Exb.of e)) ((B1.ex e).le (by omega)) hw ow lw (Exb.fresh e1 nw (B1.at nw)) (B1.at nw)
    refine ⟨_, rfl, .inl ⟨rfl, _, rfl, if_eq (fun h0 => ?_) (fun h0 => ?_)⟩⟩
    · exact rep_te fun a H' na e ha => fin na e ha (oct_255 _) rfl
    refine ⟨_, rfl, .inl ⟨rfl, _, rfl, if_eq (fun h1 => ?_) (fun h1 => ?_)⟩⟩
    · exact rep_te fun a H' na e ha => fin na e ha (oct_0 _) rfl
    refine ⟨_, rfl, .inl ⟨rfl, _, rfl, if_eq (fun h2 => ?_) (fun h2 => ?_)⟩⟩
    · refine rep_te fun a H2 na e2 ha => ⟨by show 8 ≤ sizeLine; decide, fun M nM => ?_⟩
      have y := Evl.Ex.new (o := .lst (IV [128, 64, 32, 16, 8, 4, 2, 1])) nM
      have nb := B1.at na
      have B2 := B1.ex e2
      have nM' := B2.at nM
      have hM := upd_same (H := H2) (a := M) (o := .lst (IV [128, 64, 32, 16, 8, 4, 2, 1]))
      refine ⟨_, rfl, bx, 8, c + 1, rfl, B2.ex y, by omega, by omega, by omega, fun r H3 r0 r1 e3 B3 => menu_i (e3 _ _ nM' hM) r0 r1 fun v hv => ?_⟩
      simp only [List.mem_cons, List.not_mem_nil, or_false] at hv
      refine ⟨_, _, rfl, rfl, _, rfl, _, rfl, bx, 31, c + 1 + 1, rfl, B3, by omega, by omega, by omega, fun k H4 k0 k1 e4 B4 => ?_⟩
      obtain ⟨k, rfl⟩ : ∃ j : Nat, k = j := ⟨k.toNat, by omega⟩
      have hD := e4 _ _ nb (e3 _ _ nb (y _ _ ha))
      have E4 := (((e1.trans (Exb.of e2)).trans (Exb.of y)).trans e3).trans e4
      have fa : H a = none := Exb.fresh e1 na nb
      refine ⟨a, _, _, k, rfl, rfl, hD, Evl.ixN_nat (by rw [iv_len, List.length_replicate]; omega), ?_⟩
      refine ⟨_, rfl, ?_⟩
      have es : (IV (List.replicate 31 255)).set k (V.int (255 - v)) = IV ((List.replicate 31 255).set k (255 - v)) := List.map_set.symm
      show Q (.ref a) (upd H4 a (.lst ((IV (List.replicate 31 255)).set k (V.int (255 - v)))))
      rw [es]
      exact q a _ _ (Exb.mut E4 fa) ((Box.mut B4 nb).le (by omega)) upd_same (oct_set (oct_255 _) (by omega)) (by rw [List.length_set]; rfl) fa nb
    refine ⟨_, rfl, .inl ⟨rfl, _, rfl, if_eq (fun h3 => ?_) (fun h3 => ?_)⟩⟩
    · refine seq_var (t := true) rfl (Sv.tup o1) fun J wk D hD => ?_
      rw [iv_len] at wk
      refine lc_pureVS (us := IV (os.map fun x => 255 - x)) wk (fun H' ex => (Sv.tup o1).ex ex) (by simp) (by omega) hD (fun _ => rfl) ?_ ?_
      · intro i x u H' Q' hx hu ex k
        obtain ⟨m, hm, rfl⟩ := iv_get hx
        rw [List.getElem?_map, List.getElem?_map, hm] at hu
        cases hu
        exact ⟨_, rfl, _, _, rfl, rfl, k H' (Evl.Ex.refl _)⟩
      · intro H' ex h3
        exact fin hD ex h3 (fun x hx => by obtain ⟨m, hm, rfl⟩ := List.mem_map.mp hx; have := oo m hm; omega) (by rw [List.length_map]; exact lo)
    refine ⟨_, rfl, .inl ⟨rfl, _, rfl, if_eq (fun h4 => ?_) (fun h4 => ?_)⟩⟩
    · exact ⟨_, rfl, o, _, rfl, .inr (SqT.of o1), fun l nl => fin nl (Evl.Ex.new nl) upd_same oo lo⟩
    · refine row_te (fun _ => rfl) (fun _ => rfl) B1 (by omega) fun D xs H3 e3 B3 hD ox lx nD nDb => ?_
      exact q D xs H3 (e1.trans e3) (B3.le (by omega)) hD ox lx (Exb.fresh e1 nD nDb) nDb
end
end K3
namespace K3
open PySem PySem.Spec PyProof.Rows L2 VB BM
abbrev Own (ch : Addr) (c : Cp) (x : Addr) : Prop := x = ch ∨ x = c.o ∨ x = c.e ∨ x = c.t ∨ x = c.p ∨ x = c.q ∨ x = c.r
def kP (b p : Nat) : List Key := [Sum.inl (b : Int), Sum.inl (p : Int)]
def mdL (n : Int) (sh er pd : Addr) : List (Key × V) := [(Sum.inr "shape", .ref sh), (Sum.inr "ops", .int n), (Sum.inr "erases", .ref er), (Sum.inr "pages", .ref pd)]
theorem pgL_len {os : List Int} {p n : Nat} (h : os.length = 31 * n) (hp : p < n) : (pgL os p).length = 31 := by
  unfold pgL
  rw [List.length_take, List.length_drop]
  omega
theorem pgL_oct {os : List Int} {p : Nat} (h : Oct os) : Oct (pgL os p) := fun o ho => h o (List.mem_of_mem_drop (List.mem_of_mem_take ho))
/-- the law's own record of a chip -/
structure Mo (K : PySem.W.Frag) (H : Hp) (s : CS) (md sh er pd : Addr) (kvs : List (List Key × V)) : Prop where
  hmd : H md = some (.dK (mdL s.c.ops sh er pd))
  hsh : H sh = some (.lst (IV [s.c.blocks, s.c.pages, s.c.bad]))
  her : H er = some (.lst (IV s.er))
  hpd : H pd = some (.dT kvs)
  len : (kvs.length : Int) ≤ 16 * s.c.ops
  few : 0 ≤ s.c.ops ∧ s.c.ops ≤ 1000
  ne : sh ≠ er
  ev : ∀ n ∈ s.er, 0 ≤ n ∧ n ≤ s.c.ops
  no : ∀ b p : Nat, b < s.os.length → (p : Int) < s.c.pages → valV kvs (kP b p) = none → pgL (s.os.getD b []) p = List.replicate 31 255
  at_ : ∀ b p : Nat, b < s.os.length → (p : Int) < s.c.pages → ∀ v, valV kvs (kP b p) = some v → ∃ t, v = .ref t ∧ H t = some (.tup (IV (pgL (s.os.getD b []) p)))
section
variable {P : Program} {w : World} {K : PySem.W.Frag} {mg : Str → Option Value} {base : Heap} {f : Addr} {fd : FuncData}
theorem Mo.ex {H H' : Hp} {s : CS} {md sh er pd : Addr} {kvs : List (List Key × V)} (h : Mo K H s md sh er pd kvs) (e : Evl.Ex H H') : Mo K H' s md sh er pd kvs :=
  ⟨e _ _ h.hmd, e _ _ h.hsh, e _ _ h.her, e _ _ h.hpd, h.len, h.few, h.ne, h.ev, h.no, fun b p hb hp v hv => by
    obtain ⟨t, rfl, ht⟩ := h.at_ b p hb hp v hv
    exact ⟨t, rfl, e _ _ ht⟩⟩
theorem getM {H : Hp} {s : CS} {md sh er pd : Addr} {kvs : List (List Key × V)} (h : Mo K H s md sh er pd kvs) :
    DGet H md (.str "shape") (some (.ref sh)) ∧ DGet H md (.str "ops") (some (.int s.c.ops)) ∧ DGet H md (.str "erases") (some (.ref er)) ∧ DGet H md (.str "pages") (some (.ref pd)) :=
  ⟨DGet.k (k := Sum.inr "shape") h.hmd, DGet.k (k := Sum.inr "ops") h.hmd, DGet.k (k := Sum.inr "erases") h.hmd, DGet.k (k := Sum.inr "pages") h.hmd⟩
def spPage (K : PySem.W.Frag) : Sp := fun vs H Q _ => ∃ (s : CS) (md sh er pd : Addr) (kvs : List (List Key × V)) (b p : Nat), vs = [.ref md, .int (b : Int), .int (p : Int)] ∧ Mo K H s md sh er pd kvs ∧ b < s.os.length ∧ (p : Int) < s.c.pages ∧
  ∀ (t : Addr) (H' : Hp), Evl.Ex H H' → H' t = some (.tup (IV (pgL (s.os.getD b []) p))) → Q (.ref t) H'
/-- (255,) * 31 -/
theorem clean_te {σ : L2.St} {H : Hp} {Q : VK} (q : ∀ (a : Addr) (H' : Hp), H a = none → Evl.Ex H H' → H' a = some (.tup (IV (List.replicate 31 255))) → Q (.ref a) H') :
    tOp (rMulU K) (tTup (tCons (tC (V.int 255)) tNil)) (tC (V.int 31)) σ H Q := by
  refine ⟨by show 1 ≤ sizeLine; decide, fun t nt => ?_⟩
  refine .inr (.inr ⟨t, 31, [V.int 255], rfl, rfl, SqT.of upd_same, by simp, by decide, by decide, by decide, fun p np => ?_⟩)
  have x0 := Evl.Ex.new (o := .tup [V.int 255]) nt
  have ef : (List.replicate (31 : Int).toNat [V.int 255]).flatten = IV (List.replicate 31 255) := rep_flat _ _
  rw [ef]
  exact q p _ (Evl.fresh_back x0 np) (x0.trans (Evl.Ex.new np)) upd_same
theorem ok_page (T : Txt K mg) (F : FnP K "_law_page" s__law_page f fd) : Fg P w K mg base CX0 1 f fd ["_law_model", "_law_block", "_law_page_here"] (spPage K) := by
  refine fg_of F sc__law_page (fun vs H Q E h => ?_) (fun cdv A outer s H vs Q E hr h => ⟨_, (PSs.nox (pss_one (ps_ret (pe_dget2 (Nat.lt_of_le_of_lt (Nat.add_le_add_left (by decide : 1 ≤ 64) _) hr.rm.units) (pe_dget (Nat.lt_of_le_of_lt (Nat.add_le_add_left (by decide : 1 ≤ 64) _) hr.rm.units) (pv 0) pe_str (fun _ _ => rfl)) (pe_tup (pa_cons (pv 1) (pa_cons (pv 2) pa_nil))) (pe_op (u_mul (K := K)) (pe_tup (pa_cons pe_int pa_nil)) pe_int) ⟨rfl, rfl, rfl, rfl⟩)))), ?_⟩)
  · obtain ⟨s, md, sh, er, pd, kvs, b, p, rfl, _⟩ := h
    rfl
  · obtain ⟨s, md, sh, er, pd, kvs, b, p, rfl, h, hb, hp, q⟩ := h
    refine ⟨_, rfl, md, _, rfl, (getM h).2.2.2, pd, rfl, ?_, _, rfl, _, rfl, by show 2 ≤ sizeLine; decide, fun k nk => ?_⟩
    · exact .inr ⟨kvs, .inl h.hpd⟩
    have y := Evl.Ex.new (o := .tup [V.int (b : Int), .int (p : Int)]) nk
    refine clean_te fun a H1 na e1 ha => ?_
    have g : DGet H1 pd (.ref k) (valV kvs (kP b p)) := DGet.t (k := kP b p) (e1 _ _ (y _ _ h.hpd)) (e1 _ _ upd_same)
    refine ⟨_, g, ?_⟩
    cases hv : valV kvs (kP b p) with
    | none => exact q a H1 (y.trans e1) (by rw [h.no b p hb hp hv]; exact ha)
    | some v =>
      obtain ⟨t, rfl, ht⟩ := h.at_ b p hb hp v hv
      exact q t H1 (y.trans e1) (e1 _ _ (y _ _ ht))
/-- a tuple that is a page's octets -/
def spIsPage (K : PySem.W.Frag) : Sp := fun vs H Q _ => ∃ (a b : Addr) (os : List Int), vs = [.ref a, .ref b] ∧ H a = some (.tup (IV os)) ∧ H b = some (.tup (IV os)) ∧ os.length ≤ 1000 ∧ RV (.bl true) H Q
theorem ok_is_page (T : Txt K mg) (F : FnP K "_law_is_page" s__law_is_page f fd) : Fg P w K mg base CX0 1 f fd ["_law_told", "_law_due"] (spIsPage K) := by
  refine fg_of F sc__law_is_page (fun vs H Q E h => ?_) (fun cdv A outer s H vs Q E hr h => ⟨_, (PSs.nox (pss_cons (ps_if (PW.pt (pw_or (pt_not (pt_tru (K := K) (pe_callB (u_isi (K := K)) (by rfl) T.f_isinstance (by decide +kernel) (pa_cons (pv 0) (pa_cons (pe_bltn (v := .ty "tuple") rfl T.f_tuple (by decide +kernel) rfl) pa_nil))) (by intro _; rfl))) (pw_or1 (pt_cmpR (u_ne (K := K) hr) (pe_lc (own := [("_law_one", 2)]) rfl sc__law_is_page.nd (pi_seq (K := K) (pv 0)) (blkOk_by (own := [("_law_one", 2)]) (N := ["_law_told", "_law_due", "_law_one"]) (sc := defScope s__law_is_page) (by decide +kernel)) (fun _ _ _ _ _ => (pg_name (i := 2) sc__law_is_page.nd rfl (by first | exact Or.inl rfl | exact Or.inr rfl))) (fun _ _ _ _ _ => (pts_one (pt_tru (K := K) (pe_callB (u_isi (K := K)) (by rfl) T.f_isinstance (by decide +kernel) (pa_cons (pv 2) (pa_cons (pe_bltn (v := .ty "bool") rfl T.f_bool (by decide +kernel) rfl) pa_nil))) (by intro _; rfl)))) (fun _ _ _ _ _ => (pv 2))) (pe_lst pa_nil) (nomark _)))))
  (pss_one (ps_ret pe_bl)) pss_nil)
  (pss_one (ps_ret (pe_cmpR (u_eq (K := K) hr) (pv 0) (pe_callTy (u_tup (K := K)) (by rfl) T.f_tuple (by decide +kernel) (pa_cons (pv 1) pa_nil)) (nomark _)))))), ?_⟩)
  · obtain ⟨a, b, os, rfl, _⟩ := h
    rfl
  · obtain ⟨a, b, os, rfl, ha, hb, lo, q⟩ := h
    refine ⟨_, rfl, _, _, _, _, true, rfl, .ty _, (Sv.tup ha).ty, kit_ty (by decide +kernel), true, rfl, iteF ?_⟩
    refine seq_var (t := true) rfl (Sv.tup ha) fun J wk D hD => ?_
    rw [iv_len] at wk
    refine lc_it wk (fun i H' => i ≤ os.length ∧ Evl.Ex H H' ∧ H' D = some (.lst [])) ⟨by omega, Evl.Ex.new hD, upd_same⟩ (fun i H' _ hh => (Sv.tup ha).ex hh.2.1) ?_ ?_
    · rintro i x H2 H3 hi ⟨_, e2, h2⟩ ⟨rfl, hx⟩
      obtain ⟨m, hm, rfl⟩ := iv_get hx
      exact ⟨rfl, _, rfl, _, _, _, _, false, rfl, .ty _, ty_int K _ m, kit_ty (by decide +kernel), false, rfl, iteF ⟨by omega, e2, h2⟩⟩
    · rintro H2 ⟨_, e2, h2⟩
      refine ⟨by show 0 ≤ sizeLine; decide, fun z nz => ne_empty (SqL.of ((Evl.Ex.new nz) _ _ h2)) (fun x hx => absurd hx List.not_mem_nil) (SqL.of upd_same) ⟨_, rfl, iteF ?_⟩⟩
      have y := Evl.Ex.new (o := .lst []) nz
      have ha' := y _ _ (e2 _ _ ha)
      have hb' := y _ _ (e2 _ _ hb)
      refine ⟨_, rfl, _, rfl, b, _, rfl, .inr ⟨SqT.of hb', .inr (req_t (SqT.of ha') (SqT.of hb') ?_)⟩⟩
      rw [decide_eq_true rfl]
      exact q _ (e2.trans y)
end
end K3
namespace K3
open PySem PySem.Spec PyProof.Rows L2 VB BM
section
variable {P : Program} {w : World} {K : PySem.W.Frag} {mg : Str → Option Value} {base : Heap} {f : Addr} {fd : FuncData}
/-- the very value -/
def spVery (K : PySem.W.Frag) : Sp := fun vs H Q _ => ∃ (v : V) (d : Dsc), vs = [v, v] ∧ At K H v d ∧ ∀ H' : Hp, (∀ y u, v ≠ .ref y → H y = some u → H' y = some u) → Q (.bl true) H'
theorem ok_very (T : Txt K mg) (F : FnP K "_law_is_very" s__law_is_very f fd) : Fg P w K mg base CX0 1 f fd ["_law_given", "_law_value"] (spVery K) := by
  refine fg_of F sc__law_is_very (fun vs H Q E h => ?_) (fun cdv A outer s H vs Q E hr h => ⟨_, (PSs.nox (pss_cons (ps_if (pt_cmpR (u_ne (K := K) hr) (pe_callB (u_reprA (K := K) hr) (by rfl) T.f_repr (by decide +kernel) (pa_cons (pv 0) pa_nil)) (pe_callB (u_reprA (K := K) hr) (by rfl) T.f_repr (by decide +kernel) (pa_cons (pv 1) pa_nil)) (nomark _))
  (pss_one (ps_ret pe_bl)) pss_nil)
  (pss_cons (ps_if (pt_tru (K := K) (pe_callB (u_isi (K := K)) (by rfl) T.f_isinstance (by decide +kernel) (pa_cons (pv 1) (pa_cons (pe_bltn (v := .ty "list") rfl T.f_list (by decide +kernel) rfl) pa_nil))) (by intro _; rfl))
  (pss_one (ps_expr (pe_bm PySem.F.plainAttrs_list PySem.F.slot_list_append PySem.F.type_list_append mt_append (pv 1) (pa_cons pe_int pa_nil)))) pss_nil)
  (pss_one (ps_ret (pe_cmpR (u_eq (K := K) hr) (pe_callB (u_reprA (K := K) hr) (by rfl) T.f_repr (by decide +kernel) (pa_cons (pv 0) pa_nil)) (pe_callB (u_reprA (K := K) hr) (by rfl) T.f_repr (by decide +kernel) (pa_cons (pv 1) pa_nil)) (nomark _))))))), ?_⟩)
  · obtain ⟨v, d, rfl, _⟩ := h
    rfl
  · obtain ⟨v, d, rfl, h, q⟩ := h
    have last : ∀ (H' : Hp) (e : PyData), Dp K H' v e → Sh e 1 7000 → (∀ y u, v ≠ .ref y → H y = some u → H' y = some u) → tRet (tOp (rEqU K) (tCB (rReprA K) (tCons (tVar 0) tNil)) (tCB (rReprA K) (tCons (tVar 1) tNil))) { nx := fun x H' => Q V.non H', rt := Q } [some v, some v] H' := by
      intro H' e hd hs hk
      refine ⟨_, rfl, rpD hd hs ⟨_, rfl, rpD hd hs (.inl ⟨rfl, ?_⟩)⟩⟩
      rw [decide_eq_true rfl]
      exact q H' hk
    refine ⟨_, rfl, h.rp ⟨_, rfl, h.rp (.inl ⟨rfl, _, rfl, same_ne ?_⟩)⟩⟩
    have keep : ∀ y u, v ≠ .ref y → H y = some u → H y = some u := fun _ _ _ z => z
    cases d with
    | one u =>
      obtain ⟨rfl, g⟩ := id h
      have l := last H _ h.dp h.sh keep
      cases g with
      | non => exact ⟨_, rfl, _, _, _, _, false, rfl, .ty _, .base .non, kit_ty (by decide +kernel), false, rfl, iteF l⟩
      | bl b => exact ⟨_, rfl, _, _, _, _, false, rfl, .ty _, .base (.bl b), kit_ty (by decide +kernel), false, rfl, iteF l⟩
      | int j hj => exact ⟨_, rfl, _, _, _, _, false, rfl, .ty _, .base (.int j), kit_ty (by decide +kernel), false, rfl, iteF l⟩
      | str x hx => exact ⟨_, rfl, _, _, _, _, false, rfl, .ty _, .base (.str x), kit_ty (by decide +kernel), false, rfl, iteF l⟩
    | sq t xs =>
      have l := last H _ h.dp h.sh keep
      obtain ⟨a, rfl, S, g, lx, hl, ht⟩ := h
      cases t with
      | true => exact ⟨_, rfl, _, _, _, _, false, rfl, .ty _, S.ty, kit_ty (by decide +kernel), false, rfl, iteF l⟩
      | false =>
        have ha := hl rfl
        refine ⟨_, rfl, _, _, _, _, true, rfl, .ty _, S.ty, kit_ty (by decide +kernel), true, rfl, iteT ⟨_, rfl, .inl ⟨rfl, _, SqL.of ha⟩, a, _, _, rfl, rfl, ha, Evl.sz_lt (by omega), ?_⟩⟩
        have g' : ∀ x ∈ xs ++ [V.int 7], Flat x := fun x hx => by
          rcases List.mem_append.mp hx with z | z
          · exact g x z
          · have : x = .int 7 := by simpa using z
            subst this
            exact .int 7 (by decide)
        refine last _ (Dsc.sq false (xs ++ [V.int 7])).data (.lst (SqL.of upd_same) (dpAll_flat g')) (sh_sq g' (by rw [List.length_append]; show _ + 1 ≤ _; omega)) fun y u ny hy => ?_
        rw [upd_ne (fun z => ny (by rw [z]))]
        exact hy
inductive Kn
  | write
  | erase
  | read
  | erases
def Kn.s : Kn → Str
  | .write => "write"
  | .erase => "erase"
  | .read => "read"
  | .erases => "erases"
/-- the error that is due -/
def dueV (k : Kn) (nb np : Int) (v u x : V) (d : Dsc) : Option (Str × V) :=
  if isIx v 0 (nb - 1) = false then some ("block", v) else
  match k with
  | .write => if isIx u 0 (np - 1) = false then some ("page", u) else if d.oct 31 = false then some ("octets", x) else none
  | .read => if isIx u 0 (np - 1) = false then some ("page", u) else none
  | _ => none
def dueL : Option (Str × V) → List V
  | none => []
  | some (x, y) => [.str x, y]
def spDue (K : PySem.W.Frag) : Sp := fun vs H Q _ => ∃ (sh : Addr) (nb np bad : Int) (k : Kn) (v u x : V) (d : Dsc), vs = [.ref sh, .str k.s, v, u, x] ∧ H sh = some (.lst (IV [nb, np, bad])) ∧ KV K H v ∧ KV K H u ∧ At K H x d ∧ RL (dueL (dueV k nb np v u x d)) H Q
theorem ok_due (T : Txt K mg) (F : FnP K "_law_due_error" s__law_due_error f fd) (C__law_is_index : Cal P w K mg base CX0 1 "_law_is_index" ["_law_value", "_law_many"] (spIsIdx K)) (C__law_are_octets : Cal P w K mg base CX0 2 "_law_are_octets" ["_law_value", "_law_count"] (spAreOct K)) :
    Fg P w K mg base CX0 3 f fd ["_law_shape_here", "_law_kind", "_law_block", "_law_page_here", "_law_octets"] (spDue K) := by
  refine fg_of F sc__law_due_error (fun vs H Q E h => ?_) (fun cdv A outer s H vs Q E hr h => ⟨_, (PSs.nox (pss_cons (ps_if (pt_not (pt_tru (K := K) (pe_cal C__law_is_index hr.le pass0 (pa_cons (pv 2) (pa_cons (pe_ix (u_ix (K := K)) (pv 0) pe_int (fun _ _ => rfl)) pa_nil))) (by intro _; rfl)))
  (pss_one (ps_ret (pe_lst (pa_cons pe_str (pa_cons (pv 2) pa_nil))))) pss_nil)
  (pss_cons (ps_if (PW.pt (pw_and (pt_cmpR (u_in (K := K)) (pv 1) (pe_lst (pa_cons pe_str (pa_cons pe_str pa_nil))) (by rfl)) (pw_and1 (pt_not (pt_tru (K := K) (pe_cal C__law_is_index hr.le pass0 (pa_cons (pv 3) (pa_cons (pe_ix (u_ix (K := K)) (pv 0) pe_int (fun _ _ => rfl)) pa_nil))) (by intro _; rfl))))))
  (pss_one (ps_ret (pe_lst (pa_cons pe_str (pa_cons (pv 3) pa_nil))))) pss_nil)
  (pss_cons (ps_if (PW.pt (pw_and (pt_cmpR (u_eq (K := K) hr) (pv 1) pe_str (nomark _)) (pw_and1 (pt_not (pt_tru (K := K) (pe_cal C__law_are_octets hr.le pass0 (pa_cons (pv 4) (pa_cons pe_int pa_nil))) (by intro _; rfl))))))
  (pss_one (ps_ret (pe_lst (pa_cons pe_str (pa_cons (pv 4) pa_nil))))) pss_nil)
  (pss_one (ps_ret (pe_lst pa_nil))))))), ?_⟩)
  · obtain ⟨sh, nb, np, bad, k, v, u, x, d, rfl, _⟩ := h
    rfl
  · obtain ⟨sh, nb, np, bad, k, v, u, x, d, rfl, hsh, kv, ku, hx, q⟩ := h
    refine ⟨_, rfl, _, rfl, Sv.ix (x := .non) (Sv.lst hsh) (i := 0) rfl ⟨v, nb, rfl, kv, _, rfl, ?_⟩⟩
    unfold dueV at q
    cases hv : isIx v 0 (nb - 1) with
    | false =>
      rw [hv, if_pos rfl] at q
      exact iteT ⟨_, rfl, by show 2 ≤ sizeLine; decide, fun l nl => q l _ nl (Evl.Ex.new nl) upd_same⟩
    | true =>
      rw [hv, if_neg (by simp)] at q
      refine iteF ⟨_, rfl, by show 2 ≤ sizeLine; decide, fun l nl => ⟨l, _, rfl, .inl (SqL.of upd_same), rfl, rfl, _, rfl, ?_⟩⟩
      have e0 := Evl.Ex.new (o := .lst [V.str "write", .str "read"]) nl
      generalize upd H l (.lst [V.str "write", .str "read"]) = H1 at e0 ⊢
      have none_ : ∀ {H' : Hp}, Evl.Ex H H' → dueL (none : Option (Str × V)) = [] → RL [] H Q → tRet (tLst tNil) { nx := fun x H' => Q V.non H', rt := Q } [some (.ref sh), some (.str k.s), some v, some u, some x] H' := fun {H'} e _ q =>
        ⟨by show 0 ≤ sizeLine; decide, fun z nz => q z _ (Evl.fresh_back e nz) (e.trans (Evl.Ex.new nz)) upd_same⟩
      have pg : ∀ {A B : Prop}, (isIx u 0 (np - 1) = false → A) → (isIx u 0 (np - 1) = true → B) → if (!isIx u 0 (np - 1)) = true then A else B := fun {A B} h1 h2 => by
        cases hu : isIx u 0 (np - 1) with
        | false => exact iteT (h1 hu)
        | true => exact iteF (h2 hu)
      cases k with
      | write =>
        refine iteT ⟨_, rfl, _, rfl, Sv.ix (x := .non) (Sv.lst (e0 _ _ hsh)) (i := 1) rfl ⟨u, np, rfl, ku.ex e0, _, rfl, pg (fun hu => ?_) (fun hu => ?_)⟩⟩
        · rw [hu, if_pos rfl] at q
          exact ⟨_, rfl, by show 2 ≤ sizeLine; decide, fun l2 nl2 => q l2 _ (Evl.fresh_back e0 nl2) (e0.trans (Evl.Ex.new nl2)) upd_same⟩
        · rw [hu, if_neg (by simp)] at q
          refine ⟨_, rfl, .inl ⟨rfl, _, rfl, ?_⟩⟩
          rw [decide_eq_true (show V.str Kn.write.s = V.str "write" from rfl)]
          refine iteT ⟨_, rfl, x, d, 31, rfl, hx.ex e0, fun H2 e2 => ⟨_, rfl, ?_⟩⟩
          cases ho : d.oct 31 with
          | false =>
            rw [ho, if_pos rfl] at q
            exact iteT ⟨_, rfl, by show 2 ≤ sizeLine; decide, fun l2 nl2 => q l2 _ (Evl.fresh_back (e0.trans e2) nl2) ((e0.trans e2).trans (Evl.Ex.new nl2)) upd_same⟩
          | true =>
            rw [ho, if_neg (by simp)] at q
            exact iteF (none_ (e0.trans e2) rfl q)
      | read =>
        refine iteT ⟨_, rfl, _, rfl, Sv.ix (x := .non) (Sv.lst (e0 _ _ hsh)) (i := 1) rfl ⟨u, np, rfl, ku.ex e0, _, rfl, pg (fun hu => ?_) (fun hu => ?_)⟩⟩
        · rw [hu, if_pos rfl] at q
          exact ⟨_, rfl, by show 2 ≤ sizeLine; decide, fun l2 nl2 => q l2 _ (Evl.fresh_back e0 nl2) (e0.trans (Evl.Ex.new nl2)) upd_same⟩
        · rw [hu, if_neg (by simp)] at q
          refine ⟨_, rfl, .inl ⟨rfl, _, rfl, ?_⟩⟩
          rw [decide_eq_false (show ¬ V.str Kn.read.s = V.str "write" from by decide)]
          exact iteF (none_ e0 rfl q)
      | erase =>
        refine iteF ⟨_, rfl, .inl ⟨rfl, _, rfl, ?_⟩⟩
        rw [decide_eq_false (show ¬ V.str Kn.erase.s = V.str "write" from by decide)]
        exact iteF (none_ e0 rfl q)
      | erases =>
        refine iteF ⟨_, rfl, .inl ⟨rfl, _, rfl, ?_⟩⟩
        rw [decide_eq_false (show ¬ V.str Kn.erases.s = V.str "write" from by decide)]
        exact iteF (none_ e0 rfl q)
end
end K3
namespace K3
open PySem PySem.Spec PyProof.Rows L2 VB BM
theorem wrote_at {O ws : List Int} {p n : Nat} (lO : O.length = 31 * n) (lw : ws.length = 31) (hp : p < n) (i : Nat) : (wrote O ws p)[i]? = if i < 31 * p then O[i]? else if i < 31 * p + 31 then (both Builtin.bitAnd ((O.drop (31 * p)).take 31) ws)[i - 31 * p]? else O[i]? := by
  have l1 : (O.take (31 * p)).length = 31 * p := by rw [List.length_take]; omega
  have l2 : ((O.drop (31 * p)).take 31).length = 31 := by rw [List.length_take, List.length_drop]; omega
  have l3 : (both Builtin.bitAnd ((O.drop (31 * p)).take 31) ws).length = 31 := by rw [both_len (by rw [l2, lw]), l2]
  unfold wrote
  rw [List.getElem?_append, l1]
  by_cases h1 : i < 31 * p
  · rw [if_pos h1, if_pos h1, List.getElem?_take, if_pos h1]
  · rw [if_neg h1, if_neg h1, List.getElem?_append, l3]
    by_cases h2 : i < 31 * p + 31
    · rw [if_pos (by omega), if_pos h2]
    · rw [if_neg (by omega), if_neg h2, List.getElem?_drop]
      congr 1
      omega
theorem wrote_len {O ws : List Int} {p n : Nat} (lO : O.length = 31 * n) (lw : ws.length = 31) (hp : p < n) : (wrote O ws p).length = 31 * n := by
  have l2 : ((O.drop (31 * p)).take 31).length = 31 := by rw [List.length_take, List.length_drop]; omega
  unfold wrote
  rw [List.length_append, List.length_append, List.length_take, List.length_drop, both_len (by rw [l2, lw]), l2]
  omega
theorem pg_same {O ws : List Int} {p n : Nat} (lO : O.length = 31 * n) (lw : ws.length = 31) (hp : p < n) : pgL (wrote O ws p) p = both Builtin.bitAnd (pgL O p) ws := by
  have l2 : ((O.drop (31 * p)).take 31).length = 31 := by rw [List.length_take, List.length_drop]; omega
  have l3 : (both Builtin.bitAnd ((O.drop (31 * p)).take 31) ws).length = 31 := by rw [both_len (by rw [l2, lw]), l2]
  refine List.ext_getElem? fun i => ?_
  unfold pgL
  rw [List.getElem?_take]
  by_cases h : i < 31
  · rw [if_pos h, List.getElem?_drop, wrote_at lO lw hp, if_neg (by omega), if_pos (by omega)]
    congr 1
    omega
  · rw [if_neg h, List.getElem?_eq_none (by rw [l3]; omega)]
theorem pg_other {O ws : List Int} {p n j : Nat} (lO : O.length = 31 * n) (lw : ws.length = 31) (hp : p < n) (hj : j ≠ p) : pgL (wrote O ws p) j = pgL O j := by
  refine List.ext_getElem? fun i => ?_
  unfold pgL
  rw [List.getElem?_take, List.getElem?_take]
  by_cases h : i < 31
  · rw [if_pos h, if_pos h, List.getElem?_drop, List.getElem?_drop, wrote_at lO lw hp]
    rcases Nat.lt_or_gt_of_ne hj with z | z
    · rw [if_pos (by omega)]
    · rw [if_neg (by omega), if_neg (by omega)]
  · rw [if_neg h, if_neg h]
theorem pg_clean (n p : Nat) (hp : p < n) : pgL (List.replicate (31 * n) 255) p = List.replicate 31 255 := by
  unfold pgL
  rw [List.drop_replicate, List.take_replicate]
  congr 1
  omega
theorem kP_inj {b p b' p' : Nat} (h : kP b p = kP b' p') : b = b' ∧ p = p' := by
  unfold kP at h
  simp only [List.cons.injEq, Sum.inl.injEq, and_true] at h
  omega
section
variable {P : Program} {w : World} {K : PySem.W.Frag} {mg : Str → Option Value} {base : Heap} {f : Addr} {fd : FuncData}
theorem putM_ops (n m : Int) (sh er pd : Addr) : putK (mdL n sh er pd) (Sum.inr "ops" : Key) (.int m) = mdL m sh er pd := by
  simp [putK, mdL]
  decide
/-- a model as it stands in the heap -/
structure Mi (K : PySem.W.Frag) (H : Hp) (md sh er pd : Addr) (n : Int) (xs ev : List Int) (kvs : List (List Key × V)) : Prop where
  hmd : H md = some (.dK (mdL n sh er pd))
  hsh : H sh = some (.lst (IV xs))
  her : H er = some (.lst (IV ev))
  hpd : H pd = some (.dT kvs)
theorem Mi.ex {H H' : Hp} {md sh er pd : Addr} {n : Int} {xs ev : List Int} {kvs : List (List Key × V)} (h : Mi K H md sh er pd n xs ev kvs) (e : Evl.Ex H H') : Mi K H' md sh er pd n xs ev kvs := ⟨e _ _ h.hmd, e _ _ h.hsh, e _ _ h.her, e _ _ h.hpd⟩
theorem Mi.get {H : Hp} {md sh er pd : Addr} {n : Int} {xs ev : List Int} {kvs : List (List Key × V)} (h : Mi K H md sh er pd n xs ev kvs) :
    DGet H md (.str "shape") (some (.ref sh)) ∧ DGet H md (.str "ops") (some (.int n)) ∧ DGet H md (.str "erases") (some (.ref er)) ∧ DGet H md (.str "pages") (some (.ref pd)) :=
  ⟨DGet.k (k := Sum.inr "shape") h.hmd, DGet.k (k := Sum.inr "ops") h.hmd, DGet.k (k := Sum.inr "erases") h.hmd, DGet.k (k := Sum.inr "pages") h.hmd⟩
theorem first_M {H : Hp} {s : CS} {md sh er pd : Addr} {kvs : List (List Key × V)} (h : Mo K H s md sh er pd kvs) :
    Mi K (upd H md (.dK (mdL (s.c.ops + 1) sh er pd))) md sh er pd (s.c.ops + 1) [s.c.blocks, s.c.pages, s.c.bad] s.er kvs ∧ ∀ y o, y ≠ md → H y = some o → (upd H md (.dK (mdL (s.c.ops + 1) sh er pd))) y = some o :=
  ⟨⟨upd_same, by rw [upd_ne (ne_of h.hsh h.hmd (fun z => by cases z))]; exact h.hsh, by rw [upd_ne (ne_of h.her h.hmd (fun z => by cases z))]; exact h.her, by rw [upd_ne (ne_of h.hpd h.hmd (fun z => by cases z))]; exact h.hpd⟩,
    fun y o n hy => by rw [upd_ne n]; exact hy⟩
def spFol (K : PySem.W.Frag) : Sp := fun vs H Q _ => ∃ (s : CS) (md sh er pd : Addr) (kvs : List (List Key × V)) (k : Kn) (b : Nat) (u x : V), vs = [.ref md, .str k.s, .int (b : Int), u, x] ∧ Mo K H s md sh er pd kvs ∧ b < s.os.length ∧ s.c.ops < 1000 ∧ 8 ≤ s.c.pages ∧ s.c.pages ≤ 16 ∧ s.er.length = s.os.length ∧
  (∀ i, i < s.os.length → Oct (s.os.getD i []) ∧ (s.os.getD i []).length = 31 * s.c.pages.toNat) ∧
  match k with
  | .read => ∃ p : Nat, u = .int (p : Int) ∧ (p : Int) < s.c.pages ∧ ∀ (t : Addr) (H' : Hp), Evl.Ex H H' → H' t = some (.tup (IV (pgL (s.os.getD b []) p))) → Q (.ref t) H'
  | .erases => RV (.int (s.er.getD b 0)) H Q
  | .erase => ∀ (kvs' : List (List Key × V)) (H' : Hp), (∀ y o, y ≠ md → y ≠ er → y ≠ pd → H y = some o → H' y = some o) → (∀ nw, Mo K H' (s.clean b nw) md sh er pd kvs') → Q (.bl true) H'
  | .write => ∃ (p : Nat) (w : Addr) (ws : List Int) (t : Bool), u = .int (p : Int) ∧ (p : Int) < s.c.pages ∧ x = .ref w ∧ Sv t K H w (IV ws) ∧ Oct ws ∧ ws.length = 31 ∧ (∀ H', (∀ y o, y ≠ md → y ≠ er → y ≠ pd → H y = some o → H' y = some o) → Sv t K H' w (IV ws)) ∧
      ∀ (kvs' : List (List Key × V)) (H' : Hp), (∀ y o, y ≠ md → y ≠ er → y ≠ pd → H y = some o → H' y = some o) → (∀ nw, Mo K H' (s.wr b p ws nw) md sh er pd kvs') → Q (.bl true) H'
theorem ok_followed (T : Txt K mg) (F : FnP K "_law_followed" s__law_followed f fd) (C__law_page : Cal P w K mg base CX0 1 "_law_page" ["_law_model", "_law_block", "_law_page_here"] (spPage K)) : Fg P w K mg base CX0 2 f fd ["_law_model", "_law_kind", "_law_block", "_law_page_here", "_law_octets"] (spFol K) := by
  refine fg_of F sc__law_followed (fun vs H Q E h => ?_) (fun cdv A outer s H vs Q E hr h => ⟨_, (PSs.nox (pss_cons (ps_if (pt_cmpR (u_eq (K := K) hr) (pv 1) pe_str (nomark _))
  (pss_one (ps_ret (pe_cal C__law_page hr.le pass0 (pa_cons (pv 0) (pa_cons (pv 2) (pa_cons (pv 3) pa_nil)))))) pss_nil)
  (pss_cons (ps_if (pt_cmpR (u_eq (K := K) hr) (pv 1) pe_str (nomark _))
  (pss_one (ps_ret (pe_ix (u_ix (K := K)) (pe_dget (Nat.lt_of_le_of_lt (Nat.add_le_add_left (by decide : 1 ≤ 64) _) hr.rm.units) (pv 0) pe_str (fun _ _ => rfl)) (pv 2) (fun _ _ => rfl)))) pss_nil)
  (pss_cons (ps_asg (pe_op (u_add (K := K)) (pe_dget (Nat.lt_of_le_of_lt (Nat.add_le_add_left (by decide : 1 ≤ 64) _) hr.rm.units) (pv 0) pe_str (fun _ _ => rfl)) pe_int) (pg_sub (pv 0) pe_str (L2.set_dict (Nat.lt_of_le_of_lt (Nat.add_le_add_left (by decide : 1 ≤ 64) _) hr.rm.units))))
  (pss_cons (ps_if (pt_cmpR (u_eq (K := K) hr) (pv 1) pe_str (nomark _))
  (pss_cons (ps_asg (pe_op (u_add (K := K)) (pe_ix (u_ix (K := K)) (pe_dget (Nat.lt_of_le_of_lt (Nat.add_le_add_left (by decide : 1 ≤ 64) _) hr.rm.units) (pv 0) pe_str (fun _ _ => rfl)) (pv 2) (fun _ _ => rfl)) pe_int) (pg_sub (pe_dget (Nat.lt_of_le_of_lt (Nat.add_le_add_left (by decide : 1 ≤ 64) _) hr.rm.units) (pv 0) pe_str (fun _ _ => rfl)) (pv 2) set_list))
  (pss_cons (ps_for PassesOwn.never rfl (pi_range1 rfl T.f_range (pa_cons (pe_ix (u_ix (K := K)) (pe_dget (Nat.lt_of_le_of_lt (Nat.add_le_add_left (by decide : 1 ≤ 64) _) hr.rm.units) (pv 0) pe_str (fun _ _ => rfl)) pe_int (fun _ _ => rfl)) pa_nil)) (pg_name (i := 5) sc__law_followed.nd rfl (by first | exact Or.inl rfl | exact Or.inr rfl))
  (pss_one (ps_asg (pe_op (u_mul (K := K)) (pe_tup (pa_cons pe_int pa_nil)) pe_int) (pg_sub (pe_dget (Nat.lt_of_le_of_lt (Nat.add_le_add_left (by decide : 1 ≤ 64) _) hr.rm.units) (pv 0) pe_str (fun _ _ => rfl)) (pe_tup (pa_cons (pv 2) (pa_cons (pv 5) pa_nil))) (L2.set_dict (Nat.lt_of_le_of_lt (Nat.add_le_add_left (by decide : 1 ≤ 64) _) hr.rm.units))))))
  (pss_one (ps_ret pe_bl)))) pss_nil)
  (pss_cons (ps_set (i := 6) sc__law_followed.nd rfl (by first | exact Or.inl rfl | exact Or.inr rfl) (pe_cal C__law_page hr.le pass0 (pa_cons (pv 0) (pa_cons (pv 2) (pa_cons (pv 3) pa_nil)))))
  (pss_cons (ps_asg (pe_callTy (u_tup (K := K)) (by rfl) T.f_tuple (by decide +kernel) (pa_cons (pe_lc (own := [("_law_k", 7)]) rfl sc__law_followed.nd (pi_range1 rfl T.f_range (pa_cons pe_int pa_nil)) (blkOk_by (own := [("_law_k", 7)]) (N := ["_law_model", "_law_kind", "_law_block", "_law_page_here", "_law_octets", "_law_one", "_law_old", "_law_k"]) (sc := defScope s__law_followed) (by decide +kernel)) (fun _ _ _ _ _ => (pg_name (i := 7) sc__law_followed.nd rfl (by first | exact Or.inl rfl | exact Or.inr rfl))) (fun _ _ _ _ _ => pts_nil) (fun _ _ _ _ _ => (pe_op op_and (pe_ix (u_ix (K := K)) (pv 6) (pv 7) (fun _ _ => rfl)) (pe_ix (u_ix (K := K)) (pv 4) (pv 7) (fun _ _ => rfl))))) pa_nil)) (pg_sub (pe_dget (Nat.lt_of_le_of_lt (Nat.add_le_add_left (by decide : 1 ≤ 64) _) hr.rm.units) (pv 0) pe_str (fun _ _ => rfl)) (pe_tup (pa_cons (pv 2) (pa_cons (pv 3) pa_nil))) (L2.set_dict (Nat.lt_of_le_of_lt (Nat.add_le_add_left (by decide : 1 ≤ 64) _) hr.rm.units))))
  (pss_one (ps_ret pe_bl))))))))), ?_⟩)
  · obtain ⟨s, md, sh, er, pd, kvs, k, b, u, x, rfl, _⟩ := h
    rfl
  · obtain ⟨s, md, sh, er, pd, kvs, k, b, u, x, rfl, hM, hb, ho, g8, g16, le, hO, q⟩ := h
    have be : b < s.er.length := by omega
    cases k with
    | read =>
      obtain ⟨p, rfl, hp, q⟩ := q
      refine ⟨_, rfl, .inl ⟨rfl, _, rfl, ?_⟩⟩
      rw [decide_eq_true (show V.str Kn.read.s = V.str "read" from rfl)]
      exact iteT ⟨_, rfl, _, rfl, _, rfl, s, md, sh, er, pd, kvs, b, p, rfl, hM, hb, hp, q⟩
    | erases =>
      refine ⟨_, rfl, .inl ⟨rfl, _, rfl, ?_⟩⟩
      rw [decide_eq_false (show ¬ V.str Kn.erases.s = V.str "read" from by decide)]
      refine iteF ⟨_, rfl, .inl ⟨rfl, _, rfl, ?_⟩⟩
      rw [decide_eq_true (show V.str Kn.erases.s = V.str "erases" from rfl)]
      exact iteT ⟨_, rfl, md, _, rfl, (getM hM).2.2.1, _, rfl, Sv.ix (x := .non) (Sv.lst hM.her) (i := (b : Int)) (iv_at (getD_get be)) (q _ (Evl.Ex.refl _))⟩
    | erase =>
      refine ⟨_, rfl, .inl ⟨rfl, _, rfl, ?_⟩⟩
      rw [decide_eq_false (show ¬ V.str Kn.erase.s = V.str "read" from by decide)]
      refine iteF ⟨_, rfl, .inl ⟨rfl, _, rfl, ?_⟩⟩
      rw [decide_eq_false (show ¬ V.str Kn.erase.s = V.str "erases" from by decide)]
      refine iteF ⟨_, rfl, md, _, rfl, (getM hM).2.1, .inl ⟨_, _, rfl, rfl, _, rfl, md, _, rfl, DPut.k (k := Sum.inr "ops") hM.hmd (by show 4 < sizeLine; decide), ?_⟩⟩
      rw [putM_ops]
      obtain ⟨M1, k1⟩ := first_M hM
      generalize upd H md (.dK (mdL (s.c.ops + 1) sh er pd)) = H1 at M1 k1 ⊢
      refine ⟨_, rfl, .inl ⟨rfl, _, rfl, ?_⟩⟩
      rw [decide_eq_true (show V.str Kn.erase.s = V.str "erase" from rfl)]
      refine iteT ⟨_, rfl, md, _, rfl, M1.get.2.2.1, _, rfl, Sv.ix (x := .non) (Sv.lst M1.her) (i := (b : Int)) (iv_at (getD_get be)) (.inl ⟨_, _, rfl, rfl, _, rfl, md, _, rfl, M1.get.2.2.1, _, rfl, er, _, _, b, rfl, rfl, M1.her, Evl.ixN_nat (by rw [iv_len]; exact be), ?_⟩)⟩
      have es : (IV s.er).set b (V.int (s.er.getD b 0 + 1)) = IV (s.er.set b (s.er.getD b 0 + 1)) := List.map_set.symm
      rw [es]
      have M2 : Mi K (upd H1 er (.lst (IV (s.er.set b (s.er.getD b 0 + 1))))) md sh er pd (s.c.ops + 1) [s.c.blocks, s.c.pages, s.c.bad] (s.er.set b (s.er.getD b 0 + 1)) kvs :=
        ⟨by rw [upd_ne (ne_of M1.hmd M1.her (fun z => by cases z))]; exact M1.hmd, by rw [upd_ne hM.ne]; exact M1.hsh, upd_same, by rw [upd_ne (ne_of M1.hpd M1.her (fun z => by cases z))]; exact M1.hpd⟩
      have k2 : ∀ y o, y ≠ md → y ≠ er → y ≠ pd → H y = some o → (upd H1 er (.lst (IV (s.er.set b (s.er.getD b 0 + 1))))) y = some o := fun y o n1 n2 n3 hy => by rw [upd_ne n2]; exact k1 y o n1 hy
      generalize upd H1 er (.lst (IV (s.er.set b (s.er.getD b 0 + 1)))) = H2 at M2 k2 ⊢
      have hP : (s.c.pages.toNat : Int) = s.c.pages := by omega
      refine ⟨_, rfl, md, _, rfl, M2.get.1, Sv.ix (x := .non) (Sv.lst M2.hsh) (i := 1) rfl ⟨s.c.pages, rfl, by omega, by omega, ?_⟩⟩
      refine for_range (lo := 0) (n := s.c.pages.toNat) (fun i σ H' => i ≤ s.c.pages.toNat ∧ ∃ (v5 : Option V) (kvi : List (List Key × V)), σ = [some (.ref md), some (.str Kn.erase.s), some (.int (b : Int)), some u, some x, v5, none, none] ∧ Mi K H' md sh er pd (s.c.ops + 1) [s.c.blocks, s.c.pages, s.c.bad] (s.er.set b (s.er.getD b 0 + 1)) kvi ∧
          (kvi.length ≤ kvs.length + i) ∧ (∀ y o, y ≠ md → y ≠ er → y ≠ pd → H y = some o → H' y = some o) ∧ (∀ j, j < i → ∃ t, valV kvi (kP b j) = some (.ref t) ∧ H' t = some (.tup (IV (List.replicate 31 255)))) ∧ (∀ b' j, (b' ≠ b ∨ i ≤ j) → valV kvi (kP b' j) = valV kvs (kP b' j)))
        ⟨by omega, _, kvs, rfl, M2, by omega, k2, fun j hj => by omega, fun _ _ _ => rfl⟩ ?_ ?_
      · rintro i σ H3 hi ⟨_, v5, kvi, rfl, M3, l3, k3, a3, o3⟩
        have ez : (0 : Int) + (i : Int) = (i : Int) := Int.zero_add _
        rw [ez]
        refine clean_te fun t H4 nt e4 ht => ⟨_, rfl, md, _, rfl, (M3.ex e4).get.2.2.2, _, rfl, _, rfl, by show 2 ≤ sizeLine; decide, fun z nz => ?_⟩
        have y := Evl.Ex.new (o := .tup [V.int (b : Int), .int (i : Int)]) nz
        have M5 := (M3.ex e4).ex y
        have lk := hM.len
        have lf := hM.few
        refine ⟨pd, _, rfl, DPut.t (k := kP b i) M5.hpd upd_same (Evl.sz_lt (by omega)), ?_⟩
        have t5 := y _ _ ht
        have E5 := e4.trans y
        generalize upd H4 z (.tup [V.int (b : Int), .int (i : Int)]) = H5 at M5 t5 E5 ⊢
        have tpd : ∀ {a : Addr} {xs : List V}, H5 a = some (.tup xs) → upd H5 pd (.dT (putK kvi (kP b i) (.ref t))) a = some (.tup xs) := fun ha => by
          rw [upd_ne (ne_of ha M5.hpd (fun z => by cases z))]
          exact ha
        refine ⟨by omega, _, putK kvi (kP b i) (.ref t), rfl, ⟨by rw [upd_ne (ne_of M5.hmd M5.hpd (fun z => by cases z))]; exact M5.hmd, by rw [upd_ne (ne_of M5.hsh M5.hpd (fun z => by cases z))]; exact M5.hsh, by rw [upd_ne (ne_of M5.her M5.hpd (fun z => by cases z))]; exact M5.her, upd_same⟩, ?_, fun y' o n1 n2 n3 hy => by rw [upd_ne n3]; exact E5 _ _ (k3 y' o n1 n2 n3 hy), fun j hj => ?_, fun b' j hbj => ?_⟩
        · have := length_putK kvi (kP b i) (V.ref t)
          omega
        · by_cases e : j = i
          · subst e
            exact ⟨t, by rw [valV_put, if_pos rfl], tpd t5⟩
          · obtain ⟨t', g1, g2⟩ := a3 j (by omega)
            exact ⟨t', by rw [valV_put, if_neg (fun z => e (kP_inj z).2)]; exact g1, tpd (E5 _ _ g2)⟩
        · rw [valV_put, if_neg (fun z => by have := kP_inj z; omega)]
          exact o3 b' j (by omega)
      · rintro σ H3 ⟨_, v5, kvi, rfl, M3, l3, k3, a3, o3⟩
        refine q kvi H3 k3 fun nw => ?_
        have lk := hM.len
        have lf := hM.few
        have on := hO b hb
        refine ⟨M3.hmd, M3.hsh, M3.her, M3.hpd, ?_, ⟨?_, ?_⟩, hM.ne, fun n hn => ?_, fun b' p hb' hp hv => ?_, fun b' p hb' hp v hv => ?_⟩
        · show (kvi.length : Int) ≤ 16 * (s.c.ops + 1)
          omega
        · show 0 ≤ s.c.ops + 1
          omega
        · show s.c.ops + 1 ≤ 1000
          omega
        · show 0 ≤ n ∧ n ≤ s.c.ops + 1
          have hn : n ∈ s.er.set b (s.er.getD b 0 + 1) := hn
          have ev := hM.ev (s.er.getD b 0) (List.mem_of_getElem? (getD_get be))
          rcases List.mem_or_eq_of_mem_set hn with z | z
          · have := hM.ev n z
            omega
          · omega
        · have hb' : b' < (s.os.set b (List.replicate (31 * s.c.pages.toNat) 255)).length := hb'
          rw [List.length_set] at hb'
          have hp : (p : Int) < s.c.pages := hp
          show pgL ((s.os.set b (List.replicate (31 * s.c.pages.toNat) 255)).getD b' []) p = _
          rw [getD_set _ _ _ _ _ hb]
          by_cases e : b' = b
          · rw [if_pos e]
            exact pg_clean _ _ (by omega)
          · rw [if_neg e]
            rw [o3 b' p (.inl e)] at hv
            exact hM.no b' p hb' hp hv
        · have hb' : b' < (s.os.set b (List.replicate (31 * s.c.pages.toNat) 255)).length := hb'
          rw [List.length_set] at hb'
          have hp : (p : Int) < s.c.pages := hp
          show ∃ t, v = .ref t ∧ H3 t = some (.tup (IV (pgL ((s.os.set b (List.replicate (31 * s.c.pages.toNat) 255)).getD b' []) p)))
          rw [getD_set _ _ _ _ _ hb]
          by_cases e : b' = b
          · rw [if_pos e, pg_clean _ _ (by omega)]
            subst e
            obtain ⟨t, g1, g2⟩ := a3 p (by omega)
            rw [g1] at hv
            cases hv
            exact ⟨t, rfl, g2⟩
          · rw [if_neg e]
            rw [o3 b' p (.inl e)] at hv
            obtain ⟨t, g1, g2⟩ := hM.at_ b' p hb' hp v hv
            exact ⟨t, g1, k3 _ _ (ne_of g2 hM.hmd (fun z => by cases z)) (ne_of g2 hM.her (fun z => by cases z)) (ne_of g2 hM.hpd (fun z => by cases z)) g2⟩
    | write =>
      obtain ⟨p, wa, ws, t, rfl, hp, rfl, S, ow, lw, kS, q⟩ := q
      refine ⟨_, rfl, .inl ⟨rfl, _, rfl, ?_⟩⟩
      rw [decide_eq_false (show ¬ V.str Kn.write.s = V.str "read" from by decide)]
      refine iteF ⟨_, rfl, .inl ⟨rfl, _, rfl, ?_⟩⟩
      rw [decide_eq_false (show ¬ V.str Kn.write.s = V.str "erases" from by decide)]
      refine iteF ⟨_, rfl, md, _, rfl, (getM hM).2.1, .inl ⟨_, _, rfl, rfl, _, rfl, md, _, rfl, DPut.k (k := Sum.inr "ops") hM.hmd (by show 4 < sizeLine; decide), ?_⟩⟩
      rw [putM_ops]
      obtain ⟨M1, k1⟩ := first_M hM
      generalize upd H md (.dK (mdL (s.c.ops + 1) sh er pd)) = H1 at M1 k1 ⊢
      refine ⟨_, rfl, .inl ⟨rfl, _, rfl, ?_⟩⟩
      rw [decide_eq_false (show ¬ V.str Kn.write.s = V.str "erase" from by decide)]
      have lk := hM.len
      have lf := hM.few
      have on := hO b hb
      have N1 : Mo K H1 { s with c := { s.c with ops := s.c.ops + 1 } } md sh er pd kvs := by
        refine ⟨M1.hmd, M1.hsh, M1.her, M1.hpd, ?_, ⟨?_, ?_⟩, hM.ne, fun n hn => ?_, hM.no, fun b' p hb' hp v hv => ?_⟩
        · show (kvs.length : Int) ≤ 16 * (s.c.ops + 1)
          omega
        · show 0 ≤ s.c.ops + 1
          omega
        · show s.c.ops + 1 ≤ 1000
          omega
        · show 0 ≤ n ∧ n ≤ s.c.ops + 1
          have := hM.ev n hn
          omega
        · obtain ⟨t, g1, g2⟩ := hM.at_ b' p hb' hp v hv
          exact ⟨t, g1, k1 _ _ (ne_of g2 hM.hmd (fun z => by cases z)) g2⟩
      refine iteF ⟨_, rfl, _, rfl, _, rfl, { s with c := { s.c with ops := s.c.ops + 1 } }, md, sh, er, pd, kvs, b, p, rfl, N1, hb, hp, fun o H2 e2 h2 => ?_⟩
      have M2 := M1.ex e2
      have h2 : H2 o = some (.tup (IV (pgL (s.os.getD b []) p))) := h2
      have k2 : ∀ y o', y ≠ md → y ≠ er → y ≠ pd → H y = some o' → H2 y = some o' := fun y o' n1 n2 n3 hy => e2 _ _ (k1 y o' n1 hy)
      have S2 := kS H2 k2
      have lO := pgL_len on.2 (show p < s.c.pages.toNat by omega)
      have oO : Oct (pgL (s.os.getD b []) p) := pgL_oct on.1
      have lB := both_len (f := Builtin.bitAnd) (xs := pgL (s.os.getD b []) p) (ys := ws) (by rw [lO, lw])
      refine ⟨31, rfl, by omega, by omega, fun D hD => ?_⟩
      refine lc_pureR (us := both Builtin.bitAnd (pgL (s.os.getD b []) p) ws) (n := 31) (by rw [lB, lO]) (by omega) hD (fun _ => rfl) ?_ ?_
      · intro i z H' Q' hz ex k'
        obtain ⟨m, n, hm, hn, rfl⟩ := both_get hz
        exact ⟨_, rfl, _, rfl, Sv.ix (x := .non) (Sv.tup (ex _ _ h2)) (i := (i : Int)) (iv_at hm) ⟨_, rfl, _, rfl, Sv.ix (x := .non) (S2.ex ex) (i := (i : Int)) (iv_at hn) ⟨_, _, rfl, rfl, k' H' (Evl.Ex.refl _)⟩⟩⟩
      intro H3 e3 h3
      refine ⟨D, _, rfl, .inl ⟨SqL.of h3, fun l nl => ?_⟩⟩
      have yl := Evl.Ex.new (o := .tup (IV (both Builtin.bitAnd (pgL (s.os.getD b []) p) ws))) nl
      have hl := upd_same (H := H3) (a := l) (o := .tup (IV (both Builtin.bitAnd (pgL (s.os.getD b []) p) ws)))
      have M3 := (M2.ex e3).ex yl
      have E3 := e3.trans yl
      generalize upd H3 l (.tup (IV (both Builtin.bitAnd (pgL (s.os.getD b []) p) ws))) = H4 at M3 hl E3 ⊢
      refine ⟨_, rfl, md, _, rfl, M3.get.2.2.2, _, rfl, _, rfl, by show 2 ≤ sizeLine; decide, fun z nz => ?_⟩
      have y := Evl.Ex.new (o := .tup [V.int (b : Int), .int (p : Int)]) nz
      have M5 := M3.ex y
      refine ⟨pd, _, rfl, DPut.t (k := kP b p) M5.hpd upd_same (Evl.sz_lt (by omega)), ?_⟩
      have l5 := y _ _ hl
      have E5 := E3.trans y
      generalize upd H4 z (.tup [V.int (b : Int), .int (p : Int)]) = H5 at M5 l5 E5 ⊢
      have tpd : ∀ {a : Addr} {xs : List V}, H5 a = some (.tup xs) → upd H5 pd (.dT (putK kvs (kP b p) (.ref l))) a = some (.tup xs) := fun ha => by
        rw [upd_ne (ne_of ha M5.hpd (fun z => by cases z))]
        exact ha
      have k5 : ∀ y o', y ≠ md → y ≠ er → y ≠ pd → H y = some o' → (upd H5 pd (.dT (putK kvs (kP b p) (.ref l)))) y = some o' := fun y o' n1 n2 n3 hy => by
        rw [upd_ne n3]
        exact E5 _ _ (k2 y o' n1 n2 n3 hy)
      refine q (putK kvs (kP b p) (.ref l)) _ k5 fun nw => ?_
      have pn : p < s.c.pages.toNat := by omega
      refine ⟨by rw [upd_ne (ne_of M5.hmd M5.hpd (fun z => by cases z))]; exact M5.hmd, by rw [upd_ne (ne_of M5.hsh M5.hpd (fun z => by cases z))]; exact M5.hsh, by rw [upd_ne (ne_of M5.her M5.hpd (fun z => by cases z))]; exact M5.her, upd_same, ?_, ⟨?_, ?_⟩, hM.ne, N1.ev, fun b' j hb' hj hv => ?_, fun b' j hb' hj v hv => ?_⟩
      · show ((putK kvs (kP b p) (V.ref l)).length : Int) ≤ 16 * (s.c.ops + 1)
        have := length_putK kvs (kP b p) (V.ref l)
        omega
      · show 0 ≤ s.c.ops + 1
        omega
      · show s.c.ops + 1 ≤ 1000
        omega
      · have hb' : b' < (s.os.set b (wrote (s.os.getD b []) ws p)).length := hb'
        rw [List.length_set] at hb'
        have hj : (j : Int) < s.c.pages := hj
        show pgL ((s.os.set b (wrote (s.os.getD b []) ws p)).getD b' []) j = _
        rw [getD_set _ _ _ _ _ hb]
        have ne : kP b' j ≠ kP b p := fun z => by rw [z, valV_put, if_pos rfl] at hv; cases hv
        rw [valV_put, if_neg ne] at hv
        by_cases e : b' = b
        · rw [if_pos e, pg_other on.2 lw pn (fun z => ne (by rw [e, z])), ← e]
          exact hM.no b' j hb' hj hv
        · rw [if_neg e]
          exact hM.no b' j hb' hj hv
      · have hb' : b' < (s.os.set b (wrote (s.os.getD b []) ws p)).length := hb'
        rw [List.length_set] at hb'
        have hj : (j : Int) < s.c.pages := hj
        show ∃ t, v = .ref t ∧ upd H5 pd (.dT (putK kvs (kP b p) (.ref l))) t = some (.tup (IV (pgL ((s.os.set b (wrote (s.os.getD b []) ws p)).getD b' []) j)))
        rw [getD_set _ _ _ _ _ hb]
        rw [valV_put] at hv
        have old : valV kvs (kP b' j) = some v → ∃ t, v = .ref t ∧ upd H5 pd (.dT (putK kvs (kP b p) (.ref l))) t = some (.tup (IV (pgL (s.os.getD b' []) j))) := fun hv => by
          obtain ⟨t, g1, g2⟩ := hM.at_ b' j hb' hj v hv
          exact ⟨t, g1, k5 _ _ (ne_of g2 hM.hmd (fun z => by cases z)) (ne_of g2 hM.her (fun z => by cases z)) (ne_of g2 hM.hpd (fun z => by cases z)) g2⟩
        by_cases ek : kP b' j = kP b p
        · rw [if_pos ek] at hv
          cases hv
          obtain ⟨e1, e2⟩ := kP_inj ek
          rw [if_pos e1, e2, pg_same on.2 lw pn]
          exact ⟨l, rfl, tpd l5⟩
        · rw [if_neg ek] at hv
          by_cases e : b' = b
          · have hj' : j ≠ p := fun z => ek (by rw [e, z])
            subst e
            rw [if_pos rfl, pg_other on.2 lw pn hj']
            exact old hv
          · rw [if_neg e]
            exact old hv
end
end K3
namespace K3
open PySem PySem.Spec PyProof.Rows L2 VB BM
theorem flat_nat {i : Nat} (h : i < 1000) : Flat (.int (i : Int)) := .int _ (Nat.lt_of_lt_of_le (show ((i : Int)).natAbs < 1000 by omega) (by decide))
section
variable {P : Program} {w : World} {K : PySem.W.Frag} {mg : Str → Option Value} {base : Heap} {f : Addr} {fd : FuncData}
def spCnt (K : PySem.W.Frag) : Sp := fun vs H Q _ => ∃ (ch dx : Addr) (s : CS) (md sh er pd : Addr) (kvs : List (List Key × V)), vs = [.ref ch, .ref md] ∧ ChipAt K H ch dx s ∧ Plain s ∧ Mo K H s md sh er pd kvs ∧ RV (.bl true) H Q
theorem ok_counts (T : Txt K mg) (TC : TxC K) (F : FnP K "_law_counts_right" s__law_counts_right f fd) (M_Chip__erases : CalM P w K mg base (CX P w) 4 (Ch K) "erases" ["self", "block"] (spErases K)) : Fg P w K mg base CX0 5 f fd ["_law_chip", "_law_model"] (spCnt K) := by
  refine fg_of F sc__law_counts_right (fun vs H Q E h => ?_) (fun cdv A outer s₀ H vs Q E hr h => ⟨_, (PSs.nox (pss_cons (ps_set (i := 2) sc__law_counts_right.nd rfl (by first | exact Or.inl rfl | exact Or.inr rfl) (pe_lst (pa_cons (pe_fldU (K := K) (pv 0) rfl) (pa_cons (pe_fldU (K := K) (pv 0) rfl) (pa_cons (pe_fldU (K := K) (pv 0) rfl) (pa_cons (pe_fldU (K := K) (pv 0) rfl) (pa_cons (pe_fldU (K := K) (pv 0) rfl) pa_nil)))))))
  (pss_cons (ps_if (pt_cmpR (u_ne (K := K) hr) (pe_callB (u_reprA (K := K) hr) (by rfl) T.f_repr (by decide +kernel) (pa_cons (pv 2) pa_nil)) (pe_callB (u_reprA (K := K) hr) (by rfl) T.f_repr (by decide +kernel) (pa_cons (pe_op (u_add (K := K)) (pe_dget (Nat.lt_of_le_of_lt (Nat.add_le_add_left (by decide : 1 ≤ 64) _) hr.rm.units) (pv 1) pe_str (fun _ _ => rfl)) (pe_lst (pa_cons (pe_dget (Nat.lt_of_le_of_lt (Nat.add_le_add_left (by decide : 1 ≤ 64) _) hr.rm.units) (pv 1) pe_str (fun _ _ => rfl)) (pa_cons pe_int pa_nil)))) pa_nil)) (nomark _))
  (pss_one (ps_ret pe_bl)) pss_nil)
  (pss_one (ps_ret (pe_cmpR (u_eq (K := K) hr) (pe_callB (u_reprA (K := K) hr) (by rfl) T.f_repr (by decide +kernel) (pa_cons (pe_lc (own := [("_law_block", 3)]) rfl sc__law_counts_right.nd (pi_range1 rfl T.f_range (pa_cons (pe_ix (u_ix (K := K)) (pe_dget (Nat.lt_of_le_of_lt (Nat.add_le_add_left (by decide : 1 ≤ 64) _) hr.rm.units) (pv 1) pe_str (fun _ _ => rfl)) pe_int (fun _ _ => rfl)) pa_nil)) (blkOk_by (own := [("_law_block", 3)]) (N := ["_law_chip", "_law_model", "_law_told", "_law_block"]) (sc := defScope s__law_counts_right) (by decide +kernel)) (fun _ _ _ _ _ => (pg_name (i := 3) sc__law_counts_right.nd rfl (by first | exact Or.inl rfl | exact Or.inr rfl))) (fun _ _ _ _ _ => pts_nil) (fun _ _ _ _ _ => (pe_calM M_Chip__erases hr.le (passes_call takes_no (fun _ _ _ _ h => h)) (pv 0) (pa_cons (pv 3) pa_nil)))) pa_nil)) (pe_callB (u_reprA (K := K) hr) (by rfl) T.f_repr (by decide +kernel) (pa_cons (pe_dget (Nat.lt_of_le_of_lt (Nat.add_le_add_left (by decide : 1 ≤ 64) _) hr.rm.units) (pv 1) pe_str (fun _ _ => rfl)) pa_nil)) (nomark _))))))), ?_⟩)
  · obtain ⟨ch, dx, s, md, sh, er, pd, kvs, rfl, _⟩ := h
    rfl
  · obtain ⟨ch, dx, s, md, sh, er, pd, kvs, rfl, hc, pl, hM, q⟩ := h
    have b8 := hc.b8
    have nb := hc.nb
    have ne := hc.ne
    have g8 := hc.g8
    have lf := hM.few
    have bd := pl.bd
    have cu := pl.cuts
    refine ⟨_, rfl, ch, _, dx, _, _, rfl, hc.ins, TC.cls, TC.no _ (by simp), rfl, _, rfl, ch, _, dx, _, _, rfl, hc.ins, TC.cls, TC.no _ (by simp), rfl, _, rfl, ch, _, dx, _, _, rfl, hc.ins, TC.cls, TC.no _ (by simp), rfl, _, rfl, ch, _, dx, _, _, rfl, hc.ins, TC.cls, TC.no _ (by simp), rfl, _, rfl, ch, _, dx, _, _, rfl, hc.ins, TC.cls, TC.no _ (by simp), rfl, by show 5 ≤ sizeLine; decide, fun l nl => ?_⟩
    have x0 := Evl.Ex.new (o := .lst (IV [s.c.blocks, s.c.pages, s.c.bad, s.c.ops, s.c.cuts])) nl
    have h0 := upd_same (H := H) (a := l) (o := .lst (IV [s.c.blocks, s.c.pages, s.c.bad, s.c.ops, s.c.cuts]))
    have sm : Sm [s.c.blocks, s.c.pages, s.c.bad, s.c.ops, s.c.cuts] := fun n hn => by
      simp only [List.mem_cons, List.not_mem_nil, or_false] at hn
      omega
    show tSeq _ _ _ _ (upd H l (.lst (IV [s.c.blocks, s.c.pages, s.c.bad, s.c.ops, s.c.cuts])))
    generalize upd H l (.lst (IV [s.c.blocks, s.c.pages, s.c.bad, s.c.ops, s.c.cuts])) = H1 at x0 h0 ⊢
    refine ⟨_, rfl, rpD (dp_l (SqL.of h0)) (sh_l sm (by show 5 ≤ 6000; decide)) ⟨_, rfl, md, _, rfl, (getM (hM.ex x0)).1, _, rfl, md, _, rfl, (getM (hM.ex x0)).2.1, by show 2 ≤ sizeLine; decide, fun l2 nl2 => ?_⟩⟩
    have x2 := Evl.Ex.new (o := .lst (IV [s.c.ops, 0])) nl2
    refine cat_l (xs := [s.c.blocks, s.c.pages, s.c.bad]) (ys := [s.c.ops, 0]) (x2 _ _ (x0 _ _ hM.hsh)) upd_same (by show 3 + 2 ≤ 10000; decide) fun l3 nl3 => ?_
    have x3 := Evl.Ex.new (o := .lst (IV ([s.c.blocks, s.c.pages, s.c.bad] ++ [s.c.ops, 0]))) nl3
    have X : Evl.Ex H (upd (upd H1 l2 (.lst (IV [s.c.ops, 0]))) l3 (.lst (IV ([s.c.blocks, s.c.pages, s.c.bad] ++ [s.c.ops, 0])))) := (x0.trans x2).trans x3
    have e5 : [s.c.blocks, s.c.pages, s.c.bad, s.c.ops, s.c.cuts] = [s.c.blocks, s.c.pages, s.c.bad] ++ [s.c.ops, 0] := by rw [cu]; rfl
    refine rpD (dp_l (SqL.of upd_same)) (sh_l (by rw [← e5]; exact sm) (by show 5 ≤ 6000; decide)) (.inl ⟨rfl, _, rfl, ?_⟩)
    rw [e5]
    refine same_ne ?_
    show tNext _ _ (upd (upd H1 l2 (.lst (IV [s.c.ops, 0]))) l3 (.lst (IV ([s.c.blocks, s.c.pages, s.c.bad] ++ [s.c.ops, 0]))))
    generalize upd (upd H1 l2 (.lst (IV [s.c.ops, 0]))) l3 (.lst (IV ([s.c.blocks, s.c.pages, s.c.bad] ++ [s.c.ops, 0]))) = H2 at X ⊢
    have c2 := hc.ex X
    have m2 := hM.ex X
    have nn : s.c.blocks.toNat = s.os.length := by omega
    refine ⟨_, rfl, md, _, rfl, (getM m2).1, Sv.ix (x := .non) (Sv.lst m2.hsh) (i := 0) rfl ⟨s.c.blocks, rfl, by omega, by omega, fun D hD => ?_⟩⟩
    rw [nn]
    have smE : Sm s.er := fun n hn => by have := hM.ev n hn; omega
    refine lc_range (lo := 0) (n := s.os.length) (fun i H' => i ≤ s.os.length ∧ Evl.Ex H2 H' ∧ H' D = some (.lst (IV (s.er.take i)))) ⟨by omega, Evl.Ex.new hD, upd_same⟩ ?_ ?_
    · rintro i H3 hi ⟨_, e3, h3⟩
      have ez : (0 : Int) + (i : Int) = (i : Int) := Int.zero_add _
      rw [ez]
      have ie : i < s.er.length := by omega
      have iv : isIx (.int (i : Int)) 0 (s.c.blocks - 1) = true := isIx_int (by omega) (by omega)
      refine ⟨rfl, _, rfl, ch, dx, _, rfl, e3 _ _ c2.ins, rfl, _, rfl, ch, dx, s, .int (i : Int), rfl, c2.ex e3, .flat (flat_nat (by omega)), (fun (z : isIx (.int (i : Int)) 0 (s.c.blocks - 1) = false) => by rw [iv] at z; cases z), fun b hb hl H4 e4 => ?_⟩
      have hb : b = i := by
        have := V.int.inj hb
        omega
      subst hb
      refine ⟨_, e4 _ _ h3, by rw [iv_len, List.length_take]; exact Evl.sz_lt (by omega), by omega, Evl.Ex.mut (e3.trans e4) hD, ?_⟩
      rw [upd_same, iv_snoc, take_snoc (getD_get ie)]
    · rintro H3 ⟨_, e3, h3⟩
      rw [← ne, List.take_length] at h3
      refine rpD (dp_l (SqL.of h3)) (sh_l smE (by omega)) ⟨_, rfl, md, _, rfl, (getM (m2.ex e3)).2.2.1, rpD (dp_l (SqL.of (e3 _ _ m2.her))) (sh_l smE (by omega)) (.inl ⟨rfl, ?_⟩)⟩
      rw [decide_eq_true rfl]
      exact q _ (X.trans e3)
end
end K3
namespace K3
open PySem PySem.Spec PyProof.Rows L2 VB BM
abbrev gW : List Value → List Value → List Value := fun us ws => [us.getD 0 .none, ws.getD 1 .none, ws.getD 2 .none, ws.getD 0 .none]
abbrev gWV : List V → List V → List V := fun us ws => [us.getD 0 .non, ws.getD 1 .non, ws.getD 2 .non, ws.getD 0 .non]
abbrev gE : List Value → List Value → List Value := fun us ws => [us.getD 0 .none, ws.getD 0 .none]
abbrev gEV : List V → List V → List V := fun us ws => [us.getD 0 .non, ws.getD 0 .non]
abbrev gR : List Value → List Value → List Value := fun us ws => [us.getD 0 .none, ws.getD 1 .none, ws.getD 0 .none]
abbrev gRV : List V → List V → List V := fun us ws => [us.getD 0 .non, ws.getD 1 .non, ws.getD 0 .non]
section
variable {P : Program} {w : World} {K : PySem.W.Frag} {mg : Str → Option Value} {base : Heap} {f : Addr} {fd : FuncData}
abbrev hdX (K : PySem.W.Frag) (x wd : Str) : Addr → Value → Option Addr → TS := fun a cls d => tRet (tLst (tCons (tC (V.str wd)) (tCons (tXf a cls d (Er K x) "given" (tVar 6)) tNil)))
abbrev hds3 (K : PySem.W.Frag) : List (Value × (Addr → Value → Option Addr → TS)) := [(.ref (Er K "InvalidBlock"), hdX K "InvalidBlock" "block"), (.ref (Er K "InvalidPage"), hdX K "InvalidPage" "page"), (.ref (Er K "InvalidOctets"), hdX K "InvalidOctets" "octets")]
/-- what the clauses ask of an error that comes -/
abbrev Wd (K : PySem.W.Frag) (Q : VK) (σ : L2.St) : XK := WE (wManyAs K 6 (fun _ _ _ _ => False) { nx := fun _ H' => Q V.non H', rt := Q } (hds3 K)) σ
section
variable {H : Hp} {Q : VK} {v0 v1 v2 v3 v4 v5 : Option V} {y : V}
theorem hd_run {d : Addr} {H1 : Hp} {x wd : Str} {D : Ends} (hD : D.rt = Q) (e1 : Evl.Ex H H1) (nd : H1 d = none) (q : RL [.str wd, y] H Q) (a : Addr) : hdX K x wd a (.ref (Er K x)) (some d) { nx := fun σ' H' => D.nx (σ'.set 6 none) H', rt := D.rt, bk := fun σ' H' => D.bk (σ'.set 6 none) H', ct := fun σ' H' => D.ct (σ'.set 6 none) H' } (([v0, v1, v2, v3, v4, v5, none] : L2.St).set 6 (some (.ref a))) (upd H1 d (.xd [("given", y)])) := by
  have e2 := e1.trans (Evl.Ex.new (o := .xd [("given", y)]) nd)
  refine ⟨_, rfl, rfl, rfl, d, _, _, rfl, upd_same, rfl, by show 2 ≤ sizeLine; decide, fun l nl => ?_⟩
  show D.rt (.ref l) _
  rw [hD]
  exact q l _ (Evl.fresh_back e2 nl) (e2.trans (Evl.Ex.new nl)) upd_same
theorem caught_B (xBB : PySem.W.exmOne K (.ref (Er K "InvalidBlock")) (.ref (Er K "InvalidBlock")) = some true) (q : RL [.str "block", y] H Q) : Fl K "InvalidBlock" y H (Wd K Q [v0, v1, v2, v3, v4, v5, none]) := fun d H1 e1 nd =>
  ⟨true, xBB, fun _ a _ => hd_run rfl e1 nd q a, fun (z : true = false) => nomatch z⟩
theorem caught_P (xPB : PySem.W.exmOne K (.ref (Er K "InvalidPage")) (.ref (Er K "InvalidBlock")) = some false) (xPP : PySem.W.exmOne K (.ref (Er K "InvalidPage")) (.ref (Er K "InvalidPage")) = some true) (q : RL [.str "page", y] H Q) : Fl K "InvalidPage" y H (Wd K Q [v0, v1, v2, v3, v4, v5, none]) := fun d H1 e1 nd =>
  ⟨false, xPB, (fun (z : false = true) => (nomatch z)), fun _ => ⟨true, xPP, fun _ a _ => hd_run rfl e1 nd q a, fun (z : true = false) => nomatch z⟩⟩
theorem caught_O (xOB : PySem.W.exmOne K (.ref (Er K "InvalidOctets")) (.ref (Er K "InvalidBlock")) = some false) (xOP : PySem.W.exmOne K (.ref (Er K "InvalidOctets")) (.ref (Er K "InvalidPage")) = some false) (xOO : PySem.W.exmOne K (.ref (Er K "InvalidOctets")) (.ref (Er K "InvalidOctets")) = some true) (q : RL [.str "octets", y] H Q) : Fl K "InvalidOctets" y H (Wd K Q [v0, v1, v2, v3, v4, v5, none]) := fun d H1 e1 nd =>
  ⟨false, xOB, (fun (z : false = true) => (nomatch z)), fun _ => ⟨false, xOP, (fun (z : false = true) => (nomatch z)), fun _ => ⟨true, xOO, fun _ a _ => hd_run rfl e1 nd q a, fun (z : true = false) => nomatch z⟩⟩⟩
end
def spDone (K : PySem.W.Frag) : Sp := fun vs H Q _ => ∃ (ch dx : Addr) (s : CS) (k : Kn) (v u x : V) (d : Dsc) (nm : Bool), vs = [.ref ch, .str k.s, v, u, x, .bl nm] ∧ ChipAt K H ch dx s ∧ Plain s ∧ KV K H v ∧ KV K H u ∧ At K H x d ∧
  (∀ (wd : Str) (y : V), dueV k s.c.blocks s.c.pages v u x d = some (wd, y) → RL [.str wd, y] H Q) ∧
  (dueV k s.c.blocks s.c.pages v u x d = none → match k with
    | .write => ∀ (b p : Nat) (w : Addr) (ws : List Int) (t : Bool), v = .int (b : Int) → u = .int (p : Int) → b < s.os.length → (p : Int) < s.c.pages → x = .ref w → Sv t K H w (IV ws) → d = .sq t (IV ws) → Oct ws → ws.length = 31 → ∀ (nw l : Addr) (H' : Hp), Fr ch s.c H H' → ChipAt K H' ch dx (s.wr b p ws nw) → H' l = some (.lst [.str "told", .bl true]) → H l = none → Q (.ref l) H'
    | .erase => ∀ (b : Nat), v = .int (b : Int) → b < s.os.length → ∀ (nw l : Addr) (H' : Hp), Fr ch s.c H H' → ChipAt K H' ch dx (s.clean b nw) → H' l = some (.lst [.str "told", .bl true]) → H l = none → Q (.ref l) H'
    | .read => ∀ (b p : Nat), v = .int (b : Int) → u = .int (p : Int) → b < s.os.length → (p : Int) < s.c.pages → ∀ (t l : Addr) (H' : Hp), Evl.Ex H H' → H' t = some (.tup (IV (pgL (s.os.getD b []) p))) → H' l = some (.lst [.str "told", .ref t]) → H l = none → Q (.ref l) H'
    | .erases => ∀ (b : Nat), v = .int (b : Int) → b < s.os.length → RL [.str "told", .int (s.er.getD b 0)] H Q)
theorem ok_done {fB fP fO : Addr} (T : Txt K mg) (E_InvalidBlock : MkE P w K mg base "InvalidBlock" "given" (Er K "InvalidBlock") fB) (E_InvalidPage : MkE P w K mg base "InvalidPage" "given" (Er K "InvalidPage") fP) (E_InvalidOctets : MkE P w K mg base "InvalidOctets" "given" (Er K "InvalidOctets") fO)
    (xBB : PySem.W.exmOne K (.ref (Er K "InvalidBlock")) (.ref (Er K "InvalidBlock")) = some true) (xPB : PySem.W.exmOne K (.ref (Er K "InvalidPage")) (.ref (Er K "InvalidBlock")) = some false) (xPP : PySem.W.exmOne K (.ref (Er K "InvalidPage")) (.ref (Er K "InvalidPage")) = some true)
    (xOB : PySem.W.exmOne K (.ref (Er K "InvalidOctets")) (.ref (Er K "InvalidBlock")) = some false) (xOP : PySem.W.exmOne K (.ref (Er K "InvalidOctets")) (.ref (Er K "InvalidPage")) = some false) (xOO : PySem.W.exmOne K (.ref (Er K "InvalidOctets")) (.ref (Er K "InvalidOctets")) = some true)
    (F : FnP K "_law_done" s__law_done f fd)
    (M_Chip__write : CalM P w K mg base (CX P w) 8 (Ch K) "write" ["self", "block", "page", "octets"] (spWr K)) (M_Chip__erase : CalM P w K mg base (CX P w) 8 (Ch K) "erase" ["self", "block"] (spEr K)) (M_Chip__erases : CalM P w K mg base (CX P w) 4 (Ch K) "erases" ["self", "block"] (spErases K)) (M_Chip__read : CalM P w K mg base (CX P w) 4 (Ch K) "read" ["self", "block", "page"] (spRead K))
    (MK_Chip__write : CalMK P w K mg base (CX P w) 8 (Ch K) "write" ["self", "block", "page", "octets"] 1 ["octets", "block", "page"] gW gWV (spWr K)) (MK_Chip__erase : CalMK P w K mg base (CX P w) 8 (Ch K) "erase" ["self", "block"] 1 ["block"] gE gEV (spEr K))
    (MK_Chip__erases : CalMK P w K mg base (CX P w) 4 (Ch K) "erases" ["self", "block"] 1 ["block"] gE gEV (spErases K)) (MK_Chip__read : CalMK P w K mg base (CX P w) 4 (Ch K) "read" ["self", "block", "page"] 1 ["page", "block"] gR gRV (spRead K)) :
    Fg P w K mg base CX0 9 f fd ["_law_chip", "_law_kind", "_law_block", "_law_page_here", "_law_octets", "_law_named"] (spDone K) := by
  refine fg_of F sc__law_done (fun vs H Q E h => ?_) (fun cdv A outer s₀ H vs Q E hr h => ⟨_, (pss_one (ps_try_manyAs (i := 6) rfl rfl sc__law_done.nd rfl rfl takes_no
    (fun W pn xe tk pa => (pss_cons (ps_if (PW.pt (pw_and (pt_cmpR (u_eq (K := K) hr) (pv 1) pe_str (nomark _)) (pw_and1 (pt_tru (K := K) (pv 5) (by intro _; rfl)))))
        (pss_one (ps_ret (pe_lst (pa_cons pe_str (pa_cons (pe_calMkS MK_Chip__write hr.le (passAt tk) (pv 0) (pk_cons (pv 4) (pk_cons (pv 2) (pk_cons (pv 3) pk_nil)))) pa_nil))))) pss_nil)
      (pss_cons (ps_if (pt_cmpR (u_eq (K := K) hr) (pv 1) pe_str (nomark _))
        (pss_one (ps_ret (pe_lst (pa_cons pe_str (pa_cons (pe_calMS M_Chip__write hr.le (passAt tk) (pv 0) (pa_cons (pv 2) (pa_cons (pv 3) (pa_cons (pv 4) pa_nil)))) pa_nil))))) pss_nil)
      (pss_cons (ps_if (pt_cmpR (u_eq (K := K) hr) (pv 1) pe_str (nomark _))
        (pss_one (ps_ret (pe_lst (pa_cons pe_str (pa_cons (pe_ifExp (pt_tru (K := K) (pv 5) (by intro _; rfl)) (pe_calMkS MK_Chip__erase hr.le (passAt tk) (pv 0) (pk_cons (pv 2) pk_nil)) (pe_calMS M_Chip__erase hr.le (passAt tk) (pv 0) (pa_cons (pv 2) pa_nil))) pa_nil))))) pss_nil)
      (pss_cons (ps_if (pt_cmpR (u_eq (K := K) hr) (pv 1) pe_str (nomark _))
        (pss_one (ps_ret (pe_lst (pa_cons pe_str (pa_cons (pe_ifExp (pt_tru (K := K) (pv 5) (by intro _; rfl)) (pe_calMkS MK_Chip__erases hr.le (passAt tk) (pv 0) (pk_cons (pv 2) pk_nil)) (pe_calMS M_Chip__erases hr.le (passAt tk) (pv 0) (pa_cons (pv 2) pa_nil))) pa_nil))))) pss_nil)
      (pss_one (ps_ret (pe_lst (pa_cons pe_str (pa_cons (pe_ifExp (pt_tru (K := K) (pv 5) (by intro _; rfl)) (pe_calMkS MK_Chip__read hr.le (passAt tk) (pv 0) (pk_cons (pv 3) (pk_cons (pv 2) pk_nil))) (pe_calMS M_Chip__read hr.le (passAt tk) (pv 0) (pa_cons (pv 2) (pa_cons (pv 3) pa_nil)))) pa_nil))))))))))
    (.cons (c := .ref (Er K "InvalidBlock")) ⟨rfl, by decide, .inl E_InvalidBlock.err.gC⟩ (fun a oe cls d pn hz hv => pss_one (ps_ret (pe_lst (pa_cons pe_str (pa_cons (pe_xf E_InvalidBlock.err.xf E_InvalidBlock.err.noG hz hv (pv 6)) pa_nil)))))
    (.cons (c := .ref (Er K "InvalidPage")) ⟨rfl, by decide, .inl E_InvalidPage.err.gC⟩ (fun a oe cls d pn hz hv => pss_one (ps_ret (pe_lst (pa_cons pe_str (pa_cons (pe_xf E_InvalidPage.err.xf E_InvalidPage.err.noG hz hv (pv 6)) pa_nil)))))
    (.cons (c := .ref (Er K "InvalidOctets")) ⟨rfl, by decide, .inl E_InvalidOctets.err.gC⟩ (fun a oe cls d pn hz hv => pss_one (ps_ret (pe_lst (pa_cons pe_str (pa_cons (pe_xf E_InvalidOctets.err.xf E_InvalidOctets.err.noG hz hv (pv 6)) pa_nil)))))
    .nil))))), ?_⟩)
  · obtain ⟨ch, dx, s, k, v, u, x, d, nm, rfl, _⟩ := h
    rfl
  · obtain ⟨ch, dx, s, k, v, u, x, d, nm, rfl, hc, pl, kv, ku, hx, qE, q⟩ := h
    have nb := hc.nb
    have fB : isIx v 0 (s.c.blocks - 1) = false → Fl K "InvalidBlock" v H (Wd K Q [some (.ref ch), some (.str k.s), some v, some u, some x, some (.bl nm), none]) := fun hv => caught_B xBB (qE _ _ (by unfold dueV; rw [if_pos hv]))
    have okB : ∀ {b : Nat}, v = .int (b : Int) → b < s.os.length → isIx v 0 (s.c.blocks - 1) = true := fun {b} e hb => by rw [e]; exact isIx_int (by omega) (by omega)
    have okP : ∀ {p : Nat}, u = .int (p : Int) → (p : Int) < s.c.pages → isIx u 0 (s.c.pages - 1) = true := fun {p} e hp => by rw [e]; exact isIx_int (by omega) (by omega)
    refine ⟨_, rfl, .inl ⟨rfl, _, rfl, ?_⟩⟩
    cases k with
    | write =>
      have fP : isIx v 0 (s.c.blocks - 1) = true → isIx u 0 (s.c.pages - 1) = false → Fl K "InvalidPage" u H (Wd K Q [some (.ref ch), some (.str Kn.write.s), some v, some u, some x, some (.bl nm), none]) := fun hv hu => caught_P xPB xPP (qE _ _ (by unfold dueV; rw [if_neg (by rw [hv]; simp)]; dsimp only; rw [if_pos hu]))
      have fO : isIx v 0 (s.c.blocks - 1) = true → isIx u 0 (s.c.pages - 1) = true → d.oct 31 = false → Fl K "InvalidOctets" x H (Wd K Q [some (.ref ch), some (.str Kn.write.s), some v, some u, some x, some (.bl nm), none]) := fun hv hu ho => caught_O xOB xOP xOO (qE _ _ (by unfold dueV; rw [if_neg (by rw [hv]; simp)]; dsimp only; rw [if_neg (by rw [hu]; simp), if_pos ho]))
      have non : isIx v 0 (s.c.blocks - 1) = true → isIx u 0 (s.c.pages - 1) = true → d.oct 31 = true → dueV .write s.c.blocks s.c.pages v u x d = none := fun hv hu ho => by unfold dueV; rw [if_neg (by rw [hv]; simp)]; dsimp only; rw [if_neg (by rw [hu]; simp), if_neg (by rw [ho]; simp)]
      rw [decide_eq_true (show V.str Kn.write.s = V.str "write" from rfl)]
      refine iteT ⟨_, rfl, nm, rfl, ?_⟩
      cases nm with
      | true =>
        refine iteT ⟨_, rfl, ch, dx, _, rfl, hc.ins, rfl, _, rfl, _, rfl, _, rfl, rfl, ch, dx, s, v, u, x, d, rfl, hc, pl, kv, ku, hx, fB, fP, fO, fun b p w ws t eb ep b1 p1 ho ex S ed ow lw nw H1 f1 c1 => ⟨by show 2 ≤ sizeLine; decide, fun l nl => ?_⟩⟩
        have y := Evl.Ex.new (o := .lst [V.str "told", .bl true]) nl
        exact q (non (okB eb b1) (okP ep p1) ho) b p w ws t eb ep b1 p1 ex S ed ow lw nw l _ (f1.ex y) (c1.ex y) upd_same (c1.back (show Fr ch (s.wr b p ws nw).c H H1 from f1) nl)
      | false =>
        refine iteF ⟨_, rfl, .inl ⟨rfl, _, rfl, ?_⟩⟩
        rw [decide_eq_true (show V.str Kn.write.s = V.str "write" from rfl)]
        refine iteT ⟨_, rfl, ch, dx, _, rfl, hc.ins, rfl, _, rfl, _, rfl, _, rfl, ch, dx, s, v, u, x, d, rfl, hc, pl, kv, ku, hx, fB, fP, fO, fun b p w ws t eb ep b1 p1 ho ex S ed ow lw nw H1 f1 c1 => ⟨by show 2 ≤ sizeLine; decide, fun l nl => ?_⟩⟩
        have y := Evl.Ex.new (o := .lst [V.str "told", .bl true]) nl
        exact q (non (okB eb b1) (okP ep p1) ho) b p w ws t eb ep b1 p1 ex S ed ow lw nw l _ (f1.ex y) (c1.ex y) upd_same (c1.back (show Fr ch (s.wr b p ws nw).c H H1 from f1) nl)
    | erase =>
      have non : isIx v 0 (s.c.blocks - 1) = true → dueV .erase s.c.blocks s.c.pages v u x d = none := fun hv => by unfold dueV; rw [if_neg (by rw [hv]; simp)]
      rw [decide_eq_false (show ¬ V.str Kn.erase.s = V.str "write" from by decide)]
      refine iteF ⟨_, rfl, .inl ⟨rfl, _, rfl, ?_⟩⟩
      rw [decide_eq_false (show ¬ V.str Kn.erase.s = V.str "write" from by decide)]
      refine iteF ⟨_, rfl, .inl ⟨rfl, _, rfl, ?_⟩⟩
      rw [decide_eq_true (show V.str Kn.erase.s = V.str "erase" from rfl)]
      refine iteT ⟨_, rfl, nm, rfl, ?_⟩
      have fin : ∀ b : Nat, v = .int (b : Int) → b < s.os.length → ∀ (nw : Addr) (H1 : Hp), Fr ch s.c H H1 → ChipAt K H1 ch dx (s.clean b nw) → [V.str "told", V.bl true].length ≤ sizeLine ∧ ∀ l, H1 l = none → Q (.ref l) (upd H1 l (.lst [V.str "told", .bl true])) := fun b eb b1 nw H1 f1 c1 => ⟨by show 2 ≤ sizeLine; decide, fun l nl => by
        have y := Evl.Ex.new (o := .lst [V.str "told", .bl true]) nl
        exact q (non (okB eb b1)) b eb b1 nw l _ (f1.ex y) (c1.ex y) upd_same (c1.back (show Fr ch (s.clean b nw).c H H1 from f1) nl)⟩
      cases nm with
      | true => exact iteT ⟨_, rfl, ch, dx, _, rfl, hc.ins, rfl, _, rfl, rfl, ch, dx, s, v, rfl, hc, pl, kv, fB, fin⟩
      | false => exact iteF ⟨_, rfl, ch, dx, _, rfl, hc.ins, rfl, _, rfl, ch, dx, s, v, rfl, hc, pl, kv, fB, fin⟩
    | erases =>
      have non : isIx v 0 (s.c.blocks - 1) = true → dueV .erases s.c.blocks s.c.pages v u x d = none := fun hv => by unfold dueV; rw [if_neg (by rw [hv]; simp)]
      rw [decide_eq_false (show ¬ V.str Kn.erases.s = V.str "write" from by decide)]
      refine iteF ⟨_, rfl, .inl ⟨rfl, _, rfl, ?_⟩⟩
      rw [decide_eq_false (show ¬ V.str Kn.erases.s = V.str "write" from by decide)]
      refine iteF ⟨_, rfl, .inl ⟨rfl, _, rfl, ?_⟩⟩
      rw [decide_eq_false (show ¬ V.str Kn.erases.s = V.str "erase" from by decide)]
      refine iteF ⟨_, rfl, .inl ⟨rfl, _, rfl, ?_⟩⟩
      rw [decide_eq_true (show V.str Kn.erases.s = V.str "erases" from rfl)]
      refine iteT ⟨_, rfl, nm, rfl, ?_⟩
      have fin : ∀ b : Nat, v = .int (b : Int) → b < s.os.length → ∀ H1 : Hp, Evl.Ex H H1 → [V.str "told", V.int (s.er.getD b 0)].length ≤ sizeLine ∧ ∀ l, H1 l = none → Q (.ref l) (upd H1 l (.lst [V.str "told", .int (s.er.getD b 0)])) := fun b eb b1 H1 e1 => ⟨by show 2 ≤ sizeLine; decide, fun l nl =>
        q (non (okB eb b1)) b eb b1 l _ (Evl.fresh_back e1 nl) (e1.trans (Evl.Ex.new nl)) upd_same⟩
      cases nm with
      | true => exact iteT ⟨_, rfl, ch, dx, _, rfl, hc.ins, rfl, _, rfl, rfl, ch, dx, s, v, rfl, hc, kv, fB, fin⟩
      | false => exact iteF ⟨_, rfl, ch, dx, _, rfl, hc.ins, rfl, _, rfl, ch, dx, s, v, rfl, hc, kv, fB, fin⟩
    | read =>
      have fP : isIx v 0 (s.c.blocks - 1) = true → isIx u 0 (s.c.pages - 1) = false → Fl K "InvalidPage" u H (Wd K Q [some (.ref ch), some (.str Kn.read.s), some v, some u, some x, some (.bl nm), none]) := fun hv hu => caught_P xPB xPP (qE _ _ (by unfold dueV; rw [if_neg (by rw [hv]; simp)]; dsimp only; rw [if_pos hu]))
      have non : isIx v 0 (s.c.blocks - 1) = true → isIx u 0 (s.c.pages - 1) = true → dueV .read s.c.blocks s.c.pages v u x d = none := fun hv hu => by unfold dueV; rw [if_neg (by rw [hv]; simp)]; dsimp only; rw [if_neg (by rw [hu]; simp)]
      rw [decide_eq_false (show ¬ V.str Kn.read.s = V.str "write" from by decide)]
      refine iteF ⟨_, rfl, .inl ⟨rfl, _, rfl, ?_⟩⟩
      rw [decide_eq_false (show ¬ V.str Kn.read.s = V.str "write" from by decide)]
      refine iteF ⟨_, rfl, .inl ⟨rfl, _, rfl, ?_⟩⟩
      rw [decide_eq_false (show ¬ V.str Kn.read.s = V.str "erase" from by decide)]
      refine iteF ⟨_, rfl, .inl ⟨rfl, _, rfl, ?_⟩⟩
      rw [decide_eq_false (show ¬ V.str Kn.read.s = V.str "erases" from by decide)]
      refine iteF ⟨_, rfl, nm, rfl, ?_⟩
      have fin : ∀ b p : Nat, v = .int (b : Int) → u = .int (p : Int) → b < s.os.length → (p : Int) < s.c.pages → ∀ (r : Addr) (H1 : Hp), H r = none → Evl.Ex H H1 → H1 r = some (.tup (IV (pgL (s.os.getD b []) p))) → [V.str "told", V.ref r].length ≤ sizeLine ∧ ∀ l, H1 l = none → Q (.ref l) (upd H1 l (.lst [V.str "told", .ref r])) := fun b p eb ep b1 p1 r H1 _ e1 hr => ⟨by show 2 ≤ sizeLine; decide, fun l nl =>
        q (non (okB eb b1) (okP ep p1)) b p eb ep b1 p1 r l _ (e1.trans (Evl.Ex.new nl)) ((Evl.Ex.new nl) _ _ hr) upd_same (Evl.fresh_back e1 nl)⟩
      cases nm with
      | true => exact iteT ⟨_, rfl, ch, dx, _, rfl, hc.ins, rfl, _, rfl, _, rfl, rfl, ch, dx, s, v, u, rfl, hc, kv, ku, fB, fP, fin⟩
      | false => exact iteF ⟨_, rfl, ch, dx, _, rfl, hc.ins, rfl, _, rfl, _, rfl, ch, dx, s, v, u, rfl, hc, kv, ku, fB, fP, fin⟩
end
end K3
namespace K3
open PySem PySem.Spec PyProof.Rows L2 VB BM
/-- a chip and the law's record of it -/
structure Pair (K : PySem.W.Frag) (H : Hp) (ch dx : Addr) (s : CS) (md sh er pd : Addr) (kvs : List (List Key × V)) : Prop where
  chip : ChipAt K H ch dx s
  pl : Plain s
  mo : Mo K H s md sh er pd kvs
  off : ∀ x, Own ch s.c x → x ≠ md ∧ x ≠ sh ∧ x ≠ er ∧ x ≠ pd
def All (ch : Addr) (c : Cp) (md sh er pd x : Addr) : Prop := Own ch c x ∨ x = md ∨ x = sh ∨ x = er ∨ x = pd
def Mut (ch : Addr) (c : Cp) (md er pd x : Addr) : Prop := Own ch c x ∨ x = md ∨ x = er ∨ x = pd
/-- as before, but for what an op changes -/
structure SameC (s s' : CS) : Prop where
  o : s'.c.o = s.c.o
  e : s'.c.e = s.c.e
  t : s'.c.t = s.c.t
  p : s'.c.p = s.c.p
  q : s'.c.q = s.c.q
  r : s'.c.r = s.c.r
  blocks : s'.c.blocks = s.c.blocks
  pages : s'.c.pages = s.c.pages
  bad : s'.c.bad = s.c.bad
  ops : s'.c.ops ≤ s.c.ops + 1
  len : s'.os.length = s.os.length
theorem SameC.refl (s : CS) : SameC s s := ⟨rfl, rfl, rfl, rfl, rfl, rfl, rfl, rfl, rfl, by omega, rfl⟩
theorem SameC.own {s s' : CS} (h : SameC s s') (ch x : Addr) : Own ch s'.c x ↔ Own ch s.c x := by
  unfold Own
  rw [h.o, h.e, h.t, h.p, h.q, h.r]
section
variable {K : PySem.W.Frag}
theorem ChipAt.own {H : Hp} {a dx x : Addr} {s : CS} (h : ChipAt K H a dx s) (o : Own a s.c x) : ∃ u, H x = some u := by
  rcases o with rfl | rfl | rfl | rfl | rfl | rfl | rfl
  · exact ⟨_, h.ins⟩
  · exact ⟨_, h.o⟩
  · exact ⟨_, h.e⟩
  · exact ⟨_, h.t⟩
  · exact ⟨_, h.p⟩
  · exact ⟨_, h.q⟩
  · exact ⟨_, h.rr.1⟩
theorem Fr.out {ch x : Addr} {c : Cp} {H H' : Hp} {u : HO} (f : Fr ch c H H') (h : ¬ Own ch c x) (hx : H x = some u) : H' x = some u :=
  f x u (fun e => h (.inl e)) (fun e => h (.inr (.inl e))) (fun e => h (.inr (.inr (.inl e)))) (fun e => h (.inr (.inr (.inr (.inl e))))) (fun e => h (.inr (.inr (.inr (.inr (.inl e)))))) (fun e => h (.inr (.inr (.inr (.inr (.inr (.inl e))))))) (fun e => h (.inr (.inr (.inr (.inr (.inr (.inr e))))))) hx
/-- a chip where its own and all tuples stand as they stood -/
theorem ChipAt.via {H H' : Hp} {a dx : Addr} {s : CS} (h : ChipAt K H a dx s) (k : ∀ x u, Own a s.c x → H x = some u → H' x = some u) (kt : ∀ x xs, H x = some (.tup xs) → H' x = some (.tup xs)) : ChipAt K H' a dx s :=
  ⟨k _ _ (.inl rfl) h.ins, k _ _ (.inr (.inl rfl)) h.o, k _ _ (.inr (.inr (.inl rfl))) h.e, k _ _ (.inr (.inr (.inr (.inl rfl)))) h.t, k _ _ (.inr (.inr (.inr (.inr (.inl rfl))))) h.p, k _ _ (.inr (.inr (.inr (.inr (.inr (.inl rfl)))))) h.q,
    fun i hi => kt _ _ (h.tup i hi), h.oe, h.ot, h.et, h.pq, h.nr, h.ne, h.nt, h.nb, h.b8, h.g8, h.oct, ⟨k _ _ (.inr (.inr (.inr (.inr (.inr (.inr rfl)))))) h.rr.1, h.rr.2⟩⟩
theorem Mo.via {H H' : Hp} {s : CS} {md sh er pd : Addr} {kvs : List (List Key × V)} (h : Mo K H s md sh er pd kvs) (k1 : ∀ u, H md = some u → H' md = some u) (k2 : ∀ u, H sh = some u → H' sh = some u) (k3 : ∀ u, H er = some u → H' er = some u) (k4 : ∀ u, H pd = some u → H' pd = some u)
    (kt : ∀ x xs, H x = some (.tup xs) → H' x = some (.tup xs)) : Mo K H' s md sh er pd kvs :=
  ⟨k1 _ h.hmd, k2 _ h.hsh, k3 _ h.her, k4 _ h.hpd, h.len, h.few, h.ne, h.ev, h.no, fun b p hb hp v hv => by
    obtain ⟨t, rfl, ht⟩ := h.at_ b p hb hp v hv
    exact ⟨t, rfl, kt _ _ ht⟩⟩
theorem Pair.via {H H' : Hp} {ch dx : Addr} {s : CS} {md sh er pd : Addr} {kvs : List (List Key × V)} (h : Pair K H ch dx s md sh er pd kvs) (k : ∀ x u, All ch s.c md sh er pd x → H x = some u → H' x = some u) (kt : ∀ x xs, H x = some (.tup xs) → H' x = some (.tup xs)) : Pair K H' ch dx s md sh er pd kvs :=
  ⟨h.chip.via (fun x u o => k x u (.inl o)) kt, h.pl, h.mo.via (fun u => k _ u (.inr (.inl rfl))) (fun u => k _ u (.inr (.inr (.inl rfl)))) (fun u => k _ u (.inr (.inr (.inr (.inl rfl))))) (fun u => k _ u (.inr (.inr (.inr (.inr rfl))))) kt, h.off⟩
theorem Pair.ex {H H' : Hp} {ch dx : Addr} {s : CS} {md sh er pd : Addr} {kvs : List (List Key × V)} (h : Pair K H ch dx s md sh er pd kvs) (e : Evl.Ex H H') : Pair K H' ch dx s md sh er pd kvs := h.via (fun x u _ z => e x u z) fun x xs z => e x _ z
theorem Pair.exb {H H' : Hp} {bx ch dx : Addr} {s : CS} {md sh er pd : Addr} {kvs : List (List Key × V)} {n : Int} (h : Pair K H ch dx s md sh er pd kvs) (B : Box H bx n) (nb : ∀ x, All ch s.c md sh er pd x → x ≠ bx) (e : Exb bx H H') : Pair K H' ch dx s md sh er pd kvs :=
  h.via (fun x u o z => e x u (nb x o) z) fun x xs z => e x _ (Box.nt B z) z
theorem Pair.all {H : Hp} {ch dx : Addr} {s : CS} {md sh er pd : Addr} {kvs : List (List Key × V)} (h : Pair K H ch dx s md sh er pd kvs) {x : Addr} (o : All ch s.c md sh er pd x) : ∃ u, H x = some u := by
  rcases o with o | rfl | rfl | rfl | rfl
  · exact h.chip.own o
  · exact ⟨_, h.mo.hmd⟩
  · exact ⟨_, h.mo.hsh⟩
  · exact ⟨_, h.mo.her⟩
  · exact ⟨_, h.mo.hpd⟩
/-- a value that was handed stands where it stood -/
theorem At.via {H H' : Hp} {v : V} {d : Dsc} (h : At K H v d) (k : ∀ a u, v = .ref a → H a = some u → H' a = some u) : At K H' v d := by
  cases d with
  | one u => exact h
  | sq t xs =>
    obtain ⟨a, rfl, S, g, l, hl, ht⟩ := h
    cases t with
    | false => exact ⟨a, rfl, Sv.lst (k a _ rfl (hl rfl)), g, l, fun _ => k a _ rfl (hl rfl), fun z => by cases z⟩
    | true => exact ⟨a, rfl, Sv.tup (k a _ rfl (ht rfl)), g, l, (fun z => by cases z), fun _ => k a _ rfl (ht rfl)⟩
theorem can_at {H : Hp} {v : V} {d : Dsc} (h : At K H v d) : d.data.canLay0 = true ∧ d.data.depth ≤ 1 := by
  cases d with
  | one u =>
    obtain ⟨rfl, g⟩ := h
    exact ⟨can_flat g, by show (dV v).depth ≤ 1; rw [dep_flat]; omega⟩
  | sq t xs =>
    obtain ⟨a, rfl, S, g, l, hl, ht⟩ := h
    cases t with
    | false => exact ⟨by simp [Dsc.data, PyData.canLay0, canAll_flat g], by simp [Dsc.data, PyData.depth, depAll_flat]⟩
    | true => exact ⟨by simp [Dsc.data, PyData.canLay0, canAll_flat g], by simp [Dsc.data, PyData.depth, depAll_flat]⟩
/-- an error that is due is no empty list -/
theorem ne_due {H : Hp} {a b : Addr} {x : Str} {y : V} {d : Dsc} {Q : VK} (ha : SqL K H a [.str x, y]) (hx : (PyData.str x).canLay0 = true) (hy : At K H y d) (hb : SqL K H b []) (q : Q (.bl true) H) : rNeU K (.ref a) (.ref b) H Q := by
  have c := can_at hy
  refine .inr ⟨_, _, .lst ha (.cons (.str x) (.cons hy.dp .nil)), .lst hb .nil, ?_, by simp [SeqAt.shaped, PyData.canLay0, PyData.canLayAll0, PyData.depth, PyData.depthAll], ?_⟩
  · have d1 : (PyData.list [.str x, d.data]).depth ≤ 2 := by
      simp only [PyData.depth, PyData.depthAll]
      omega
    unfold SeqAt.shaped
    rw [decide_eq_true (by omega), Bool.and_true]
    simp [PyData.canLay0, PyData.canLayAll0, c.1]
    simpa [PyData.canLay0] using hx
  · simpa [PyData.eqv, PyData.eqvAll] using q
end
abbrev st0 (K : PySem.W.Frag) : TS := (tAsg (tDGet (tVar 2) (tC (V.str ("shape")))) (gName 3))
abbrev st1 (K : PySem.W.Frag) : TS := (tAsg (tOp (rIx K) (tLst (tCons (tC (V.str ("write"))) (tCons (tC (V.str ("write"))) (tCons (tC (V.str ("write"))) (tCons (tC (V.str ("write"))) (tCons (tC (V.str ("erase"))) (tCons (tC (V.str ("read"))) (tCons (tC (V.str ("read"))) (tCons (tC (V.str ("erases"))) tNil))))))))) (tCall spTake [] E0 (tCons (tVar 0) (tCons (tC (V.int 8)) tNil)))) (gName 4))
abbrev st2 (K : PySem.W.Frag) : TS := (tAsg (tLst (tCons (tLst tNil) (tCons (tLst tNil) (tCons (tLst tNil) (tCons (tLst tNil) (tCons (tLst (tCons (tC (V.str ("block"))) tNil)) (tCons (tLst (tCons (tC (V.str ("page"))) tNil)) (tCons (tLst (tCons (tC (V.str ("octets"))) tNil)) (tCons (tLst (tCons (tC (V.str ("page"))) (tCons (tC (V.str ("octets"))) tNil))) (tCons (tLst (tCons (tC (V.str ("block"))) (tCons (tC (V.str ("octets"))) tNil))) tNil)))))))))) (gName 5))
abbrev st3 (K : PySem.W.Frag) : TS := (tAsg (tOp (rIx K) (tOp (rAddU K) (tVar 5) (tLst (tCons (tLst (tCons (tC (V.str ("block"))) (tCons (tC (V.str ("page"))) tNil))) tNil))) (tCall spTake [] E0 (tCons (tVar 0) (tCons (tC (V.int 10)) tNil)))) (gName 5))
abbrev st4 (K : PySem.W.Frag) : TS := (tPar3 6 7 8 (tCons (tCall spTake [] E0 (tCons (tVar 0) (tCons (tC (V.int 3)) tNil))) (tCons (tCall spTake [] E0 (tCons (tVar 0) (tCons (tC (V.int 3)) tNil))) (tCons (tOp (rEqU K) (tCall spTake [] E0 (tCons (tVar 0) (tCons (tC (V.int 3)) tNil))) (tC (V.int 0))) tNil))))
abbrev st5 (K : PySem.W.Frag) : TS := (tIfS (tTest (tOp (rEqU K) (tCall spTake [] E0 (tCons (tVar 0) (tCons (tC (V.int 4)) tNil))) (tC (V.int 0)))) (tPar 6 7 (tCons (tOp (rI0 fun i j => V.int (i - j)) (tOp (rI0 fun i j => V.int (i - j)) (tOp (rIx K) (tVar 3) (tC (V.int 0))) (tC (V.int 1))) (tCall spTake [] E0 (tCons (tVar 0) (tCons (tC (V.int 2)) tNil)))) (tCons (tOp (rI0 fun i j => V.int (i - j)) (tOp (rI0 fun i j => V.int (i - j)) (tOp (rIx K) (tVar 3) (tC (V.int 1))) (tC (V.int 1))) (tCall spTake [] E0 (tCons (tVar 0) (tCons (tC (V.int 2)) tNil)))) tNil))) tNext)
abbrev st6 (K : PySem.W.Frag) : TS := (tAsg (tCall (spDrawn K) [] E0 (tCons (tVar 0) (tCons (tCall (spPage K) [] E0 (tCons (tVar 2) (tCons (tVar 6) (tCons (tVar 7) tNil)))) tNil))) (gName 9))
abbrev st7 (K : PySem.W.Frag) : TS := (tIfS (tTest (tOp (rIn K false) (tC (V.str ("block"))) (tVar 5))) (tAsg (tCall (spOddIx K) [] E0 (tCons (tVar 0) (tCons (tOp (rIx K) (tVar 3) (tC (V.int 0))) tNil))) (gName 6)) tNext)
abbrev st8 (K : PySem.W.Frag) : TS := (tIfS (tTest (tOp (rIn K false) (tC (V.str ("page"))) (tVar 5))) (tAsg (tCall (spOddIx K) [] E0 (tCons (tVar 0) (tCons (tOp (rIx K) (tVar 3) (tC (V.int 1))) tNil))) (gName 7)) tNext)
abbrev st9 (K : PySem.W.Frag) : TS := (tIfS (tTest (tOp (rIn K false) (tC (V.str ("octets"))) (tVar 5))) (tAsg (tCall (spOddOc K) [] E0 (tCons (tVar 0) tNil)) (gName 9)) (tIfS (tTest (tOp (rEqU K) (tCall spTake [] E0 (tCons (tVar 0) (tCons (tC (V.int 3)) tNil))) (tC (V.int 0)))) (tAsg (tCB (rTupU K) (tCons (tVar 9) tNil)) (gName 9)) tNext))
abbrev st10 (K : PySem.W.Frag) : TS := (tPar 10 11 (tCons (tCall (spDue K) [] E0 (tCons (tVar 3) (tCons (tVar 4) (tCons (tVar 6) (tCons (tVar 7) (tCons (tVar 9) tNil)))))) (tCons (tCB (rReprA K) (tCons (tVar 9) tNil)) tNil)))
abbrev st11 (K : PySem.W.Frag) : TS := (tAsg (tCall (spDone K) [] E0 (tCons (tVar 1) (tCons (tVar 4) (tCons (tVar 6) (tCons (tVar 7) (tCons (tVar 9) (tCons (tVar 8) tNil))))))) (gName 12))
abbrev st12 (K : PySem.W.Frag) : TS := (tIfS (tTest (tOp (rNeU K) (tCB (rReprA K) (tCons (tVar 9) tNil)) (tVar 11))) (tRet (tC (V.bl false))) tNext)
abbrev st13 (K : PySem.W.Frag) : TS := (tIfS (tTest (tOp (rNeU K) (tVar 10) (tLst tNil))) (tRet (tAndV (tOp (rEqU K) (tOp (rIx K) (tVar 12) (tC (V.int 0))) (tOp (rIx K) (tVar 10) (tC (V.int 0)))) (tAndV (tCall (spVery K) [] E0 (tCons (tOp (rIx K) (tVar 12) (tC (V.int 1))) (tCons (tOp (rIx K) (tVar 10) (tC (V.int 1))) tNil))) (tCall (spCnt K) [] E0 (tCons (tVar 1) (tCons (tVar 2) tNil)))))) tNext)
abbrev st14 (K : PySem.W.Frag) : TS := (tAsg (tCall (spFol K) [] E0 (tCons (tVar 2) (tCons (tVar 4) (tCons (tVar 6) (tCons (tVar 7) (tCons (tVar 9) tNil)))))) (gName 13))
abbrev st15 (K : PySem.W.Frag) : TS := (tIfS (tAnd (tTest (tOp (rEqU K) (tVar 4) (tC (V.str ("write"))))) (tTru K (tCB (rIsi K) (tCons (tVar 9) (tCons (tC (V.ty "list")) tNil))))) (tSeq (tAsg (tC (V.int 3)) (gSub (tVar 9) (tCall spTake [] E0 (tCons (tVar 0) (tCons (tC (V.int 31)) tNil))) rSetL)) (tDrop (tBM K "list" rAppend (tVar 9) (tCons (tC (V.int 0)) tNil)))) tNext)
abbrev st16 (K : PySem.W.Frag) : TS := (tIfS (tOr (tTest (tOp (rNeU K) (tOp (rIx K) (tVar 12) (tC (V.int 0))) (tC (V.str ("told"))))) (tOr (tTest (tOp (rNeU K) (tCB (rReprA K) (tCons (tOp (rIx K) (tVar 12) (tC (V.int 1))) tNil)) (tCB (rReprA K) (tCons (tVar 13) tNil)))) (tNot (tTru K (tCall (spCnt K) [] E0 (tCons (tVar 1) (tCons (tVar 2) tNil))))))) (tRet (tC (V.bl false))) tNext)
abbrev st17 (K : PySem.W.Frag) : TS := (tRet (tCall (spIsPage K) [] E0 (tCons (tMeth (Ch K) ("read") (spRead K) [] (fun x x_1 x_2 => False) (tVar 1) (tCons (tVar 6) (tCons (tC (V.int 1)) tNil))) (tCons (tCall (spPage K) [] E0 (tCons (tVar 2) (tCons (tVar 6) (tCons (tC (V.int 1)) tNil)))) tNil))))
abbrev rs17 (K : PySem.W.Frag) : TS := st17 K
abbrev rs16 (K : PySem.W.Frag) : TS := tSeq (st16 K) (rs17 K)
abbrev rs15 (K : PySem.W.Frag) : TS := tSeq (st15 K) (rs16 K)
abbrev rs14 (K : PySem.W.Frag) : TS := tSeq (st14 K) (rs15 K)
abbrev rs13 (K : PySem.W.Frag) : TS := tSeq (st13 K) (rs14 K)
abbrev rs12 (K : PySem.W.Frag) : TS := tSeq (st12 K) (rs13 K)
abbrev rs11 (K : PySem.W.Frag) : TS := tSeq (st11 K) (rs12 K)
abbrev rs10 (K : PySem.W.Frag) : TS := tSeq (st10 K) (rs11 K)
abbrev rs9 (K : PySem.W.Frag) : TS := tSeq (st9 K) (rs10 K)
abbrev rs8 (K : PySem.W.Frag) : TS := tSeq (st8 K) (rs9 K)
abbrev rs7 (K : PySem.W.Frag) : TS := tSeq (st7 K) (rs8 K)
abbrev rs6 (K : PySem.W.Frag) : TS := tSeq (st6 K) (rs7 K)
abbrev rs5 (K : PySem.W.Frag) : TS := tSeq (st5 K) (rs6 K)
abbrev rs4 (K : PySem.W.Frag) : TS := tSeq (st4 K) (rs5 K)
abbrev rs3 (K : PySem.W.Frag) : TS := tSeq (st3 K) (rs4 K)
abbrev rs2 (K : PySem.W.Frag) : TS := tSeq (st2 K) (rs3 K)
abbrev rs1 (K : PySem.W.Frag) : TS := tSeq (st1 K) (rs2 K)
abbrev rs0 (K : PySem.W.Frag) : TS := tSeq (st0 K) (rs1 K)
section
variable {K : PySem.W.Frag}
theorem same_str {x y : Str} {A B : Prop} (e : x = y) (h : B) : if (!decide (V.str x = V.str y)) = true then A else B := by
  subst e
  exact same_ne h
/-- from what was told and what is due on -/
theorem fin16 {H0 H : Hp} {Q : VK} {bx ch dx md sh er pd l : Addr} {s s2 : CS} {kvs2 : List (List Key × V)} {b : Nat} {v4 v5 v7 v8 v9 v10 v11 : Option V} {r z : V} {e : PyData} {n : Int} (TC : TxC K) (P5 : Pair K H ch dx s2 md sh er pd kvs2) (sc : SameC s s2)
    (hl : H l = some (.lst [.str "told", r])) (d1 : Dp K H r e) (d2 : Dp K H z e) (hs : Sh e 1 40000) (hb : b < s2.os.length) (B5 : Box H bx n)
    (fr : ∀ y o, y ≠ bx → ¬ Mut ch s.c md er pd y → H0 y = some o → H y = some o)
    (q : ∀ (s' : CS) (kvs' : List (List Key × V)) (H' : Hp), Pair K H' ch dx s' md sh er pd kvs' → SameC s s' → Box H' bx n → (∀ y o, y ≠ bx → ¬ Mut ch s.c md er pd y → H0 y = some o → H' y = some o) → Q (.bl true) H') :
    rs16 K { nx := fun x H' => Q V.non H', rt := Q } [some (.ref bx), some (.ref ch), some (.ref md), some (.ref sh), v4, v5, some (.int (b : Int)), v7, v8, v9, v10, v11, some (.ref l), some z] H := by
  have hc := P5.chip
  have nb := hc.nb
  have b8 := hc.b8
  have g8 := hc.g8
  refine ⟨_, rfl, Sv.ix (x := .non) (Sv.lst hl) (i := 0) rfl (.inl ⟨rfl, _, rfl, same_ne ?_⟩)⟩
  refine ⟨_, rfl, Sv.ix (x := .non) (Sv.lst hl) (i := 1) rfl (rpD d1 hs ⟨_, rfl, rpD d2 hs (.inl ⟨rfl, _, rfl, same_ne ?_⟩)⟩)⟩
  refine ⟨_, rfl, _, rfl, ch, dx, s2, md, sh, er, pd, kvs2, rfl, P5.chip, P5.pl, P5.mo, fun H6 e6 => ⟨true, rfl, iteF ?_⟩⟩
  have P6 := P5.ex e6
  have iv : isIx (.int (b : Int)) 0 (s2.c.blocks - 1) = true := isIx_int (by omega) (by omega)
  have ip : isIx (.int 1) 0 (s2.c.pages - 1) = true := isIx_int (by omega) (by omega)
  refine ⟨_, rfl, ch, dx, _, rfl, P6.chip.ins, rfl, _, rfl, ch, dx, s2, .int (b : Int), .int 1, rfl, P6.chip, .flat (flat_nat (by omega)), .flat (flat_nat (i := 1) (by omega)), (fun (z : isIx (.int (b : Int)) 0 (s2.c.blocks - 1) = false) => by rw [iv] at z; cases z), (fun _ (z : isIx (.int 1) 0 (s2.c.pages - 1) = false) => by rw [ip] at z; cases z), fun b' p hb' hp b1 p1 t H7 nt e7 ht => ?_⟩
  obtain rfl : b' = b := by
    have := V.int.inj hb'
    omega
  obtain rfl : p = 1 := by
    have := V.int.inj hp
    omega
  have P7 := P6.ex e7
  refine ⟨_, rfl, _, rfl, s2, md, sh, er, pd, kvs2, b', 1, rfl, P7.mo, hb, p1, fun t2 H8 e8 ht2 => ?_⟩
  refine ⟨t, t2, _, rfl, e8 _ _ ht, ht2, ?_, fun H9 e9 => ?_⟩
  · have := pgL_len (P7.chip.oct b' hb).2 (p := 1) (by omega)
    omega
  · have E := ((e6.trans e7).trans e8).trans e9
    exact q s2 kvs2 H9 (P5.ex E) sc (B5.ex E) fun y o ny nm hy => E _ _ (fr y o ny nm hy)
end
end K3
namespace K3
open PySem PySem.Spec PyProof.Rows L2 VB BM
theorem due_some {k : Kn} {nb np : Int} {v u x y : V} {d : Dsc} {wd : Str} (h : dueV k nb np v u x d = some (wd, y)) : (y = v ∨ y = u ∨ y = x) ∧ (PyData.str wd).canLay0 = true := by
  unfold dueV at h
  split at h
  · cases h
    exact ⟨.inl rfl, by decide +kernel⟩
  · cases k with
    | write =>
      dsimp only at h
      split at h
      · cases h
        exact ⟨.inr (.inl rfl), by decide +kernel⟩
      · split at h
        · cases h
          exact ⟨.inr (.inr rfl), by decide +kernel⟩
        · cases h
    | read =>
      dsimp only at h
      split at h
      · cases h
        exact ⟨.inr (.inl rfl), by decide +kernel⟩
      · cases h
    | erase => cases h
    | erases => cases h
theorem SameC.wr {s : CS} {b p : Nat} {ws : List Int} {nw : Addr} (hb : b < s.os.length) : SameC s (s.wr b p ws nw) := ⟨rfl, rfl, rfl, rfl, rfl, rfl, rfl, rfl, rfl, Int.le_refl _, List.length_set⟩
theorem SameC.clean {s : CS} {b : Nat} {nw : Addr} : SameC s (s.clean b nw) := ⟨rfl, rfl, rfl, rfl, rfl, rfl, rfl, rfl, rfl, Int.le_refl _, List.length_set⟩
theorem Plain.wr {s : CS} {b p : Nat} {ws : List Int} {nw : Addr} (h : Plain s) : Plain (s.wr b p ws nw) := ⟨h.kp, h.kq, fun i hi => h.tb i (by have : i < (s.os.set b _).length := hi; rwa [List.length_set] at this), h.cuts, h.bd, by show 8 ≤ (s.os.set b _).length; rw [List.length_set]; exact h.bl⟩
theorem Plain.clean {s : CS} {b : Nat} {nw : Addr} (h : Plain s) : Plain (s.clean b nw) := ⟨h.kp, h.kq, fun i hi => h.tb i (by have : i < (s.os.set b _).length := hi; rwa [List.length_set] at this), h.cuts, h.bd, by show 8 ≤ (s.os.set b _).length; rw [List.length_set]; exact h.bl⟩
section
variable {K : PySem.W.Frag}
/-- a box where it stood -/
theorem Box.via {H H' : Hp} {bx : Addr} {n : Int} (B : Box H bx n) (k : ∀ u, H bx = some u → H' bx = some u) : Box H' bx n := by
  obtain ⟨d, m, c, b, hb, r⟩ := B
  exact ⟨d, m, c, b, k _ hb, r⟩
/-- behind an op of the chip and what the law follows -/
theorem after {H0 H1 H2 H3 : Hp} {bx ch dx md sh er pd : Addr} {s s2 : CS} {kvs kvs2 : List (List Key × V)} {c : Int} (P1 : Pair K H1 ch dx s md sh er pd kvs) (nb : ∀ y, All ch s.c md sh er pd y → y ≠ bx) (B1 : Box H1 bx c) (e1 : Exb bx H0 H1)
    (f : Fr ch s.c H1 H2) (c2 : ChipAt K H2 ch dx s2) (k3 : ∀ y o, y ≠ md → y ≠ er → y ≠ pd → H2 y = some o → H3 y = some o) (M3 : Mo K H3 s2 md sh er pd kvs2) (pl : Plain s2) (sc : SameC s s2) :
    Pair K H3 ch dx s2 md sh er pd kvs2 ∧ Box H3 bx c ∧ ∀ y o, y ≠ bx → ¬ Mut ch s.c md er pd y → H0 y = some o → H3 y = some o := by
  have off2 : ∀ x, Own ch s2.c x → x ≠ md ∧ x ≠ sh ∧ x ≠ er ∧ x ≠ pd := fun x o => P1.off x ((sc.own ch x).mp o)
  have n1 : bx ≠ md := (nb md (.inr (.inl rfl))).symm
  have n2 : bx ≠ er := (nb er (.inr (.inr (.inr (.inl rfl))))).symm
  have n3 : bx ≠ pd := (nb pd (.inr (.inr (.inr (.inr rfl))))).symm
  have nO : ¬ Own ch s.c bx := fun o => nb bx (.inl o) rfl
  have t3 : ∀ x xs, H2 x = some (.tup xs) → H3 x = some (.tup xs) := fun x xs hx => by
    have m2 : H2 md = some (.dK (mdL s.c.ops sh er pd)) := f.out (fun o => (P1.off md o).1 rfl) P1.mo.hmd
    have e2 : H2 er = some (.lst (IV s.er)) := f.out (fun o => (P1.off er o).2.2.1 rfl) P1.mo.her
    have p2 : H2 pd = some (.dT kvs) := f.out (fun o => (P1.off pd o).2.2.2 rfl) P1.mo.hpd
    exact k3 x _ (ne_of hx m2 (fun z => by cases z)) (ne_of hx e2 (fun z => by cases z)) (ne_of hx p2 (fun z => by cases z)) hx
  refine ⟨⟨c2.via (fun x u o hx => k3 x u (off2 x o).1 (off2 x o).2.2.1 (off2 x o).2.2.2 hx) t3, pl, M3, off2⟩, Box.via B1 (fun u hu => k3 _ _ n1 n2 n3 (f.out nO hu)), fun y o ny nm hy => ?_⟩
  exact k3 y o (fun z => nm (.inr (.inl z))) (fun z => nm (.inr (.inr (.inl z)))) (fun z => nm (.inr (.inr (.inr z)))) (f.out (fun z => nm (.inl z)) (e1 y o ny hy))
/-- from what is due on -/
theorem tail_ok {H0 H : Hp} {Q : VK} {bx ch dx md sh er pd : Addr} {s : CS} {kvs : List (List Key × V)} {c0 c : Int} {k : Kn} {v u x : V} {dv du d : Dsc} {nm : Bool} {v5 : Option V} (TC : TxC K) (P0 : Pair K H0 ch dx s md sh er pd kvs) (nb : ∀ y, All ch s.c md sh er pd y → y ≠ bx) (B0 : Box H0 bx c0) (e0 : Exb bx H0 H) (B : Box H bx c) (hc : c < 60000000) (hops : s.c.ops < 1000)
    (av : At K H v dv) (au : At K H u du) (ax : At K H x d) (fv : ∀ a, v = .ref a → H0 a = none ∧ a ≠ bx) (fu : ∀ a, u = .ref a → H0 a = none ∧ a ≠ bx) (fx : ∀ a, x = .ref a → H0 a = none ∧ a ≠ bx)
    (q : ∀ (s' : CS) (kvs' : List (List Key × V)) (H' : Hp), Pair K H' ch dx s' md sh er pd kvs' → SameC s s' → Box H' bx (c + 1) → (∀ y o, y ≠ bx → ¬ Mut ch s.c md er pd y → H0 y = some o → H' y = some o) → Q (.bl true) H') :
    rs10 K { nx := fun x H' => Q V.non H', rt := Q } [some (.ref bx), some (.ref ch), some (.ref md), some (.ref sh), some (.str k.s), v5, some v, some u, some (.bl nm), some x, none, none, none, none] H := by
  have P := P0.exb B0 nb e0
  have new : ∀ {a : Addr}, H0 a = none → ¬ All ch s.c md sh er pd a := fun {a} h o => by
    obtain ⟨w, hw⟩ := P0.all o
    rw [h] at hw
    cases hw
  refine ⟨_, rfl, _, rfl, _, rfl, _, rfl, _, rfl, sh, s.c.blocks, s.c.pages, s.c.bad, k, v, u, x, d, rfl, P.mo.hsh, av.kv, au.kv, ax, fun L H1 nL e1 hL => ⟨_, rfl, (ax.ex e1).rp ⟨_, _, rfl, ?_⟩⟩⟩
  have P1 := P.ex e1
  have B1 := B.ex e1
  have E1 : Exb bx H0 H1 := e0.trans (Exb.of e1)
  have ax1 := ax.ex e1
  refine ⟨_, rfl, _, rfl, _, rfl, _, rfl, _, rfl, _, rfl, ch, dx, s, k, v, u, x, d, nm, rfl, P1.chip, P.pl, (av.ex e1).kv, (au.ex e1).kv, ax1, fun wd y hd l H2 nl e2 h2 => ?_, fun hn => ?_⟩
  · -- an error is due
    rw [hd] at hL
    have E2 : Exb bx H0 H2 := E1.trans (Exb.of e2)
    have hL2 : H2 L = some (.lst [.str wd, y]) := e2 _ _ hL
    obtain ⟨hy, cw⟩ := due_some hd
    obtain ⟨dy, ay, fy⟩ : ∃ dy, At K H2 y dy ∧ ∀ a, y = .ref a → H0 a = none ∧ a ≠ bx := by
      rcases hy with rfl | rfl | rfl
      · exact ⟨dv, (av.ex e1).ex e2, fv⟩
      · exact ⟨du, (au.ex e1).ex e2, fu⟩
      · exact ⟨d, ax1.ex e2, fx⟩
    refine ⟨_, rfl, (ax1.ex e2).rp ⟨_, rfl, .inl ⟨rfl, _, rfl, same_ne ?_⟩⟩⟩
    refine ⟨_, rfl, by show 0 ≤ sizeLine; decide, fun z nz => ?_⟩
    have yz := Evl.Ex.new (o := .lst []) nz
    refine ne_due (SqL.of (yz _ _ hL2)) cw (ay.ex yz) (SqL.of upd_same) ⟨_, rfl, iteT ?_⟩
    have E3 : Exb bx H0 (upd H2 z (.lst [])) := E2.trans (Exb.of yz)
    have B3 := (B1.ex e2).ex yz
    have a3 := ay.ex yz
    have hL3 := yz _ _ hL2
    have h3 := yz _ _ h2
    generalize upd H2 z (.lst []) = H3 at E3 B3 a3 hL3 h3 ⊢
    refine ⟨_, rfl, Sv.ix (x := .non) (Sv.lst h3) (i := 0) rfl ⟨_, rfl, Sv.ix (x := .non) (Sv.lst hL3) (i := 0) rfl (.inl ⟨rfl, true, by rw [decide_eq_true rfl], iteT ?_⟩)⟩⟩
    refine ⟨_, rfl, Sv.ix (x := .non) (Sv.lst h3) (i := 1) rfl ⟨_, rfl, Sv.ix (x := .non) (Sv.lst hL3) (i := 1) rfl ⟨y, dy, rfl, a3, fun H4 k4 => ⟨true, rfl, iteT ?_⟩⟩⟩⟩
    have E4 : Exb bx H0 H4 := fun a o na ha => k4 a o (fun z => by rw [(fy a z).1] at ha; cases ha) (E3 a o na ha)
    have P4 := P0.exb B0 nb E4
    have B4 : Box H4 bx c := Box.via B3 fun w hw => k4 _ _ (fun z => (fy bx z).2 rfl) hw
    exact ⟨_, rfl, _, rfl, ch, dx, s, md, sh, er, pd, kvs, rfl, P4.chip, P4.pl, P4.mo, fun H5 e5 => q s kvs H5 (P4.ex e5) (SameC.refl s) ((B4.ex e5).le (by omega)) fun y o ny _ hy => e5 _ _ (E4 y o ny hy)⟩
  · -- no error is due
    rw [hn] at hL
    have hL : H1 L = some (.lst []) := hL
    have g8 := P.chip.g8
    have q' : ∀ {n : Int}, n ≤ c + 1 → ∀ (s' : CS) (kvs' : List (List Key × V)) (H' : Hp), Pair K H' ch dx s' md sh er pd kvs' → SameC s s' → Box H' bx n → (∀ y o, y ≠ bx → ¬ Mut ch s.c md er pd y → H0 y = some o → H' y = some o) → Q (.bl true) H' := fun hn s' kvs' H' P' sc' B' fr' => q s' kvs' H' P' sc' (B'.le hn) fr'
    have newH : ∀ {a : Addr}, H1 a = none → ¬ All ch s.c md sh er pd a := fun {a} h o => by
      obtain ⟨w, hw⟩ := P1.all o
      rw [h] at hw
      cases hw
    have nLo : ¬ All ch s.c md sh er pd L := fun o => by
      obtain ⟨w, hw⟩ := P.all o
      rw [nL] at hw
      cases hw
    -- from the tests behind the call to what is followed
    have mid : ∀ {H2 : Hp} {l : Addr} {R : TS}, H2 L = some (.lst []) → At K H2 x d → (∀ z, H2 z = none → R { nx := fun x H' => Q V.non H', rt := Q } [some (.ref bx), some (.ref ch), some (.ref md), some (.ref sh), some (.str k.s), v5, some v, some u, some (.bl nm), some x, some (.ref L), some (.str d.data.shown), some (.ref l), none] (upd H2 z (.lst []))) →
        tSeq (st12 K) (tSeq (st13 K) R) { nx := fun x H' => Q V.non H', rt := Q } [some (.ref bx), some (.ref ch), some (.ref md), some (.ref sh), some (.str k.s), v5, some v, some u, some (.bl nm), some x, some (.ref L), some (.str d.data.shown), some (.ref l), none] H2 := fun {H2 l R} hL2 ax2 go =>
      ⟨_, rfl, ax2.rp ⟨_, rfl, .inl ⟨rfl, _, rfl, same_ne ⟨_, rfl, by show 0 ≤ sizeLine; decide, fun z nz => ne_empty (xs := []) (SqL.of ((Evl.Ex.new nz) _ _ hL2)) (fun x hx => absurd hx List.not_mem_nil) (SqL.of upd_same) ⟨_, rfl, iteF (go z nz)⟩⟩⟩⟩⟩
    cases k with
    | write =>
      intro b p w ws t hv hu hb hp hx S ed ow lw nw l H2 f c2 h2 nl
      subst hv hu hx ed
      have wn := (fx w rfl).1
      have wb := (fx w rfl).2
      have nwA := new wn
      have ax2 : At K H2 (.ref w) (.sq t (IV ws)) := ax1.via fun a o e h => by
        cases e
        exact f.out (fun z => nwA (.inl z)) h
      refine mid (f.out (fun z => nLo (.inl z)) hL) ax2 fun z nz => ?_
      have yz := Evl.Ex.new (o := .lst []) nz
      have ax3 := ax2.ex yz
      have f3 := f.ex yz
      have c3 := c2.ex yz
      have h3 := yz _ _ h2
      generalize upd H2 z (.lst []) = H3 at ax3 f3 c3 h3 ⊢
      have M3 : Mo K H3 s md sh er pd kvs := P1.mo.via (fun o => f3.out fun z => (P.off md z).1 rfl) (fun o => f3.out fun z => (P.off sh z).2.1 rfl) (fun o => f3.out fun z => (P.off er z).2.2.1 rfl) (fun o => f3.out fun z => (P.off pd z).2.2.2 rfl) fun _ _ hx => P1.chip.tupK f3 hx
      have axk : ∀ H', (∀ y o, y ≠ md → y ≠ er → y ≠ pd → H3 y = some o → H' y = some o) → At K H' (.ref w) (.sq t (IV ws)) := fun H' k' => ax3.via fun a o e h => by
        cases e
        exact k' _ _ (fun z => nwA (.inr (.inl z))) (fun z => nwA (.inr (.inr (.inr (.inl z))))) (fun z => nwA (.inr (.inr (.inr (.inr z))))) h
      have sv : ∀ {H'}, At K H' (.ref w) (.sq t (IV ws)) → Sv t K H' w (IV ws) := fun h => by
        obtain ⟨a, e, S, _⟩ := h
        cases e
        exact S
      refine ⟨_, rfl, _, rfl, _, rfl, _, rfl, _, rfl, s, md, sh, er, pd, kvs, .write, b, .int (p : Int), .ref w, rfl, M3, hb, hops, g8.1, g8.2, P.chip.ne, P.chip.oct, p, w, ws, t, rfl, hp, rfl, sv ax3, ow, lw, fun H' k' => sv (axk H' k'), fun kvs' H4 k4 M4 => ?_⟩
      obtain ⟨P4, B4, F4⟩ := after P1 nb B1 E1 f3 c3 k4 (M4 nw) P.pl.wr (SameC.wr hb)
      have ax4 := axk H4 k4
      have nlA := newH nl
      have h4 : H4 l = some (.lst [.str "told", .bl true]) := k4 _ _ (fun z => nlA (.inr (.inl z))) (fun z => nlA (.inr (.inr (.inr (.inl z))))) (fun z => nlA (.inr (.inr (.inr (.inr z))))) h3
      have hb2 : b < (s.wr b p ws nw).os.length := by show b < (s.os.set b _).length; rw [List.length_set]; exact hb
      have sT : Sh (.bool true) 1 40000 := ⟨by decide +kernel, by decide +kernel, by decide +kernel⟩
      refine ⟨_, rfl, .inl ⟨rfl, _, rfl, ?_⟩⟩
      rw [decide_eq_true (show V.str Kn.write.s = V.str "write" from rfl)]
      obtain ⟨a, ea, S4, g4, l4, hl4, ht4⟩ := ax4
      cases ea
      cases t with
      | true => exact iteT ⟨_, rfl, _, _, _, _, false, rfl, .ty _, S4.ty, kit_ty (by decide +kernel), false, rfl, iteF (fin16 TC P4 (SameC.wr hb) h4 (.bl true) (.bl true) sT hb2 B4 F4 (q' (by omega)))⟩
      | false =>
        have hw4 := hl4 rfl
        refine iteT ⟨_, rfl, _, _, _, _, true, rfl, .ty _, S4.ty, kit_ty (by decide +kernel), true, rfl, iteT ?_⟩
        refine ⟨_, rfl, _, rfl, bx, 31, c, rfl, B4, by omega, by omega, by omega, fun r H5 r0 r1 e5 B5 => ?_⟩
        obtain ⟨j, rfl⟩ : ∃ j : Nat, r = j := ⟨r.toNat, by omega⟩
        have hw5 := e5 _ _ wb hw4
        have h5 := e5 _ _ (fun z => by rw [z] at nl; obtain ⟨_, _, _, _, hbx, _⟩ := B1; rw [nl] at hbx; cases hbx) h4
        refine ⟨w, _, _, j, rfl, rfl, hw5, Evl.ixN_nat (by rw [iv_len]; omega), ?_⟩
        refine ⟨_, rfl, .inl ⟨rfl, _, SqL.of upd_same⟩, w, _, _, rfl, rfl, upd_same, Evl.sz_lt (by rw [List.length_set, iv_len]; omega), ?_⟩
        rw [upd_upd]
        have ne5 : ∀ y, All ch s.c md sh er pd y → y ≠ w := fun y o z => nwA (z ▸ o)
        have lw' : l ≠ w := fun z => by
          rw [z] at nl
          obtain ⟨a, ea, S1, g1, l1, hl1, ht1⟩ := ax1
          cases ea
          rw [hl1 rfl] at nl
          cases nl
        have P5 := P4.exb B4 nb e5
        have P6 : Pair K (upd H5 w (.lst ((IV ws).set j (.int 3) ++ [.int 0]))) ch dx (s.wr b p ws nw) md sh er pd kvs' := P5.via (fun y o a hy => by rw [upd_ne (ne5 y a)]; exact hy) fun y xs hy => by rw [upd_ne (ne_of hy hw5 (fun z => by cases z))]; exact hy
        refine fin16 TC P6 (SameC.wr hb) (by rw [upd_ne lw']; exact h5) (.bl true) (.bl true) sT hb2 (Box.mut B5 wb) (fun y o ny nm hy => ?_) (q' (by omega))
        rw [upd_ne (fun z => by rw [z, wn] at hy; cases hy)]
        exact e5 _ _ ny (F4 y o ny nm hy)
    | erase =>
      intro b hv hb nw l H2 f c2 h2 nl
      subst hv
      have ax2 : At K H2 x d := ax1.via fun a o e h => f.out (fun z => new (fx a e).1 (.inl z)) h
      refine mid (f.out (fun z => nLo (.inl z)) hL) ax2 fun z nz => ?_
      have yz := Evl.Ex.new (o := .lst []) nz
      have f3 := f.ex yz
      have c3 := c2.ex yz
      have h3 := yz _ _ h2
      generalize upd H2 z (.lst []) = H3 at f3 c3 h3 ⊢
      have M3 : Mo K H3 s md sh er pd kvs := P1.mo.via (fun o => f3.out fun z => (P.off md z).1 rfl) (fun o => f3.out fun z => (P.off sh z).2.1 rfl) (fun o => f3.out fun z => (P.off er z).2.2.1 rfl) (fun o => f3.out fun z => (P.off pd z).2.2.2 rfl) fun _ _ hx => P1.chip.tupK f3 hx
      refine ⟨_, rfl, _, rfl, _, rfl, _, rfl, _, rfl, s, md, sh, er, pd, kvs, .erase, b, u, x, rfl, M3, hb, hops, g8.1, g8.2, P.chip.ne, P.chip.oct, fun kvs' H4 k4 M4 => ?_⟩
      obtain ⟨P4, B4, F4⟩ := after P1 nb B1 E1 f3 c3 k4 (M4 nw) P.pl.clean SameC.clean
      have nlA := newH nl
      have h4 : H4 l = some (.lst [.str "told", .bl true]) := k4 _ _ (fun z => nlA (.inr (.inl z))) (fun z => nlA (.inr (.inr (.inr (.inl z))))) (fun z => nlA (.inr (.inr (.inr (.inr z))))) h3
      have hb2 : b < (s.clean b nw).os.length := by show b < (s.os.set b _).length; rw [List.length_set]; exact hb
      have sT : Sh (.bool true) 1 40000 := ⟨by decide +kernel, by decide +kernel, by decide +kernel⟩
      refine ⟨_, rfl, .inl ⟨rfl, _, rfl, ?_⟩⟩
      rw [decide_eq_false (show ¬ V.str Kn.erase.s = V.str "write" from by decide)]
      exact iteF (fin16 TC P4 SameC.clean h4 (.bl true) (.bl true) sT hb2 B4 F4 (q' (by omega)))
    | erases =>
      intro b hv hb l H2 nl e2 h2
      subst hv
      refine mid (e2 _ _ hL) (ax1.ex e2) fun z nz => ?_
      have yz := Evl.Ex.new (o := .lst []) nz
      have E3 := e2.trans yz
      have h3 := yz _ _ h2
      generalize upd H2 z (.lst []) = H3 at E3 h3 ⊢
      have P3 := P1.ex E3
      refine ⟨_, rfl, _, rfl, _, rfl, _, rfl, _, rfl, s, md, sh, er, pd, kvs, .erases, b, u, x, rfl, P3.mo, hb, hops, g8.1, g8.2, P.chip.ne, P.chip.oct, fun H4 e4 => ?_⟩
      refine ⟨_, rfl, .inl ⟨rfl, _, rfl, ?_⟩⟩
      rw [decide_eq_false (show ¬ V.str Kn.erases.s = V.str "write" from by decide)]
      have ev := P.mo.ev (s.er.getD b 0) (List.mem_of_getElem? (getD_get (by rw [P.chip.ne]; exact hb)))
      have sI : Sh (.int (s.er.getD b 0)) 1 40000 := (sh_int' (Nat.lt_of_lt_of_le (show (s.er.getD b 0).natAbs < 10000 by omega) (by decide))).le
      exact iteF (fin16 TC (P3.ex e4) (SameC.refl s) (e4 _ _ h3) (.int _) (.int _) sI hb ((B1.ex E3).ex e4) (fun y o ny _ hy => e4 _ _ (E3 _ _ (E1 y o ny hy))) (q' (by omega)))
    | read =>
      intro b p hv hu hb hp t l H2 e2 ht h2 nl
      subst hv hu
      refine mid (e2 _ _ hL) (ax1.ex e2) fun z nz => ?_
      have yz := Evl.Ex.new (o := .lst []) nz
      have E3 := e2.trans yz
      have h3 := yz _ _ h2
      have ht3 := yz _ _ ht
      generalize upd H2 z (.lst []) = H3 at E3 h3 ht3 ⊢
      have P3 := P1.ex E3
      refine ⟨_, rfl, _, rfl, _, rfl, _, rfl, _, rfl, s, md, sh, er, pd, kvs, .read, b, .int (p : Int), x, rfl, P3.mo, hb, hops, g8.1, g8.2, P.chip.ne, P.chip.oct, p, rfl, hp, fun t4 H4 e4 ht4 => ?_⟩
      refine ⟨_, rfl, .inl ⟨rfl, _, rfl, ?_⟩⟩
      rw [decide_eq_false (show ¬ V.str Kn.read.s = V.str "write" from by decide)]
      have lO := pgL_len (P.chip.oct b hb).2 (show p < s.c.pages.toNat by omega)
      have sP : Sh (DT (pgL (s.os.getD b []) p)) 1 40000 := sh_t (sm_oct (pgL_oct (P.chip.oct b hb).1)) (by omega)
      exact iteF (fin16 TC (P3.ex e4) (SameC.refl s) (e4 _ _ h3) (dp_t (SqT.of (e4 _ _ ht3))) (dp_t (SqT.of ht4)) sP hb ((B1.ex E3).ex e4) (fun y o ny _ hy => e4 _ _ (E3 _ _ (E1 y o ny hy))) (q' (by omega)))
end
end K3
namespace K3
open PySem PySem.Spec PyProof.Rows L2 VB BM
/-- a list of texts -/
def SL (H : Hp) (a : Addr) : Prop := ∃ xs : List Str, H a = some (.lst (xs.map V.str))
theorem SL.ex {H H' : Hp} {a : Addr} (h : SL H a) (e : Evl.Ex H H') : SL H' a := by
  obtain ⟨xs, h⟩ := h
  exact ⟨xs, e _ _ h⟩
theorem SL.exb {H H' : Hp} {a bx : Addr} (h : SL H a) (n : a ≠ bx) (e : Exb bx H H') : SL H' a := by
  obtain ⟨xs, h⟩ := h
  exact ⟨xs, e _ _ n h⟩
theorem flat_strs (xs : List Str) : (xs.map V.str).all flatV = true := by
  rw [List.all_eq_true]
  intro x hx
  obtain ⟨y, _, rfl⟩ := List.mem_map.mp hx
  rfl
section
variable {K : PySem.W.Frag}
theorem At.exb {H H' : Hp} {v : V} {d : Dsc} {bx : Addr} (h : At K H v d) (n : ∀ a, v = .ref a → a ≠ bx) (e : Exb bx H H') : At K H' v d := h.via fun a u z k => e a u (n a z) k
/-- a text in a list of texts, or not -/
theorem in_strs {H : Hp} {a : Addr} {x : Str} {Q : VK} (h : SL H a) (q : ∀ b : Bool, Q (.bl b) H) : rIn K false (.str x) (.ref a) H Q := by
  obtain ⟨xs, h⟩ := h
  exact ⟨a, _, rfl, .inl (SqL.of h), rfl, flat_strs xs, q _⟩
theorem two {b : Bool} {A B : Prop} (h1 : A) (h2 : B) : if b = true then A else B := by
  cases b with
  | true => exact iteT h1
  | false => exact iteF h2
end
section
variable {P : Program} {w : World} {K : PySem.W.Frag} {mg : Str → Option Value} {base : Heap} {f : Addr} {fd : FuncData}
def spCall (K : PySem.W.Frag) : Sp := fun vs H Q _ => ∃ (bx ch dx md sh er pd : Addr) (s : CS) (kvs : List (List Key × V)) (c : Int), vs = [.ref bx, .ref ch, .ref md] ∧ Pair K H ch dx s md sh er pd kvs ∧ (∀ y, All ch s.c md sh er pd y → y ≠ bx) ∧ Box H bx c ∧ c < 50000000 ∧ s.c.ops < 1000 ∧
  ∀ (s' : CS) (kvs' : List (List Key × V)) (H' : Hp), Pair K H' ch dx s' md sh er pd kvs' → SameC s s' → Box H' bx (c + 200) → (∀ y o, y ≠ bx → ¬ Mut ch s.c md er pd y → H y = some o → H' y = some o) → Q (.bl true) H'
theorem ok_call (T : Txt K mg) (TC : TxC K) (F : FnP K "_law_call_right" s__law_call_right f fd) (C__law_take : Cal P w K mg base CX0 1 "_law_take" ["_law_box_here", "_law_many"] spTake) (C__law_drawn_octets : Cal P w K mg base CX0 2 "_law_drawn_octets" ["_law_box_here", "_law_old"] (spDrawn K)) (C__law_page : Cal P w K mg base CX0 1 "_law_page" ["_law_model", "_law_block", "_law_page_here"] (spPage K))
    (C__law_odd_index : Cal P w K mg base CX0 2 "_law_odd_index" ["_law_box_here", "_law_many"] (spOddIx K)) (C__law_odd_octets : Cal P w K mg base CX0 2 "_law_odd_octets" ["_law_box_here"] (spOddOc K)) (C__law_due_error : Cal P w K mg base CX0 3 "_law_due_error" ["_law_shape_here", "_law_kind", "_law_block", "_law_page_here", "_law_octets"] (spDue K))
    (C__law_done : Cal P w K mg base CX0 9 "_law_done" ["_law_chip", "_law_kind", "_law_block", "_law_page_here", "_law_octets", "_law_named"] (spDone K)) (C__law_is_very : Cal P w K mg base CX0 1 "_law_is_very" ["_law_given", "_law_value"] (spVery K)) (C__law_counts_right : Cal P w K mg base CX0 5 "_law_counts_right" ["_law_chip", "_law_model"] (spCnt K))
    (C__law_followed : Cal P w K mg base CX0 2 "_law_followed" ["_law_model", "_law_kind", "_law_block", "_law_page_here", "_law_octets"] (spFol K)) (C__law_is_page : Cal P w K mg base CX0 1 "_law_is_page" ["_law_told", "_law_due"] (spIsPage K)) (M_Chip__read : CalM P w K mg base (CX P w) 4 (Ch K) "read" ["self", "block", "page"] (spRead K)) :
    Fg P w K mg base CX0 10 f fd ["_law_box_here", "_law_chip", "_law_model"] (spCall K) := by
  refine fg_of F sc__law_call_right (fun vs H Q E h => ?_) (fun cdv A outer s₀ H vs Q E hr h => ⟨_, (PSs.nox (pss_cons (ps_set (i := 3) sc__law_call_right.nd rfl (by first | exact Or.inl rfl | exact Or.inr rfl) (pe_dget (Nat.lt_of_le_of_lt (Nat.add_le_add_left (by decide : 1 ≤ 64) _) hr.rm.units) (pv 2) pe_str (fun _ _ => rfl)))
  (pss_cons (ps_set (i := 4) sc__law_call_right.nd rfl (by first | exact Or.inl rfl | exact Or.inr rfl) (pe_ix (u_ix (K := K)) (pe_lst (pa_cons pe_str (pa_cons pe_str (pa_cons pe_str (pa_cons pe_str (pa_cons pe_str (pa_cons pe_str (pa_cons pe_str (pa_cons pe_str pa_nil))))))))) (pe_cal C__law_take hr.le pass0 (pa_cons (pv 0) (pa_cons pe_int pa_nil))) (fun _ _ => rfl)))
  (pss_cons (ps_set (i := 5) sc__law_call_right.nd rfl (by first | exact Or.inl rfl | exact Or.inr rfl) (pe_lst (pa_cons (pe_lst pa_nil) (pa_cons (pe_lst pa_nil) (pa_cons (pe_lst pa_nil) (pa_cons (pe_lst pa_nil) (pa_cons (pe_lst (pa_cons pe_str pa_nil)) (pa_cons (pe_lst (pa_cons pe_str pa_nil)) (pa_cons (pe_lst (pa_cons pe_str pa_nil)) (pa_cons (pe_lst (pa_cons pe_str (pa_cons pe_str pa_nil))) (pa_cons (pe_lst (pa_cons pe_str (pa_cons pe_str pa_nil))) pa_nil)))))))))))
  (pss_cons (ps_set (i := 5) sc__law_call_right.nd rfl (by first | exact Or.inl rfl | exact Or.inr rfl) (pe_ix (u_ix (K := K)) (pe_op (u_add (K := K)) (pv 5) (pe_lst (pa_cons (pe_lst (pa_cons pe_str (pa_cons pe_str pa_nil))) pa_nil))) (pe_cal C__law_take hr.le pass0 (pa_cons (pv 0) (pa_cons pe_int pa_nil))) (fun _ _ => rfl)))
  (pss_cons (ps_par3 (i := 6) (j := 7) (l := 8) rfl sc__law_call_right.nd rfl rfl rfl (by decide) (by decide) (by decide) rfl rfl rfl (pa_cons (pe_cal C__law_take hr.le pass0 (pa_cons (pv 0) (pa_cons pe_int pa_nil))) (pa_cons (pe_cal C__law_take hr.le pass0 (pa_cons (pv 0) (pa_cons pe_int pa_nil))) (pa_cons (pe_cmpR (u_eq (K := K) hr) (pe_cal C__law_take hr.le pass0 (pa_cons (pv 0) (pa_cons pe_int pa_nil))) pe_int (nomark _)) pa_nil))) (by rfl))
  (pss_cons (ps_if (pt_cmpR (u_eq (K := K) hr) (pe_cal C__law_take hr.le pass0 (pa_cons (pv 0) (pa_cons pe_int pa_nil))) pe_int (nomark _))
  (pss_one (ps_par (i := 6) (j := 7) rfl sc__law_call_right.nd rfl rfl (by decide) rfl rfl (pa_cons (pe_op op_sub (pe_op op_sub (pe_ix (u_ix (K := K)) (pv 3) pe_int (fun _ _ => rfl)) pe_int) (pe_cal C__law_take hr.le pass0 (pa_cons (pv 0) (pa_cons pe_int pa_nil)))) (pa_cons (pe_op op_sub (pe_op op_sub (pe_ix (u_ix (K := K)) (pv 3) pe_int (fun _ _ => rfl)) pe_int) (pe_cal C__law_take hr.le pass0 (pa_cons (pv 0) (pa_cons pe_int pa_nil)))) pa_nil)) (by rfl))) pss_nil)
  (pss_cons (ps_set (i := 9) sc__law_call_right.nd rfl (by first | exact Or.inl rfl | exact Or.inr rfl) (pe_cal C__law_drawn_octets hr.le pass0 (pa_cons (pv 0) (pa_cons (pe_cal C__law_page hr.le pass0 (pa_cons (pv 2) (pa_cons (pv 6) (pa_cons (pv 7) pa_nil)))) pa_nil))))
  (pss_cons (ps_if (pt_cmpR (u_in (K := K)) pe_str (pv 5) (by rfl))
  (pss_one (ps_set (i := 6) sc__law_call_right.nd rfl (by first | exact Or.inl rfl | exact Or.inr rfl) (pe_cal C__law_odd_index hr.le pass0 (pa_cons (pv 0) (pa_cons (pe_ix (u_ix (K := K)) (pv 3) pe_int (fun _ _ => rfl)) pa_nil))))) pss_nil)
  (pss_cons (ps_if (pt_cmpR (u_in (K := K)) pe_str (pv 5) (by rfl))
  (pss_one (ps_set (i := 7) sc__law_call_right.nd rfl (by first | exact Or.inl rfl | exact Or.inr rfl) (pe_cal C__law_odd_index hr.le pass0 (pa_cons (pv 0) (pa_cons (pe_ix (u_ix (K := K)) (pv 3) pe_int (fun _ _ => rfl)) pa_nil))))) pss_nil)
  (pss_cons (ps_if (pt_cmpR (u_in (K := K)) pe_str (pv 5) (by rfl))
  (pss_one (ps_set (i := 9) sc__law_call_right.nd rfl (by first | exact Or.inl rfl | exact Or.inr rfl) (pe_cal C__law_odd_octets hr.le pass0 (pa_cons (pv 0) pa_nil)))) (pss_one (ps_if (pt_cmpR (u_eq (K := K) hr) (pe_cal C__law_take hr.le pass0 (pa_cons (pv 0) (pa_cons pe_int pa_nil))) pe_int (nomark _))
  (pss_one (ps_set (i := 9) sc__law_call_right.nd rfl (by first | exact Or.inl rfl | exact Or.inr rfl) (pe_callTy (u_tup (K := K)) (by rfl) T.f_tuple (by decide +kernel) (pa_cons (pv 9) pa_nil)))) pss_nil)))
  (pss_cons (ps_par (i := 10) (j := 11) rfl sc__law_call_right.nd rfl rfl (by decide) rfl rfl (pa_cons (pe_cal C__law_due_error hr.le pass0 (pa_cons (pv 3) (pa_cons (pv 4) (pa_cons (pv 6) (pa_cons (pv 7) (pa_cons (pv 9) pa_nil)))))) (pa_cons (pe_callB (u_reprA (K := K) hr) (by rfl) T.f_repr (by decide +kernel) (pa_cons (pv 9) pa_nil)) pa_nil)) (by rfl))
  (pss_cons (ps_set (i := 12) sc__law_call_right.nd rfl (by first | exact Or.inl rfl | exact Or.inr rfl) (pe_cal C__law_done hr.le pass0 (pa_cons (pv 1) (pa_cons (pv 4) (pa_cons (pv 6) (pa_cons (pv 7) (pa_cons (pv 9) (pa_cons (pv 8) pa_nil))))))))
  (pss_cons (ps_if (pt_cmpR (u_ne (K := K) hr) (pe_callB (u_reprA (K := K) hr) (by rfl) T.f_repr (by decide +kernel) (pa_cons (pv 9) pa_nil)) (pv 11) (nomark _))
  (pss_one (ps_ret pe_bl)) pss_nil)
  (pss_cons (ps_if (pt_cmpR (u_ne (K := K) hr) (pv 10) (pe_lst pa_nil) (nomark _))
  (pss_one (ps_ret (pe_and (pe_cmpR (u_eq (K := K) hr) (pe_ix (u_ix (K := K)) (pv 12) pe_int (fun _ _ => rfl)) (pe_ix (u_ix (K := K)) (pv 10) pe_int (fun _ _ => rfl)) (nomark _)) (pe_and (pe_cal C__law_is_very hr.le pass0 (pa_cons (pe_ix (u_ix (K := K)) (pv 12) pe_int (fun _ _ => rfl)) (pa_cons (pe_ix (u_ix (K := K)) (pv 10) pe_int (fun _ _ => rfl)) pa_nil))) (pe_one (pe_cal C__law_counts_right hr.le pass0 (pa_cons (pv 1) (pa_cons (pv 2) pa_nil)))))))) pss_nil)
  (pss_cons (ps_set (i := 13) sc__law_call_right.nd rfl (by first | exact Or.inl rfl | exact Or.inr rfl) (pe_cal C__law_followed hr.le pass0 (pa_cons (pv 2) (pa_cons (pv 4) (pa_cons (pv 6) (pa_cons (pv 7) (pa_cons (pv 9) pa_nil)))))))
  (pss_cons (ps_if (PW.pt (pw_and (pt_cmpR (u_eq (K := K) hr) (pv 4) pe_str (nomark _)) (pw_and1 (pt_tru (K := K) (pe_callB (u_isi (K := K)) (by rfl) T.f_isinstance (by decide +kernel) (pa_cons (pv 9) (pa_cons (pe_bltn (v := .ty "list") rfl T.f_list (by decide +kernel) rfl) pa_nil))) (by intro _; rfl)))))
  (pss_cons (ps_asg pe_int (pg_sub (pv 9) (pe_cal C__law_take hr.le pass0 (pa_cons (pv 0) (pa_cons pe_int pa_nil))) set_list))
  (pss_one (ps_expr (pe_bm PySem.F.plainAttrs_list PySem.F.slot_list_append PySem.F.type_list_append mt_append (pv 9) (pa_cons pe_int pa_nil))))) pss_nil)
  (pss_cons (ps_if (PW.pt (pw_or (pt_cmpR (u_ne (K := K) hr) (pe_ix (u_ix (K := K)) (pv 12) pe_int (fun _ _ => rfl)) pe_str (nomark _)) (pw_or (pt_cmpR (u_ne (K := K) hr) (pe_callB (u_reprA (K := K) hr) (by rfl) T.f_repr (by decide +kernel) (pa_cons (pe_ix (u_ix (K := K)) (pv 12) pe_int (fun _ _ => rfl)) pa_nil)) (pe_callB (u_reprA (K := K) hr) (by rfl) T.f_repr (by decide +kernel) (pa_cons (pv 13) pa_nil)) (nomark _)) (pw_or1 (pt_not (pt_tru (K := K) (pe_cal C__law_counts_right hr.le pass0 (pa_cons (pv 1) (pa_cons (pv 2) pa_nil))) (by intro _; rfl)))))))
  (pss_one (ps_ret pe_bl)) pss_nil)
  (pss_one (ps_ret (pe_cal C__law_is_page hr.le pass0 (pa_cons (pe_calM M_Chip__read hr.le (passes_call takes_no (fun _ _ _ _ h => h)) (pv 1) (pa_cons (pv 6) (pa_cons pe_int pa_nil))) (pa_cons (pe_cal C__law_page hr.le pass0 (pa_cons (pv 2) (pa_cons (pv 6) (pa_cons pe_int pa_nil)))) pa_nil))))))))))))))))))))))), ?_⟩)
  · obtain ⟨bx, ch, dx, md, sh, er, pd, s, kvs, c, rfl, _⟩ := h
    rfl
  · obtain ⟨bx, ch, dx, md, sh, er, pd, s, kvs, c, rfl, P0, nb, B0, hc, hops, q⟩ := h
    show rs0 K { nx := fun x H' => Q V.non H', rt := Q } [some (.ref bx), some (.ref ch), some (.ref md), none, none, none, none, none, none, none, none, none, none, none] H
    have g8 := P0.chip.g8
    have b8 := P0.chip.b8
    have hnb := P0.chip.nb
    have o8 := P0.pl.bl
    have shE : ∀ {H' : Hp}, Exb bx H H' → H' sh = some (.lst (IV [s.c.blocks, s.c.pages, s.c.bad])) := fun e => (P0.exb B0 nb e).mo.hsh
    -- the octets, drawn, odd or a tuple
    have r10 : ∀ (k : Kn) (v5 : Option V) (v u x : V) (dv du d : Dsc) (nm : Bool) (H1 : Hp), Exb bx H H1 → Box H1 bx (c + 199) → At K H1 v dv → At K H1 u du → At K H1 x d → (∀ a, v = .ref a → H a = none ∧ a ≠ bx) → (∀ a, u = .ref a → H a = none ∧ a ≠ bx) → (∀ a, x = .ref a → H a = none ∧ a ≠ bx) →
        rs10 K { nx := fun x H' => Q V.non H', rt := Q } [some (.ref bx), some (.ref ch), some (.ref md), some (.ref sh), some (.str k.s), v5, some v, some u, some (.bl nm), some x, none, none, none, none] H1 := fun k v5 v u x dv du d nm H1 e1 B1 av au ax fv fu fx =>
      tail_ok TC P0 nb B0 e1 B1 (by omega) hops av au ax fv fu fx fun s' kvs' H' P' sc B' fr => q s' kvs' H' P' sc (B'.le (by omega)) fr
    have r9 : ∀ (k : Kn) (sp : Addr) (v u : V) (dv du : Dsc) (nm : Bool) (wa : Addr) (ws : List Int) (H1 : Hp), SL H1 sp → sp ≠ bx → Exb bx H H1 → Box H1 bx (c + 150) → At K H1 v dv → At K H1 u du → H1 wa = some (.lst (IV ws)) → Oct ws → ws.length = 31 → H wa = none → wa ≠ bx → (∀ a, v = .ref a → H a = none ∧ a ≠ bx) → (∀ a, u = .ref a → H a = none ∧ a ≠ bx) →
        rs9 K { nx := fun x H' => Q V.non H', rt := Q } [some (.ref bx), some (.ref ch), some (.ref md), some (.ref sh), some (.str k.s), some (.ref sp), some v, some u, some (.bl nm), some (.ref wa), none, none, none, none] H1 := by
      intro k sp v u dv du nm wa ws H1 hsp nsp e1 B1 av au hw ow lw fw nw fv fu
      have lw60 : (IV ws).length ≤ 60 := by rw [iv_len]; omega
      refine ⟨_, rfl, in_strs hsp fun bb => ⟨bb, rfl, two ?_ ?_⟩⟩
      · exact ⟨_, rfl, bx, _, rfl, B1, by omega, fun x d H2 ax no fx e2 B2 => r10 k _ v u x dv du d nm H2 (e1.trans e2) (B2.le (by omega)) (av.exb (fun a z => (fv a z).2) e2) (au.exb (fun a z => (fu a z).2) e2) ax fv fu fun a z => ⟨Exb.fresh e1 (fx a z).1 (fx a z).2, (fx a z).2⟩⟩
      · refine ⟨_, rfl, bx, 3, _, rfl, B1, by omega, by omega, by omega, fun r H2 r0 r1' e2 B2 => .inl ⟨rfl, _, rfl, ?_⟩⟩
        have hw2 := e2 _ _ nw hw
        have av2 := av.exb (fun a z => (fv a z).2) e2
        have au2 := au.exb (fun a z => (fu a z).2) e2
        refine if_eq (fun _ => ?_) (fun _ => ?_)
        · refine ⟨_, rfl, wa, _, rfl, .inl ⟨SqL.of hw2, fun l nl => ?_⟩⟩
          have y := Evl.Ex.new (o := .tup (IV ws)) nl
          have nlb := B2.at nl
          exact r10 k _ v u (.ref l) dv du (.sq true (IV ws)) nm _ ((e1.trans e2).trans (Exb.of y)) ((B2.ex y).le (by omega)) (av2.ex y) (au2.ex y) ⟨l, rfl, Sv.tup upd_same, flat_oct ow, lw60, (fun z => by cases z), fun _ => upd_same⟩ fv fu fun a z => by cases z; exact ⟨Exb.fresh (e1.trans e2) nl nlb, nlb⟩
        · exact r10 k _ v u (.ref wa) dv du (.sq false (IV ws)) nm H2 (e1.trans e2) (B2.le (by omega)) av2 au2 ⟨wa, rfl, Sv.lst hw2, flat_oct ow, lw60, (fun _ => hw2), fun z => by cases z⟩ fv fu fun a z => by cases z; exact ⟨fw, nw⟩
    have r8 : ∀ (k : Kn) (sp : Addr) (v : V) (dv : Dsc) (p : Nat) (nm : Bool) (wa : Addr) (ws : List Int) (H1 : Hp), SL H1 sp → sp ≠ bx → Exb bx H H1 → Box H1 bx (c + 140) → At K H1 v dv → (p : Int) < s.c.pages → H1 wa = some (.lst (IV ws)) → Oct ws → ws.length = 31 → H wa = none → wa ≠ bx → (∀ a, v = .ref a → H a = none ∧ a ≠ bx) →
        rs8 K { nx := fun x H' => Q V.non H', rt := Q } [some (.ref bx), some (.ref ch), some (.ref md), some (.ref sh), some (.str k.s), some (.ref sp), some v, some (.int (p : Int)), some (.bl nm), some (.ref wa), none, none, none, none] H1 := by
      intro k sp v dv p nm wa ws H1 hsp nsp e1 B1 av hp hw ow lw fw nw fv
      refine ⟨_, rfl, in_strs hsp fun bb => ⟨bb, rfl, two ?_ ?_⟩⟩
      · exact ⟨_, rfl, _, rfl, Sv.ix (x := .non) (Sv.lst (shE e1)) (i := 1) rfl ⟨bx, _, _, rfl, B1, by omega, by omega, by omega, fun u du H2 au no fu e2 B2 => r9 k sp v u dv du nm wa ws H2 (hsp.exb nsp e2) nsp (e1.trans e2) (B2.le (by omega)) (av.exb (fun a z => (fv a z).2) e2) au (e2 _ _ nw hw) ow lw fw nw fv fun a z => ⟨Exb.fresh e1 (fu a z).1 (fu a z).2, (fu a z).2⟩⟩⟩
      · exact r9 k sp v (.int (p : Int)) dv (.one (.int (p : Int))) nm wa ws H1 hsp nsp e1 (B1.le (by omega)) av ⟨rfl, flat_nat (by omega)⟩ hw ow lw fw nw fv fun a z => by cases z
    have r7 : ∀ (k : Kn) (sp : Addr) (b p : Nat) (nm : Bool) (wa : Addr) (ws : List Int) (H1 : Hp), SL H1 sp → sp ≠ bx → Exb bx H H1 → Box H1 bx (c + 130) → b < s.os.length → (p : Int) < s.c.pages → H1 wa = some (.lst (IV ws)) → Oct ws → ws.length = 31 → H wa = none → wa ≠ bx →
        rs7 K { nx := fun x H' => Q V.non H', rt := Q } [some (.ref bx), some (.ref ch), some (.ref md), some (.ref sh), some (.str k.s), some (.ref sp), some (.int (b : Int)), some (.int (p : Int)), some (.bl nm), some (.ref wa), none, none, none, none] H1 := by
      intro k sp b p nm wa ws H1 hsp nsp e1 B1 hb hp hw ow lw fw nw
      refine ⟨_, rfl, in_strs hsp fun bb => ⟨bb, rfl, two ?_ ?_⟩⟩
      · exact ⟨_, rfl, _, rfl, Sv.ix (x := .non) (Sv.lst (shE e1)) (i := 0) rfl ⟨bx, _, _, rfl, B1, by omega, by omega, by omega, fun v dv H2 av no fv e2 B2 => r8 k sp v dv p nm wa ws H2 (hsp.exb nsp e2) nsp (e1.trans e2) (B2.le (by omega)) av hp (e2 _ _ nw hw) ow lw fw nw fun a z => ⟨Exb.fresh e1 (fv a z).1 (fv a z).2, (fv a z).2⟩⟩⟩
      · exact r8 k sp (.int (b : Int)) (.one (.int (b : Int))) p nm wa ws H1 hsp nsp e1 (B1.le (by omega)) ⟨rfl, flat_nat (by omega)⟩ hp hw ow lw fw nw fun a z => by cases z
    have r6 : ∀ (k : Kn) (sp : Addr) (b p : Nat) (nm : Bool) (H1 : Hp), SL H1 sp → sp ≠ bx → Exb bx H H1 → Box H1 bx (c + 80) → b < s.os.length → (p : Int) < s.c.pages →
        rs6 K { nx := fun x H' => Q V.non H', rt := Q } [some (.ref bx), some (.ref ch), some (.ref md), some (.ref sh), some (.str k.s), some (.ref sp), some (.int (b : Int)), some (.int (p : Int)), some (.bl nm), none, none, none, none, none] H1 := by
      intro k sp b p nm H1 hsp nsp e1 B1 hb hp
      have P1 := P0.exb B0 nb e1
      refine ⟨_, rfl, _, rfl, _, rfl, _, rfl, s, md, sh, er, pd, kvs, b, p, rfl, P1.mo, hb, hp, fun t H2 e2 ht => ?_⟩
      have oc := P0.chip.oct b hb
      refine ⟨bx, t, _, _, rfl, B1.ex e2, by omega, ht, pgL_oct oc.1, pgL_len oc.2 (by omega), fun wa ws H3 e3 B3 hw ow lw nw wb => ?_⟩
      have E2 := e1.trans (Exb.of e2)
      exact r7 k sp b p nm wa ws H3 ((hsp.ex e2).exb nsp e3) nsp (E2.trans e3) (B3.le (by omega)) hb hp hw ow lw (Exb.fresh E2 nw wb) wb
    have hsh0 := P0.mo.hsh
    have r5 : ∀ (k : Kn) (sp : Addr) (b p : Nat) (nm : Bool) (H1 : Hp), SL H1 sp → sp ≠ bx → Exb bx H H1 → Box H1 bx (c + 60) → b < s.os.length → (p : Int) < s.c.pages →
        rs5 K { nx := fun x H' => Q V.non H', rt := Q } [some (.ref bx), some (.ref ch), some (.ref md), some (.ref sh), some (.str k.s), some (.ref sp), some (.int (b : Int)), some (.int (p : Int)), some (.bl nm), none, none, none, none, none] H1 := by
      intro k sp b p nm H1 hsp nsp e1 B1 hb hp
      refine ⟨_, rfl, bx, 4, _, rfl, B1, by omega, by omega, by omega, fun r H2 r0 r1 e2 B2 => .inl ⟨rfl, _, rfl, ?_⟩⟩
      have hsp2 := hsp.exb nsp e2
      refine if_eq (fun _ => ?_) (fun _ => ?_)
      · refine ⟨_, rfl, Sv.ix (x := .non) (Sv.lst (shE (e1.trans e2))) (i := 0) rfl ⟨_, _, rfl, rfl, _, rfl, bx, 2, _, rfl, B2, by omega, by omega, by omega, fun t1 H3 t10 t11 e3 B3 => ⟨_, _, rfl, rfl, _, rfl, Sv.ix (x := .non) (Sv.lst (shE ((e1.trans e2).trans e3))) (i := 1) rfl ⟨_, _, rfl, rfl, _, rfl, bx, 2, _, rfl, B3, by omega, by omega, by omega, fun t2 H4 t20 t21 e4 B4 => ⟨_, _, rfl, rfl, _, _, rfl, ?_⟩⟩⟩⟩⟩
        obtain ⟨b', hb'⟩ : ∃ b' : Nat, s.c.blocks - 1 - t1 = (b' : Int) := ⟨(s.c.blocks - 1 - t1).toNat, by omega⟩
        obtain ⟨p', hp'⟩ : ∃ p' : Nat, s.c.pages - 1 - t2 = (p' : Int) := ⟨(s.c.pages - 1 - t2).toNat, by omega⟩
        dsimp only
        rw [hb', hp']
        exact r6 k sp b' p' nm H4 ((hsp2.exb nsp e3).exb nsp e4) nsp (((e1.trans e2).trans e3).trans e4) (B4.le (by omega)) (by omega) (by omega)
      · exact r6 k sp b p nm H2 hsp2 nsp (e1.trans e2) (B2.le (by omega)) hb hp
    have r4 : ∀ (k : Kn) (sp : Addr) (H1 : Hp), SL H1 sp → sp ≠ bx → Exb bx H H1 → Box H1 bx (c + 50) →
        rs4 K { nx := fun x H' => Q V.non H', rt := Q } [some (.ref bx), some (.ref ch), some (.ref md), some (.ref sh), some (.str k.s), some (.ref sp), none, none, none, none, none, none, none, none] H1 := by
      intro k sp H1 hsp nsp e1 B1
      refine ⟨_, rfl, bx, 3, _, rfl, B1, by omega, by omega, by omega, fun b H2 b0 b1 e2 B2 => ⟨_, rfl, bx, 3, _, rfl, B2, by omega, by omega, by omega, fun p H3 p0 p1 e3 B3 => ⟨_, rfl, bx, 3, _, rfl, B3, by omega, by omega, by omega, fun n H4 n0 n1 e4 B4 => .inl ⟨rfl, _, _, _, rfl, ?_⟩⟩⟩⟩
      obtain ⟨b', rfl⟩ : ∃ b' : Nat, b = b' := ⟨b.toNat, by omega⟩
      obtain ⟨p', rfl⟩ : ∃ p' : Nat, p = p' := ⟨p.toNat, by omega⟩
      exact r5 k sp b' p' _ H4 (((hsp.exb nsp e2).exb nsp e3).exb nsp e4) nsp (((e1.trans e2).trans e3).trans e4) (B4.le (by omega)) (by omega) (by omega)
    -- the kind, and what is spoilt
    refine ⟨_, rfl, md, _, rfl, (getM P0.mo).1, ?_⟩
    refine ⟨by show 8 ≤ sizeLine; decide, fun M nM => ?_⟩
    have y0 := Evl.Ex.new (o := .lst [V.str "write", .str "write", .str "write", .str "write", .str "erase", .str "read", .str "read", .str "erases"]) nM
    have nMb := B0.at nM
    have hM := upd_same (H := H) (a := M) (o := .lst [V.str "write", .str "write", .str "write", .str "write", .str "erase", .str "read", .str "read", .str "erases"])
    refine ⟨_, rfl, bx, 8, c, rfl, B0.ex y0, by omega, by omega, by omega, fun r H1 r0 r1 e1 B1 => menu_v (e1 M _ nMb hM) r0 (by show _ < 8; omega) fun v hv => ?_⟩
    obtain ⟨k, rfl⟩ : ∃ k : Kn, v = .str k.s := by
      simp only [List.mem_cons, List.not_mem_nil, or_false] at hv
      rcases hv with rfl | rfl | rfl | rfl | rfl | rfl | rfl | rfl
      · exact ⟨.write, rfl⟩
      · exact ⟨.write, rfl⟩
      · exact ⟨.write, rfl⟩
      · exact ⟨.write, rfl⟩
      · exact ⟨.erase, rfl⟩
      · exact ⟨.read, rfl⟩
      · exact ⟨.read, rfl⟩
      · exact ⟨.erases, rfl⟩
    have E1 : Exb bx H H1 := (Exb.of y0).trans e1
    refine ⟨by show 0 ≤ sizeLine; decide, fun a1 n1 => ⟨by show 0 ≤ sizeLine; decide, fun a2 n2 => ⟨by show 0 ≤ sizeLine; decide, fun a3 n3 => ⟨by show 0 ≤ sizeLine; decide, fun a4 n4 => ⟨by show 1 ≤ sizeLine; decide, fun a5 n5 => ⟨by show 1 ≤ sizeLine; decide, fun a6 n6 => ⟨by show 1 ≤ sizeLine; decide, fun a7 n7 => ⟨by show 2 ≤ sizeLine; decide, fun a8 n8 => ⟨by show 2 ≤ sizeLine; decide, fun a9 n9 => ⟨by show 9 ≤ sizeLine; decide, fun L nL => ?_⟩⟩⟩⟩⟩⟩⟩⟩⟩⟩
    have z1 := Evl.Ex.new (o := .lst (([] : List Str).map V.str)) n1
    have z2 := Evl.Ex.new (o := .lst (([] : List Str).map V.str)) n2
    have z3 := Evl.Ex.new (o := .lst (([] : List Str).map V.str)) n3
    have z4 := Evl.Ex.new (o := .lst (([] : List Str).map V.str)) n4
    have z5 := Evl.Ex.new (o := .lst ((["block"] : List Str).map V.str)) n5
    have z6 := Evl.Ex.new (o := .lst ((["page"] : List Str).map V.str)) n6
    have z7 := Evl.Ex.new (o := .lst ((["octets"] : List Str).map V.str)) n7
    have z8 := Evl.Ex.new (o := .lst ((["page", "octets"] : List Str).map V.str)) n8
    have z9 := Evl.Ex.new (o := .lst ((["block", "octets"] : List Str).map V.str)) n9
    have zL := Evl.Ex.new (o := .lst [V.ref a1, .ref a2, .ref a3, .ref a4, .ref a5, .ref a6, .ref a7, .ref a8, .ref a9]) nL
    have w8 := z9.trans zL
    have w7 := z8.trans w8
    have w6 := z7.trans w7
    have w5 := z6.trans w6
    have w4 := z5.trans w5
    have w3 := z4.trans w4
    have w2 := z3.trans w3
    have w1 := z2.trans w2
    have w0 := z1.trans w1
    have f2 := Evl.fresh_back z1 n2
    have f3 := Evl.fresh_back (z1.trans z2) n3
    have f4 := Evl.fresh_back ((z1.trans z2).trans z3) n4
    have f5 := Evl.fresh_back (((z1.trans z2).trans z3).trans z4) n5
    have f6 := Evl.fresh_back ((((z1.trans z2).trans z3).trans z4).trans z5) n6
    have f7 := Evl.fresh_back (((((z1.trans z2).trans z3).trans z4).trans z5).trans z6) n7
    have f8 := Evl.fresh_back ((((((z1.trans z2).trans z3).trans z4).trans z5).trans z6).trans z7) n8
    have f9 := Evl.fresh_back (((((((z1.trans z2).trans z3).trans z4).trans z5).trans z6).trans z7).trans z8) n9
    have fL := Evl.fresh_back ((((((((z1.trans z2).trans z3).trans z4).trans z5).trans z6).trans z7).trans z8).trans z9) nL
    refine ⟨_, rfl, by show 2 ≤ sizeLine; decide, fun b1 m1 => ⟨by show 1 ≤ sizeLine; decide, fun b2 m2 => ?_⟩⟩
    have u1 := Evl.Ex.new (o := .lst ((["block", "page"] : List Str).map V.str)) m1
    have u2 := Evl.Ex.new (o := .lst [V.ref b1]) m2
    refine .inr (.inl ⟨L, b2, _, _, rfl, rfl, u2 _ _ (u1 _ _ upd_same), upd_same, Evl.sz_of (by show 9 + 1 ≤ _; omega), fun t nt => ?_⟩)
    have u3 := Evl.Ex.new (o := .lst ([V.ref a1, .ref a2, .ref a3, .ref a4, .ref a5, .ref a6, .ref a7, .ref a8, .ref a9] ++ [V.ref b1])) nt
    have U := (u1.trans u2).trans u3
    have W := w0.trans U
    have ft := Evl.fresh_back (w0.trans (u1.trans u2)) nt
    have fb := Evl.fresh_back w0 m1
    have tb := B1.at ft
    have sl : ∀ sp, sp ∈ [a1, a2, a3, a4, a5, a6, a7, a8, a9, b1] → SL (upd (upd (upd (upd (upd (upd (upd (upd (upd (upd (upd (upd (upd H1 a1 (.lst (([] : List Str).map V.str))) a2 (.lst (([] : List Str).map V.str))) a3 (.lst (([] : List Str).map V.str))) a4 (.lst (([] : List Str).map V.str))) a5 (.lst ((["block"] : List Str).map V.str))) a6 (.lst ((["page"] : List Str).map V.str))) a7 (.lst ((["octets"] : List Str).map V.str))) a8 (.lst ((["page", "octets"] : List Str).map V.str))) a9 (.lst ((["block", "octets"] : List Str).map V.str))) L (.lst [V.ref a1, .ref a2, .ref a3, .ref a4, .ref a5, .ref a6, .ref a7, .ref a8, .ref a9])) b1 (.lst ((["block", "page"] : List Str).map V.str))) b2 (.lst [V.ref b1])) t (.lst ([V.ref a1, .ref a2, .ref a3, .ref a4, .ref a5, .ref a6, .ref a7, .ref a8, .ref a9] ++ [V.ref b1]))) sp ∧ sp ≠ bx := by
      intro sp hs
      simp only [List.mem_cons, List.not_mem_nil, or_false] at hs
      rcases hs with rfl | rfl | rfl | rfl | rfl | rfl | rfl | rfl | rfl | rfl
      · exact ⟨⟨([] : List Str), U _ _ (w1 _ _ upd_same)⟩, B1.at n1⟩
      · exact ⟨⟨([] : List Str), U _ _ (w2 _ _ upd_same)⟩, B1.at f2⟩
      · exact ⟨⟨([] : List Str), U _ _ (w3 _ _ upd_same)⟩, B1.at f3⟩
      · exact ⟨⟨([] : List Str), U _ _ (w4 _ _ upd_same)⟩, B1.at f4⟩
      · exact ⟨⟨(["block"] : List Str), U _ _ (w5 _ _ upd_same)⟩, B1.at f5⟩
      · exact ⟨⟨(["page"] : List Str), U _ _ (w6 _ _ upd_same)⟩, B1.at f6⟩
      · exact ⟨⟨(["octets"] : List Str), U _ _ (w7 _ _ upd_same)⟩, B1.at f7⟩
      · exact ⟨⟨(["page", "octets"] : List Str), U _ _ (w8 _ _ upd_same)⟩, B1.at f8⟩
      · exact ⟨⟨(["block", "octets"] : List Str), U _ _ (zL _ _ upd_same)⟩, B1.at f9⟩
      · exact ⟨⟨(["block", "page"] : List Str), u3 _ _ (u2 _ _ upd_same)⟩, B1.at fb⟩
    refine ⟨_, rfl, bx, 10, c + 1, rfl, B1.ex W, by omega, by omega, by omega, fun r' H2 r0' r1' e2 B2 => menu_v (e2 t _ tb upd_same) r0' (by show _ < 10; omega) fun v hv => ?_⟩
    obtain ⟨sp, rfl, hs⟩ : ∃ sp, v = .ref sp ∧ sp ∈ [a1, a2, a3, a4, a5, a6, a7, a8, a9, b1] := by
      have hv : v ∈ [a1, a2, a3, a4, a5, a6, a7, a8, a9, b1].map V.ref := hv
      obtain ⟨sp, h1, h2⟩ := List.mem_map.mp hv
      exact ⟨sp, h2.symm, h1⟩
    obtain ⟨s1, s2⟩ := sl sp hs
    exact r4 k sp H2 (s1.exb s2 e2) s2 ((E1.trans (Exb.of W)).trans e2) (B2.le (by omega))
end
end K3
namespace K3
open PySem PySem.Spec PyProof.Rows L2 VB BM
section
variable {P : Program} {w : World} {K : PySem.W.Frag} {mg : Str → Option Value} {base : Heap} {f : Addr} {fd : FuncData}
def spPgs (K : PySem.W.Frag) : Sp := fun vs H Q _ => ∃ (ch dx md sh er pd : Addr) (s : CS) (kvs : List (List Key × V)), vs = [.ref ch, .ref md] ∧ Pair K H ch dx s md sh er pd kvs ∧ RV (.bl true) H Q
theorem ok_pages (T : Txt K mg) (TC : TxC K) (F : FnP K "_law_pages_right" s__law_pages_right f fd) (C__law_page : Cal P w K mg base CX0 1 "_law_page" ["_law_model", "_law_block", "_law_page_here"] (spPage K)) (C__law_is_page : Cal P w K mg base CX0 1 "_law_is_page" ["_law_told", "_law_due"] (spIsPage K)) (C__law_counts_right : Cal P w K mg base CX0 5 "_law_counts_right" ["_law_chip", "_law_model"] (spCnt K))
    (M_Chip__read : CalM P w K mg base (CX P w) 4 (Ch K) "read" ["self", "block", "page"] (spRead K)) : Fg P w K mg base CX0 6 f fd ["_law_chip", "_law_model"] (spPgs K) := by
  refine fg_of F sc__law_pages_right (fun vs H Q E h => ?_) (fun cdv A outer s₀ H vs Q E hr h => ⟨_, (PSs.nox (pss_cons (ps_for PassesOwn.never rfl (pi_range1 rfl T.f_range (pa_cons (pe_ix (u_ix (K := K)) (pe_dget (Nat.lt_of_le_of_lt (Nat.add_le_add_left (by decide : 1 ≤ 64) _) hr.rm.units) (pv 1) pe_str (fun _ _ => rfl)) pe_int (fun _ _ => rfl)) pa_nil)) (pg_name (i := 2) sc__law_pages_right.nd rfl (by first | exact Or.inl rfl | exact Or.inr rfl))
  (pss_one (ps_for PassesOwn.never rfl (pi_range1 rfl T.f_range (pa_cons (pe_ix (u_ix (K := K)) (pe_dget (Nat.lt_of_le_of_lt (Nat.add_le_add_left (by decide : 1 ≤ 64) _) hr.rm.units) (pv 1) pe_str (fun _ _ => rfl)) pe_int (fun _ _ => rfl)) pa_nil)) (pg_name (i := 3) sc__law_pages_right.nd rfl (by first | exact Or.inl rfl | exact Or.inr rfl))
  (pss_one (ps_if (pt_not (pt_tru (K := K) (pe_cal C__law_is_page hr.le pass0 (pa_cons (pe_calM M_Chip__read hr.le (passes_call takes_no (fun _ _ _ _ h => h)) (pv 0) (pa_cons (pv 2) (pa_cons (pv 3) pa_nil))) (pa_cons (pe_cal C__law_page hr.le pass0 (pa_cons (pv 1) (pa_cons (pv 2) (pa_cons (pv 3) pa_nil)))) pa_nil))) (by intro _; rfl)))
  (pss_one (ps_ret pe_bl)) pss_nil)))))
  (pss_one (ps_ret (pe_cal C__law_counts_right hr.le pass0 (pa_cons (pv 0) (pa_cons (pv 1) pa_nil))))))), ?_⟩)
  · obtain ⟨ch, dx, md, sh, er, pd, s, kvs, rfl, _⟩ := h
    rfl
  · obtain ⟨ch, dx, md, sh, er, pd, s, kvs, rfl, P0, q⟩ := h
    have g8 := P0.chip.g8
    have b8 := P0.chip.b8
    have nb := P0.chip.nb
    have nn : s.c.blocks.toNat = s.os.length := by omega
    have pp : (s.c.pages.toNat : Int) = s.c.pages := by omega
    refine ⟨_, rfl, md, _, rfl, (getM P0.mo).1, Sv.ix (x := .non) (Sv.lst P0.mo.hsh) (i := 0) rfl ⟨s.c.blocks, rfl, by omega, by omega, ?_⟩⟩
    rw [nn]
    refine for_range (lo := 0) (n := s.os.length) (fun i σ H' => i ≤ s.os.length ∧ Evl.Ex H H' ∧ ∃ v2 v3 : Option V, σ = [some (.ref ch), some (.ref md), v2, v3]) ⟨by omega, Evl.Ex.refl _, _, _, rfl⟩ ?_ ?_
    · rintro b σ H1 hb ⟨_, e1, v2, v3, rfl⟩
      have ez : (0 : Int) + (b : Int) = (b : Int) := Int.zero_add _
      rw [ez]
      have P1 := P0.ex e1
      refine ⟨_, rfl, md, _, rfl, (getM P1.mo).1, Sv.ix (x := .non) (Sv.lst P1.mo.hsh) (i := 1) rfl ⟨s.c.pages, rfl, by omega, by omega, ?_⟩⟩
      refine for_range (lo := 0) (n := s.c.pages.toNat) (fun p σ H' => p ≤ s.c.pages.toNat ∧ Evl.Ex H H' ∧ ∃ v3 : Option V, σ = [some (.ref ch), some (.ref md), some (.int (b : Int)), v3]) ⟨by omega, e1, _, rfl⟩ ?_ ?_
      · rintro p σ H2 hp ⟨_, e2, v3, rfl⟩
        have ey : (0 : Int) + (p : Int) = (p : Int) := Int.zero_add _
        rw [ey]
        have P2 := P0.ex e2
        have iv : isIx (.int (b : Int)) 0 (s.c.blocks - 1) = true := isIx_int (by omega) (by omega)
        have ip : isIx (.int (p : Int)) 0 (s.c.pages - 1) = true := isIx_int (by omega) (by omega)
        refine ⟨_, rfl, ch, dx, _, rfl, P2.chip.ins, rfl, _, rfl, _, rfl, ch, dx, s, .int (b : Int), .int (p : Int), rfl, P2.chip, .flat (flat_nat (by omega)), .flat (flat_nat (by omega)), (fun (z : isIx (.int (b : Int)) 0 (s.c.blocks - 1) = false) => by rw [iv] at z; cases z), (fun _ (z : isIx (.int (p : Int)) 0 (s.c.pages - 1) = false) => by rw [ip] at z; cases z), fun b' p' hb' hp' b1 p1 t H3 nt e3 ht => ?_⟩
        obtain rfl : b' = b := by
          have := V.int.inj hb'
          omega
        obtain rfl : p' = p := by
          have := V.int.inj hp'
          omega
        have P3 := P2.ex e3
        refine ⟨_, rfl, _, rfl, _, rfl, s, md, sh, er, pd, kvs, b', p', rfl, P3.mo, b1, p1, fun t2 H4 e4 ht2 => ⟨t, t2, _, rfl, e4 _ _ ht, ht2, ?_, fun H5 e5 => ⟨true, rfl, iteF ⟨by omega, ((e2.trans e3).trans e4).trans e5, _, rfl⟩⟩⟩⟩
        have := pgL_len (P3.chip.oct b' b1).2 (p := p') (by omega)
        omega
      · rintro σ H2 ⟨_, e2, v3, rfl⟩
        exact ⟨by omega, e2, _, _, rfl⟩
    · rintro σ H1 ⟨_, e1, v2, v3, rfl⟩
      have P1 := P0.ex e1
      exact ⟨_, rfl, _, rfl, ch, dx, s, md, sh, er, pd, kvs, rfl, P1.chip, P1.pl, P1.mo, fun H2 e2 => q _ (e1.trans e2)⟩
end
end K3
namespace K3
open PySem PySem.Spec PyProof.Rows L2 VB BM
/-- a new chip -/
def newS (c : Cp) (rs : List Addr) (n g : Nat) : CS := ⟨c, rs, List.replicate n (List.replicate (31 * g) 255), List.replicate n 0, List.replicate n false, [], []⟩
theorem rep_at {α : Type} (n i : Nat) (x d : α) (h : i < n) : (List.replicate n x).getD i d = x := by
  rw [List.getD_eq_getElem?_getD, List.getElem?_replicate, if_pos h]
  rfl
section
variable {P : Program} {w : World} {K : PySem.W.Frag} {mg : Str → Option Value} {base : Heap} {f : Addr} {fd : FuncData}
theorem newChip {H : Hp} {x dx : Addr} {c : Cp} {rs : List Addr} {n g : Nat} (n0 : n ≤ 24) (g0 : 8 ≤ g ∧ g ≤ 16) (c1 : c.blocks = (n : Int)) (c2 : c.pages = (g : Int)) (h1 : H x = some (.ins (Ch K) dx c.fs)) (lr : rs.length = n) (ar : ∀ r ∈ rs, H r = some (.tup (IV (List.replicate (31 * g) 255))))
    (ho : H c.o = some (.lst (rs.map V.ref))) (he : H c.e = some (.lst (IV (List.replicate n 0)))) (ht : H c.t = some (.lst (BV (List.replicate n false)))) (hp : H c.p = some (.dK [])) (hq : H c.q = some (.dK [])) (hrr : H c.r = some (.dK [])) (n1 : c.o ≠ c.e) (n2 : c.o ≠ c.t) (n3 : c.e ≠ c.t) (n4 : c.p ≠ c.q) (n5 : c.p ≠ c.r) (n6 : c.q ≠ c.r) :
    ChipAt K H x dx (newS c rs n g) := by
  have ln : (newS c rs n g).os.length = n := List.length_replicate
  have o255 : Oct (List.replicate (31 * g) 255) := fun i hi => by
    have := List.eq_of_mem_replicate hi
    omega
  refine ⟨h1, ho, he, ht, hp, hq, fun i hi => ?_, n1, n2, n3, n4, ?_, ?_, ?_, ?_, ?_, ?_, fun i hi => ?_, hrr, n5, n6⟩
  · rw [ln] at hi
    show H (rs.getD i 0) = some (.tup (IV ((List.replicate n (List.replicate (31 * g) (255 : Int))).getD i [])))
    rw [rep_at _ _ _ _ hi]
    refine ar _ ?_
    rw [List.getD_eq_getElem?_getD, List.getElem?_eq_getElem (by omega)]
    exact List.getElem_mem _
  · rw [ln]
    exact lr
  · rw [ln]
    exact List.length_replicate
  · rw [ln]
    exact List.length_replicate
  · rw [ln]
    exact c1
  · rw [ln]
    exact n0
  · show 8 ≤ c.pages ∧ c.pages ≤ 16
    omega
  · rw [ln] at hi
    show Oct ((List.replicate n (List.replicate (31 * g) (255 : Int))).getD i []) ∧ ((List.replicate n (List.replicate (31 * g) (255 : Int))).getD i []).length = 31 * c.pages.toNat
    rw [rep_at _ _ _ _ hi]
    exact ⟨o255, by rw [List.length_replicate, c2]; rfl⟩
theorem plainNew {c : Cp} {rs : List Addr} {n g : Nat} (h : 8 ≤ n) (h1 : c.cuts = 0) (h2 : 0 ≤ c.bad ∧ c.bad ≤ 17) : Plain (newS c rs n g) :=
  ⟨rfl, rfl, fun b hb => by
    have hb : b < (List.replicate n (List.replicate (31 * g) (255 : Int))).length := hb
    rw [List.length_replicate] at hb
    show (List.replicate n false).getD b false = false
    rw [rep_at _ _ _ _ hb], h1, h2, by show 8 ≤ (List.replicate n (List.replicate (31 * g) (255 : Int))).length; rw [List.length_replicate]; exact h⟩
/-- what stands behind a making -/
structure Made (K : PySem.W.Frag) (H H' : Hp) (x dx : Addr) (c : Cp) (rs : List Addr) (n g bd : Nat) : Prop where
  chip : ChipAt K H' x dx (newS c rs n g)
  pl : Plain (newS c rs n g)
  ex : Evl.Ex H H'
  new : ∀ y, Own x c y → H y = none
  bl : c.blocks = (n : Int)
  pg : c.pages = (g : Int)
  bd : c.bad = (bd : Int)
  ops : c.ops = 0
/-- the first number that is wrong -/
def shV (v u z : V) : Option V := if isIx v 8 24 = false then some v else if isIx u 8 16 = false then some u else match v with
  | .int n => if isIx z 0 (n - 7) = false then some z else none
  | _ => none
theorem init_any {H : Hp} {x dx : Addr} {v u z : V} {R : Hp → Prop} {E : XK} (hx : H x = none) (hdx : H dx = none) (ne : dx ≠ x) (kv : KV K H v) (ku : KV K H u) (kz : KV K H z)
    (qE : ∀ y, shV v u z = some y → ∀ H1, Evl.Ex H H1 → Fl K "InvalidShape" y H1 E)
    (q : ∀ (n g bd : Nat) (c : Cp) (rs : List Addr) (H' : Hp), shV v u z = none → v = .int (n : Int) → u = .int (g : Int) → z = .int (bd : Int) → 8 ≤ n → n ≤ 24 → 8 ≤ g → g ≤ 16 → (bd : Int) ≤ (n : Int) - 7 → Made K H H' x dx c rs n g bd → R H') :
    spInitC K [.ref x, v, u, z] (upd (upd H dx (.own x)) x (.ins (Ch K) dx [])) (fun v H2 => v = .non ∧ R H2) E := by
  have e0 : Evl.Ex H (upd (upd H dx (.own x)) x (.ins (Ch K) dx [])) := by
    intro y o hy
    have y1 : y ≠ x := fun z => by rw [z, hx] at hy; cases hy
    have y2 : y ≠ dx := fun z => by rw [z, hdx] at hy; cases hy
    rw [upd_ne y1, upd_ne y2]
    exact hy
  refine ⟨x, dx, v, u, z, rfl, upd_same, kv.ex e0, ku.ex e0, kz.ex e0, fun hv => qE v (by unfold shV; rw [if_pos hv]) _ e0, fun hv hu => qE u (by unfold shV; rw [if_neg (by rw [hv]; simp), if_pos hu]) _ e0, ?_, ?_⟩
  · rintro n rfl hv hu hz
    refine qE z ?_ _ e0
    unfold shV
    rw [if_neg (by rw [hv]; simp), if_neg (by rw [hu]; simp)]
    dsimp only
    rw [if_pos hz]
  · intro n g bd ev eu ez n8 n24 g8 g16 hb c rs H' c1 c2 c3 c4 c5 ke h1 lr ar ho he ht hp hq hrr n1 n2 n3 n4 n5 n6 fo fe ft fp fq frr
    refine ⟨rfl, q n g bd c rs H' ?_ ev eu ez n8 n24 g8 g16 hb ⟨newChip n24 ⟨g8, g16⟩ c1 c2 h1 lr ar ho he ht hp hq hrr n1 n2 n3 n4 n5 n6, plainNew n8 c5 (by omega), fun y o hy => ?_, fun y o => ?_, c1, c2, c3, c4⟩⟩
    · subst ev eu ez
      unfold shV
      rw [if_neg (by rw [isIx_int (by omega) (by omega)]; simp), if_neg (by rw [isIx_int (by omega) (by omega)]; simp)]
      dsimp only
      rw [if_neg (by rw [isIx_int (by omega) (by omega)]; simp)]
    · have y1 : y ≠ x := fun z => by rw [z, hx] at hy; cases hy
      exact ke y o y1 (e0 y o hy)
    · cases hy : H y with
      | none => rfl
      | some u =>
        have g := e0 y u hy
        have y1 : y ≠ x := fun z => by rw [z, hx] at hy; cases hy
        rcases o with rfl | rfl | rfl | rfl | rfl | rfl | rfl
        · exact absurd rfl y1
        · rw [fo] at g; cases g
        · rw [fe] at g; cases g
        · rw [ft] at g; cases g
        · rw [fp] at g; cases g
        · rw [fq] at g; cases g
        · rw [frr] at g; cases g
/-- numbers that a chip has -/
theorem init_good {H : Hp} {x dx : Addr} {n g bd : Nat} {R : Hp → Prop} {E : XK} (hx : H x = none) (hdx : H dx = none) (ne : dx ≠ x) (n8 : 8 ≤ n) (n24 : n ≤ 24) (g8 : 8 ≤ g) (g16 : g ≤ 16) (hb : (bd : Int) ≤ (n : Int) - 7)
    (q : ∀ (c : Cp) (rs : List Addr) (H' : Hp), Made K H H' x dx c rs n g bd → R H') : spInitC K [.ref x, .int (n : Int), .int (g : Int), .int (bd : Int)] (upd (upd H dx (.own x)) x (.ins (Ch K) dx [])) (fun v H2 => v = .non ∧ R H2) E := by
  refine init_any hx hdx ne (.flat (flat_nat (by omega))) (.flat (flat_nat (by omega))) (.flat (flat_nat (by omega))) (fun y hy => ?_) fun n' g' bd' c rs H' _ e1 e2 e3 _ _ _ _ _ M => ?_
  · unfold shV at hy
    rw [if_neg (by rw [isIx_int (by omega) (by omega)]; simp), if_neg (by rw [isIx_int (by omega) (by omega)]; simp)] at hy
    dsimp only at hy
    rw [if_neg (by rw [isIx_int (by omega) (by omega)]; simp)] at hy
    cases hy
  · have := V.int.inj e1
    have := V.int.inj e2
    have := V.int.inj e3
    obtain rfl : n = n' := by omega
    obtain rfl : g = g' := by omega
    obtain rfl : bd = bd' := by omega
    exact q c rs H' M
abbrev FE (K : PySem.W.Frag) : Addr := He.ga K "FlashError"
abbrev hdS (K : PySem.W.Frag) : Addr → Value → Option Addr → TS := fun a cls d => tRet (tLst (tCons (tC (V.str "shape")) (tCons (tXf a cls d (Er K "InvalidShape") "given" (tVar 4)) (tCons (tCB (rIsED (Er K "InvalidShape") (FE K) a cls d) (tCons (tVar 4) (tCons (tC (V.ref (FE K))) tNil))) tNil))))
abbrev hds1 (K : PySem.W.Frag) : List (Value × (Addr → Value → Option Addr → TS)) := [(.ref (Er K "InvalidShape"), hdS K)]
theorem caught_S {H : Hp} {Q : VK} {v0 v1 v2 : Option V} {y : V} (xSS : PySem.W.exmOne K (.ref (Er K "InvalidShape")) (.ref (Er K "InvalidShape")) = some true) (q : RL [.str "shape", y, .bl true] H Q) :
    ∀ H1, Evl.Ex H H1 → Fl K "InvalidShape" y H1 (WE (wManyAs K 4 (fun _ _ _ _ => False) { nx := fun _ H' => Q V.non H', rt := Q } (hds1 K)) [v0, v1, v2, none, none]) := fun H1 e0 d H2 e1 nd =>
  ⟨true, xSS, fun _ a _ => by
    have e2 := (e0.trans e1).trans (Evl.Ex.new (o := .xd [("given", y)]) nd)
    refine ⟨_, rfl, rfl, rfl, d, _, _, rfl, upd_same, rfl, _, rfl, rfl, rfl, d, _, rfl, upd_same, by show 3 ≤ sizeLine; decide, fun l nl => ?_⟩
    exact q l _ (Evl.fresh_back e2 nl) (e2.trans (Evl.Ex.new nl)) upd_same, fun (z : true = false) => nomatch z⟩
def spSErr (K : PySem.W.Frag) : Sp := fun vs H Q _ => ∃ (v u z : V), vs = [v, u, z] ∧ KV K H v ∧ KV K H u ∧ KV K H z ∧ (∀ y, shV v u z = some y → RL [.str "shape", y, .bl true] H Q) ∧ (shV v u z = none → RL [.str "chip", v, u, z] H Q)
theorem ok_serr {fS : Addr} (T : Txt K mg) (TC : TxC K) (E_InvalidShape : MkE P w K mg base "InvalidShape" "given" (Er K "InvalidShape") fS) (gF : mg "FlashError" = some (.ref (FE K))) (iE : IsE K (Er K "InvalidShape") (FE K))
    (xSS : PySem.W.exmOne K (.ref (Er K "InvalidShape")) (.ref (Er K "InvalidShape")) = some true) (F : FnP K "_law_shape_error" s__law_shape_error f fd) (N_Chip : Mak P w K mg base (CX P w) 4 "Chip" (Ch K) ["self", "blocks", "pages", "bad"] (spInitC K)) :
    Fg P w K mg base CX0 6 f fd ["_law_blocks", "_law_pages", "_law_bad"] (spSErr K) := by
  refine fg_of F sc__law_shape_error (fun vs H Q E h => ?_) (fun cdv A outer s₀ H vs Q E hr h => ⟨_, (pss_one (ps_try_manyAs (i := 4) rfl rfl sc__law_shape_error.nd rfl rfl takes_no
    (fun W pn xe tk pa => pss_cons (ps_asg (pe_makS N_Chip hr.le (passAt tk) (pa_cons (pv 0) (pa_cons (pv 1) (pa_cons (pv 2) pa_nil)))) (pg_name (i := 3) sc__law_shape_error.nd rfl (by first | exact Or.inl rfl | exact Or.inr rfl)))
      (pss_one (ps_ret (pe_lst (pa_cons pe_str (pa_cons (pe_fldU (K := K) (pv 3) rfl) (pa_cons (pe_fldU (K := K) (pv 3) rfl) (pa_cons (pe_fldU (K := K) (pv 3) rfl) pa_nil))))))))
    (.cons (c := .ref (Er K "InvalidShape")) ⟨rfl, by decide, .inl E_InvalidShape.err.gC⟩ (fun a oe cls d pn hz hv => pss_one (ps_ret (pe_lst (pa_cons pe_str (pa_cons (pe_xf E_InvalidShape.err.xf E_InvalidShape.err.noG hz hv (pv 4)) (pa_cons (pe_callB (call_isED E_InvalidShape.err.xf iE hz hv) rfl T.f_isinstance rfl (pa_cons (pv 4) (pa_cons (pe_glob (v := .ref (FE K)) rfl gF rfl) pa_nil))) pa_nil)))))) .nil))), ?_⟩)
  · obtain ⟨v, u, z, rfl, _⟩ := h
    rfl
  · obtain ⟨v, u, z, rfl, kv, ku, kz, qE, q⟩ := h
    refine ⟨_, rfl, _, rfl, _, rfl, fun x dx hx hdx ne => ?_⟩
    show spInitC K [V.ref x, v, u, z] _ _ (WE (wManyAs K 4 (fun _ _ _ _ => False) { nx := fun _ H' => Q V.non H', rt := Q } (hds1 K)) [some v, some u, some z, none, none])
    refine init_any hx hdx ne kv ku kz (fun y hy => caught_S xSS (qE y hy)) fun n g bd c rs H' hN ev eu ez n8 n24 g8 g16 hb M => ?_
    subst ev eu ez
    have hc := M.chip
    have fl : ∀ {x : Str} {v : V}, (newS c rs n g).c.fs.lookup x = some v → c.fs.lookup x = some v := fun h => h
    refine ⟨_, rfl, x, _, dx, _, _, rfl, hc.ins, TC.cls, TC.no _ (by simp), rfl, _, rfl, x, _, dx, _, _, rfl, hc.ins, TC.cls, TC.no _ (by simp), rfl, _, rfl, x, _, dx, _, _, rfl, hc.ins, TC.cls, TC.no _ (by simp), rfl, by show 4 ≤ sizeLine; decide, fun l nl => ?_⟩
    have e2 := M.ex.trans (Evl.Ex.new (o := .lst [.str "chip", .int c.blocks, .int c.pages, .int c.bad]) nl)
    have z := q hN l _ (Evl.fresh_back M.ex nl) e2 (by rw [upd_same, M.bl, M.pg, M.bd])
    exact z
end
end K3
namespace K3
open PySem PySem.Spec PyProof.Rows L2 VB BM
section
variable {P : Program} {w : World} {K : PySem.W.Frag} {mg : Str → Option Value} {base : Heap} {f : Addr} {fd : FuncData}
abbrev sh2 (K : PySem.W.Frag) : TS := (tAsg (tOp (rIx K) (tLst (tCons (tC (V.bl true)) (tCons (tC V.non) (tCons (tC (V.str ("8"))) (tCons (tLst (tCons (tC (V.int 8)) tNil)) (tCons (tTup (tCons (tC (V.int 8)) tNil)) (tCons (tUn (rU fun i => V.int (-i)) (tC (V.int 1))) (tCons (tC (V.int 0)) (tCons (tC (V.int 7)) (tCons (tC (V.int 25)) (tCons (tC (V.int 1000)) tNil))))))))))) (tCall spTake [] E0 (tCons (tVar 0) (tCons (tC (V.int 10)) tNil)))) (gName 6))
abbrev sh3 (K : PySem.W.Frag) : TS := (tAsg (tOp (rIx K) (tLst (tCons (tC (V.bl false)) (tCons (tC V.non) (tCons (tUn (rU fun i => V.int (-i)) (tC (V.int 1))) (tCons (tC (V.int 7)) (tCons (tC (V.int 17)) (tCons (tLst tNil) (tCons (tOp (rI CPow fun i j => V.int (i ^ j.toNat)) (tC (V.int 10)) (tC (V.int 30))) tNil)))))))) (tCall spTake [] E0 (tCons (tVar 0) (tCons (tC (V.int 7)) tNil)))) (gName 7))
abbrev sh4 (K : PySem.W.Frag) : TS := (tAsg (tOp (rIx K) (tLst (tCons (tC (V.bl true)) (tCons (tC V.non) (tCons (tUn (rU fun i => V.int (-i)) (tC (V.int 1))) (tCons (tOp (rI0 fun i j => V.int (i - j)) (tVar 2) (tC (V.int 6))) (tCons (tVar 2) (tCons (tC (V.str ("0"))) tNil))))))) (tCall spTake [] E0 (tCons (tVar 0) (tCons (tC (V.int 6)) tNil)))) (gName 8))
abbrev sh5 : TS := (tAsg (tLst (tCons (tTup (tCons (tVar 6) (tCons (tVar 3) (tCons (tVar 4) tNil)))) (tCons (tTup (tCons (tVar 2) (tCons (tVar 7) (tCons (tVar 4) tNil)))) (tCons (tTup (tCons (tVar 2) (tCons (tVar 3) (tCons (tVar 8) tNil)))) tNil)))) (gName 9))
abbrev sh6 (K : PySem.W.Frag) : TS := (tAsg (tOp (rIx K) (tOp (rAddU K) (tVar 9) (tLst (tCons (tTup (tCons (tVar 6) (tCons (tVar 7) (tCons (tVar 8) tNil)))) (tCons (tTup (tCons (tVar 2) (tCons (tVar 7) (tCons (tVar 8) tNil)))) (tCons (tTup (tCons (tVar 2) (tCons (tVar 3) (tCons (tVar 4) tNil)))) tNil))))) (tVar 5)) (gName 9))
abbrev sh7 (K : PySem.W.Frag) : TS := (tAsg (tIf (tTest (tOp (rI0 fun i j => V.bl (decide (i < j))) (tVar 5) (tC (V.int 5)))) (tLst (tCons (tC (V.str ("shape"))) (tCons (tOp (rIx K) (tVar 9) (tOp (rIx K) (tLst (tCons (tC (V.int 0)) (tCons (tC (V.int 1)) (tCons (tC (V.int 2)) (tCons (tC (V.int 0)) (tCons (tC (V.int 1)) tNil)))))) (tVar 5))) (tCons (tC (V.bl true)) tNil)))) (tLst (tCons (tC (V.str ("chip"))) (tCons (tVar 2) (tCons (tVar 3) (tCons (tVar 4) tNil)))))) (gName 10))
abbrev sh8 (K : PySem.W.Frag) : TS := (tAsg (tCall (spSErr K) [] E0 (tCons (tOp (rIx K) (tVar 9) (tC (V.int 0))) (tCons (tOp (rIx K) (tVar 9) (tC (V.int 1))) (tCons (tOp (rIx K) (tVar 9) (tC (V.int 2))) tNil)))) (gName 11))
abbrev sh9 (K : PySem.W.Frag) : TS := tIfS (tOr (tTest (tOp (rNeU K) (tCB (rReprA K) (tCons (tVar 11) tNil)) (tCB (rReprA K) (tCons (tVar 10) tNil)))) (tAnd (tTest (tOp (rI0 fun i j => V.bl (decide (i < j))) (tVar 5) (tC (V.int 5)))) (tNot (tTru K (tCall (spVery K) [] E0 (tCons (tOp (rIx K) (tVar 11) (tC (V.int 1))) (tCons (tOp (rIx K) (tVar 10) (tC (V.int 1))) tNil))))))) (tRet (tC (V.bl false))) tNext
abbrev sr8 (K : PySem.W.Frag) : TS := tSeq (sh8 K) (sh9 K)
abbrev sr7 (K : PySem.W.Frag) : TS := tSeq (sh7 K) (sr8 K)
abbrev sr6 (K : PySem.W.Frag) : TS := tSeq (sh6 K) (sr7 K)
abbrev sr5 (K : PySem.W.Frag) : TS := tSeq sh5 (sr6 K)
/-- a value that is no number from lo to hi -/
structure Bad (K : PySem.W.Frag) (H0 H : Hp) (bx : Addr) (v : V) (lo hi : Int) : Prop where
  at_ : ∃ d, At K H v d
  ix : isIx v lo hi = false
  ne : ∀ a, v = .ref a → a ≠ bx ∧ H0 a = none
theorem Bad.exb {H0 H H' : Hp} {bx : Addr} {v : V} {lo hi : Int} (h : Bad K H0 H bx v lo hi) (e : Exb bx H H') : Bad K H0 H' bx v lo hi := by
  obtain ⟨d, a⟩ := h.at_
  exact ⟨⟨d, a.via fun y u z hy => e y u (h.ne y z).1 hy⟩, h.ix, h.ne⟩
theorem bad_one {H0 H : Hp} {bx : Addr} {v : V} {lo hi : Int} (g : Flat v) (h : isIx v lo hi = false) : Bad K H0 H bx v lo hi := ⟨⟨.one v, rfl, g⟩, h, fun a z => by subst z; cases g⟩
theorem bad_int {H0 H : Hp} {bx : Addr} {i lo hi : Int} (g : i.natAbs < 10000) (h : i < lo ∨ hi < i) : Bad K H0 H bx (.int i) lo hi := bad_one (.int i (Nat.lt_of_lt_of_le g (by decide))) (by
  show (decide (lo ≤ i) && decide (i ≤ hi)) = false
  rcases h with h | h
  · rw [decide_eq_false (by omega), Bool.false_and]
  · rw [decide_eq_false (show ¬ i ≤ hi by omega), Bool.and_false])
theorem bad_lst {H0 H : Hp} {bx a : Addr} {xs : List V} {lo hi : Int} (h : H a = some (.lst xs)) (n : a ≠ bx ∧ H0 a = none) (g : ∀ x ∈ xs, Flat x) (l : xs.length ≤ 60) : Bad K H0 H bx (.ref a) lo hi := ⟨⟨.sq false xs, a, rfl, Sv.lst h, g, l, fun _ => h, fun z => by cases z⟩, rfl, fun _ z => by cases z; exact n⟩
theorem bad_tup {H0 H : Hp} {bx a : Addr} {xs : List V} {lo hi : Int} (h : H a = some (.tup xs)) (n : a ≠ bx ∧ H0 a = none) (g : ∀ x ∈ xs, Flat x) (l : xs.length ≤ 60) : Bad K H0 H bx (.ref a) lo hi := ⟨⟨.sq true xs, a, rfl, Sv.tup h, g, l, (fun z => by cases z), fun _ => h⟩, rfl, fun _ z => by cases z; exact n⟩
theorem flat8 {n : Int} (h : n.natAbs < 10000) : ∀ x ∈ IV [n], Flat x := fun x hx => by
  have : x = .int n := by simpa using hx
  subst this
  exact .int n (Nat.lt_of_lt_of_le h (by decide))
/-- one of a menu -/
theorem menu_bad {H0 H : Hp} {bx l : Addr} {c lo hi : Int} {xs : List V} {m : Int} {σ : L2.St} {Q : VK} (hσ : σ[0]? = some (some (.ref bx))) (B : Box H bx c) (hc : c < 90000000) (hl : H l = some (.lst xs)) (hm : m = (xs.length : Int)) (h1 : 0 < m) (h2 : m ≤ 100) (nl : l ≠ bx) (hb : ∀ v ∈ xs, Bad K H0 H bx v lo hi)
    (q : ∀ v H', Bad K H0 H' bx v lo hi → Exb bx H H' → Box H' bx (c + 1) → Q v H') : tCall spTake [] E0 (tCons (tVar 0) (tCons (tC (V.int m)) tNil)) σ H (fun y H2 => rIx K (.ref l) y H2 Q) := by
  refine ⟨_, hσ, bx, m, c, rfl, B, h1, by omega, by omega, fun r H1 r0 r1 e1 B1 => ?_⟩
  exact menu_v (e1 _ _ nl hl) r0 (by omega) fun v hv => q v H1 ((hb v hv).exb e1) e1 B1
variable {H0 H : Hp} {D : Ends} {bx : Addr} {c b : Int} {v1 v2 v3 v4 v5 v6 v7 v8 v9 v10 v11 v12 : Option V}
theorem odd_te (E0 : Exb bx H0 H) (B : Box H bx c) (hc : c < 90000000) (k : ∀ v H', Bad K H0 H' bx v 8 24 → Exb bx H H' → Box H' bx (c + 1) → D.nx [some (.ref bx), v1, v2, v3, v4, v5, some v, v7, v8, v9, v10, v11, v12] H') :
    sh2 K D [some (.ref bx), v1, v2, v3, v4, v5, v6, v7, v8, v9, v10, v11, v12] H := by
  refine ⟨by show 1 ≤ sizeLine; decide, fun l nl => ⟨by show 1 ≤ sizeLine; decide, fun t nt => ⟨_, rfl, by show 10 ≤ sizeLine; decide, fun M nM => ?_⟩⟩⟩
  have y1 := Evl.Ex.new (o := .lst (IV [8])) nl
  have y2 := Evl.Ex.new (o := .tup (IV [8])) nt
  have y3 := Evl.Ex.new (o := .lst [V.bl true, .non, .str "8", .ref l, .ref t, .int (-1), .int 0, .int 7, .int 25, .int 1000]) nM
  have hl := y3 _ _ (y2 _ _ (upd_same (H := H) (a := l) (o := .lst (IV [8]))))
  have ht := y3 _ _ (upd_same (H := upd H l (.lst (IV [8]))) (a := t) (o := .tup (IV [8])))
  have Y := (y1.trans y2).trans y3
  have nt1 := Evl.fresh_back y1 nt
  have nM1 := Evl.fresh_back (y1.trans y2) nM
  refine menu_bad rfl (B.ex Y) hc upd_same rfl (by decide) (by decide) (B.at nM1) (fun v hv => ?_) (fun v H' b e B' => k v H' b ((Exb.of Y).trans e) B')
  simp only [List.mem_cons, List.not_mem_nil, or_false] at hv
  rcases hv with rfl | rfl | rfl | rfl | rfl | rfl | rfl | rfl | rfl | rfl
  · exact bad_one (.bl true) rfl
  · exact bad_one .non rfl
  · exact bad_one (.str _ ⟨by decide +kernel, by decide +kernel⟩) rfl
  · exact bad_lst hl ⟨B.at nl, Exb.fresh E0 nl (B.at nl)⟩ (flat8 (by decide)) (by decide)
  · exact bad_tup ht ⟨B.at nt1, Exb.fresh E0 nt1 (B.at nt1)⟩ (flat8 (by decide)) (by decide)
  · exact bad_int (by decide) (by decide)
  · exact bad_int (by decide) (by decide)
  · exact bad_int (by decide) (by decide)
  · exact bad_int (by decide) (by decide)
  · exact bad_int (by decide) (by decide)
theorem other_te (E0 : Exb bx H0 H) (B : Box H bx c) (hc : c < 90000000) (k : ∀ v H', Bad K H0 H' bx v 8 16 → Exb bx H H' → Box H' bx (c + 1) → D.nx [some (.ref bx), v1, v2, v3, v4, v5, v6, some v, v8, v9, v10, v11, v12] H') :
    sh3 K D [some (.ref bx), v1, v2, v3, v4, v5, v6, v7, v8, v9, v10, v11, v12] H := by
  refine ⟨_, rfl, by show 0 ≤ sizeLine; decide, fun l nl => ⟨_, _, rfl, rfl, ⟨by decide, by decide, by decide⟩, by show 7 ≤ sizeLine; decide, fun M nM => ?_⟩⟩
  have y1 := Evl.Ex.new (o := .lst []) nl
  have y3 := Evl.Ex.new (o := .lst [V.bl false, .non, .int (-1), .int 7, .int 17, .ref l, .int (10 ^ (30 : Int).toNat)]) nM
  have hl := y3 _ _ (upd_same (H := H) (a := l) (o := .lst []))
  have Y := y1.trans y3
  have nM1 := Evl.fresh_back y1 nM
  refine menu_bad rfl (B.ex Y) hc upd_same rfl (by decide) (by decide) (B.at nM1) (fun v hv => ?_) (fun v H' b e B' => k v H' b ((Exb.of Y).trans e) B')
  simp only [List.mem_cons, List.not_mem_nil, or_false] at hv
  rcases hv with rfl | rfl | rfl | rfl | rfl | rfl | rfl
  · exact bad_one (.bl false) rfl
  · exact bad_one .non rfl
  · exact bad_int (by decide) (by decide)
  · exact bad_int (by decide) (by decide)
  · exact bad_int (by decide) (by decide)
  · exact bad_lst hl ⟨B.at nl, Exb.fresh E0 nl (B.at nl)⟩ (fun _ h => by cases h) (by decide)
  · exact bad_one (.int _ (by decide +kernel)) (by decide +kernel)
theorem below_te (b1 : 8 ≤ b) (b2 : b ≤ 24) (B : Box H bx c) (hc : c < 90000000) (k : ∀ v H', Bad K H0 H' bx v 0 (b - 7) → Exb bx H H' → Box H' bx (c + 1) → D.nx [some (.ref bx), v1, some (.int b), v3, v4, v5, v6, v7, some v, v9, v10, v11, v12] H') :
    sh4 K D [some (.ref bx), v1, some (.int b), v3, v4, v5, v6, v7, v8, v9, v10, v11, v12] H := by
  refine ⟨_, rfl, _, rfl, _, _, rfl, rfl, _, rfl, by show 6 ≤ sizeLine; decide, fun M nM => ?_⟩
  have Y := Evl.Ex.new (o := .lst [V.bl true, .non, .int (-1), .int (b - 6), .int b, .str "0"]) nM
  refine menu_bad rfl (B.ex Y) hc upd_same rfl (by decide) (by decide) (B.at nM) (fun v hv => ?_) (fun v H' b e B' => k v H' b ((Exb.of Y).trans e) B')
  simp only [List.mem_cons, List.not_mem_nil, or_false] at hv
  rcases hv with rfl | rfl | rfl | rfl | rfl | rfl
  · exact bad_one (.bl true) rfl
  · exact bad_one .non rfl
  · exact bad_int (by decide) (by omega)
  · exact bad_int (by omega) (by omega)
  · exact bad_int (by omega) (by omega)
  · exact bad_one (.str _ ⟨by decide +kernel, by decide +kernel⟩) rfl
end
end K3
namespace K3
open PySem PySem.Spec PyProof.Rows L2 VB BM
section
variable {P : Program} {w : World} {K : PySem.W.Frag} {mg : Str → Option Value} {base : Heap} {f : Addr} {fd : FuncData}
variable {H0 H : Hp} {D : Ends} {bx : Addr} {c b p bd : Int} {v1 v2 v3 v4 v5 v6 v7 v8 v9 v10 v11 v12 : Option V}
theorem sh_told {d : PyData} (h : Sh d 1 7000) : Sh (.list [.str "shape", d, .bool true]) 2 100000 := by
  refine (sh_list (n := 3) (h := 1) (b := 7000) (fun e he => ?_) (by simp)).le
  simp only [List.mem_cons, List.not_mem_nil, or_false] at he
  rcases he with rfl | rfl | rfl
  · exact (show Sh (.str "shape") 0 60 from ⟨by decide +kernel, by decide +kernel, by decide +kernel⟩).le
  · exact h
  · exact (show Sh (.bool true) 0 60 from ⟨by decide +kernel, by decide +kernel, by decide +kernel⟩).le
theorem sh_chip {i j k : Int} (h1 : i.natAbs < 10000) (h2 : j.natAbs < 10000) (h3 : k.natAbs < 10000) : Sh (.list [.str "chip", .int i, .int j, .int k]) 1 10000 := by
  have g : ∀ i : Int, i.natAbs < 10000 → Sh (.int i) 0 60 := fun i h => sh_int' (Nat.lt_of_lt_of_le h (by decide))
  refine (sh_list (n := 4) (h := 0) (b := 60) (fun e he => ?_) (by simp)).le
  simp only [List.mem_cons, List.not_mem_nil, or_false] at he
  rcases he with rfl | rfl | rfl | rfl
  · exact (show Sh (.str "chip") 0 60 from ⟨by decide +kernel, by decide +kernel, by decide +kernel⟩)
  · exact g _ h1
  · exact g _ h2
  · exact g _ h3
theorem told_dp {a : Addr} {y : V} {d : Dsc} (ha : H a = some (.lst [.str "shape", y, .bl true])) (hy : At K H y d) : Dp K H (.ref a) (.list [.str "shape", d.data, .bool true]) := .lst (SqL.of ha) (.cons (.str _) (.cons hy.dp (.cons (.bl _) .nil)))
theorem chip_dp {a : Addr} {i j k : Int} (ha : H a = some (.lst [.str "chip", .int i, .int j, .int k])) : Dp K H (.ref a) (.list [.str "chip", .int i, .int j, .int k]) := .lst (SqL.of ha) (.cons (.str _) (.cons (.int _) (.cons (.int _) (.cons (.int _) .nil))))
/-- a shape with a number that no chip has -/
theorem tail_bad {T : Addr} {x0 x1 x2 y : V} {w j : Nat} {d : Dsc} (E0 : Exb bx H0 H) (B : Box H bx c) (hT : H T = some (.tup [x0, x1, x2])) (k0 : KV K H x0) (k1 : KV K H x1) (k2 : KV K H x2) (hw : w < 5) (hj : [0, 1, 2, 0, 1][w]? = some j) (hy : [x0, x1, x2][j]? = some y) (hs : shV x0 x1 x2 = some y) (ya : At K H y d) (yn : ∀ a, y = .ref a → a ≠ bx ∧ H0 a = none)
    (k : ∀ (a11 a10 : V) H', Box H' bx c → Exb bx H0 H' → D.nx [some (.ref bx), v1, v2, v3, v4, some (.int (w : Int)), v6, v7, v8, some (.ref T), some a10, some a11, v12] H') :
    sr7 K D [some (.ref bx), v1, v2, v3, v4, some (.int (w : Int)), v6, v7, v8, some (.ref T), v10, v11, v12] H := by
  refine ⟨_, rfl, _, _, rfl, rfl, _, rfl, ?_⟩
  rw [decide_eq_true (show (w : Int) < 5 by omega)]
  have hjV : (IV [0, 1, 2, 0, 1])[w]? = some (.int (j : Int)) := by
    rcases w with _ | _ | _ | _ | _ | w
    · cases hj; rfl
    · cases hj; rfl
    · cases hj; rfl
    · cases hj; rfl
    · cases hj; rfl
    · omega
  refine iteT ⟨_, rfl, by show 5 ≤ sizeLine; decide, fun L nL => ⟨_, rfl, Sv.ix (x := .non) (Sv.lst upd_same) (i := (w : Int)) (atI_nat hjV) ?_⟩⟩
  have x1' := Evl.Ex.new (o := .lst (IV [0, 1, 2, 0, 1])) nL
  refine Sv.ix (x := .non) (Sv.tup (x1' _ _ hT)) (i := (j : Int)) (atI_nat hy) ⟨by show 3 ≤ sizeLine; decide, fun N nN => ?_⟩
  have x2' := Evl.Ex.new (o := .lst [.str "shape", y, .bl true]) nN
  have X := x1'.trans x2'
  have hN := upd_same (H := upd H L (.lst (IV [0, 1, 2, 0, 1]))) (a := N) (o := .lst [.str "shape", y, .bl true])
  have hT' := X _ _ hT
  refine ⟨_, rfl, Sv.ix (x := .non) (Sv.tup hT') (i := 0) rfl ⟨_, rfl, Sv.ix (x := .non) (Sv.tup hT') (i := 1) rfl ⟨_, rfl, Sv.ix (x := .non) (Sv.tup hT') (i := 2) rfl ⟨x0, x1, x2, rfl, k0.ex X, k1.ex X, k2.ex X, fun y' hy' a H' na e ha => ?_, fun z => by rw [hs] at z; cases z⟩⟩⟩⟩
  obtain rfl : y' = y := by
    rw [hs] at hy'
    exact (Option.some.inj hy').symm
  have ya' := ya.ex (X.trans e)
  have hN' := e _ _ hN
  refine ⟨_, rfl, rpD (told_dp ha ya') (sh_told ya'.sh) ⟨_, rfl, rpD (told_dp hN' ya') (sh_told ya'.sh) (.inl ⟨rfl, _, rfl, same_ne ?_⟩)⟩⟩
  refine ⟨_, rfl, _, _, rfl, rfl, _, rfl, ?_⟩
  rw [decide_eq_true (show (w : Int) < 5 by omega)]
  refine iteT ⟨_, rfl, Sv.ix (x := .non) (Sv.lst ha) (i := 1) rfl ⟨_, rfl, Sv.ix (x := .non) (Sv.lst hN') (i := 1) rfl ⟨y', d, rfl, ya', fun H2 h2 => ⟨true, rfl, ?_⟩⟩⟩⟩
  refine iteF ?_
  exact k _ _ _ (Box.via (B.ex (X.trans e)) fun u hu => h2 _ _ (fun z => (yn _ z).1 rfl) hu) fun z u hz h0 => h2 z u (fun e' => by have := (yn z e').2; rw [h0] at this; cases this) ((E0.trans (Exb.of (X.trans e))) z u hz h0)
/-- a shape that a chip has -/
theorem tail_good {T : Addr} {b p bd : Nat} (b8 : 8 ≤ b) (b24 : b ≤ 24) (p8 : 8 ≤ p) (p16 : p ≤ 16) (hb : (bd : Int) ≤ (b : Int) - 7) (E0 : Exb bx H0 H) (B : Box H bx c) (hT : H T = some (.tup [.int (b : Int), .int (p : Int), .int (bd : Int)]))
    (k : ∀ (a11 a10 : V) H', Box H' bx c → Exb bx H0 H' → D.nx [some (.ref bx), v1, some (.int (b : Int)), some (.int (p : Int)), some (.int (bd : Int)), some (.int 5), v6, v7, v8, some (.ref T), some a10, some a11, v12] H') :
    sr7 K D [some (.ref bx), v1, some (.int (b : Int)), some (.int (p : Int)), some (.int (bd : Int)), some (.int 5), v6, v7, v8, some (.ref T), v10, v11, v12] H := by
  refine ⟨_, rfl, _, _, rfl, rfl, _, rfl, ?_⟩
  rw [decide_eq_false (show ¬ (5 : Int) < 5 by omega)]
  refine iteF ⟨_, rfl, _, rfl, _, rfl, by show 4 ≤ sizeLine; decide, fun N nN => ?_⟩
  have X := Evl.Ex.new (o := .lst [.str "chip", .int (b : Int), .int (p : Int), .int (bd : Int)]) nN
  have hN := upd_same (H := H) (a := N) (o := .lst [.str "chip", .int (b : Int), .int (p : Int), .int (bd : Int)])
  have hT' := X _ _ hT
  have hs : shV (.int (b : Int)) (.int (p : Int)) (.int (bd : Int)) = none := by
    unfold shV
    rw [if_neg (by rw [isIx_int (by omega) (by omega)]; simp), if_neg (by rw [isIx_int (by omega) (by omega)]; simp)]
    dsimp only
    rw [if_neg (by rw [isIx_int (by omega) (by omega)]; simp)]
  refine ⟨_, rfl, Sv.ix (x := .non) (Sv.tup hT') (i := 0) rfl ⟨_, rfl, Sv.ix (x := .non) (Sv.tup hT') (i := 1) rfl ⟨_, rfl, Sv.ix (x := .non) (Sv.tup hT') (i := 2) rfl ⟨_, _, _, rfl, .flat (flat_nat (by omega)), .flat (flat_nat (by omega)), .flat (flat_nat (by omega)), (fun y' hy' => by rw [hs] at hy'; cases hy'), fun _ a H' na e ha => ?_⟩⟩⟩⟩
  have hN' := e _ _ hN
  refine ⟨_, rfl, rpD (chip_dp ha) (sh_chip (by omega) (by omega) (by omega)) ⟨_, rfl, rpD (chip_dp hN') (sh_chip (by omega) (by omega) (by omega)) (.inl ⟨rfl, _, rfl, same_ne ?_⟩)⟩⟩
  refine ⟨_, rfl, _, _, rfl, rfl, _, rfl, ?_⟩
  rw [decide_eq_false (show ¬ (5 : Int) < 5 by omega)]
  refine iteF ?_
  refine iteF ?_
  exact k _ _ _ (B.ex (X.trans e)) (E0.trans (Exb.of (X.trans e)))
end
end K3
namespace K3
open PySem PySem.Spec PyProof.Rows L2 VB BM
section
variable {P : Program} {w : World} {K : PySem.W.Frag} {mg : Str → Option Value} {base : Heap} {f : Addr} {fd : FuncData}
variable {H0 H : Hp} {D : Ends} {bx : Addr} {c : Int} {v1 v9 v10 v11 v12 : Option V}
theorem shV0 {x0 x1 x2 : V} (h : isIx x0 8 24 = false) : shV x0 x1 x2 = some x0 := by
  unfold shV
  rw [if_pos h]
theorem shV1 {x1 x2 : V} {b : Nat} (b8 : 8 ≤ b) (b24 : b ≤ 24) (h : isIx x1 8 16 = false) : shV (.int (b : Int)) x1 x2 = some x1 := by
  unfold shV
  rw [if_neg (by rw [isIx_int (by omega) (by omega)]; simp), if_pos h]
theorem shV2 {x2 : V} {b p : Nat} (b8 : 8 ≤ b) (b24 : b ≤ 24) (p8 : 8 ≤ p) (p16 : p ≤ 16) (h : isIx x2 0 ((b : Int) - 7) = false) : shV (.int (b : Int)) (.int (p : Int)) x2 = some x2 := by
  unfold shV
  rw [if_neg (by rw [isIx_int (by omega) (by omega)]; simp), if_neg (by rw [isIx_int (by omega) (by omega)]; simp)]
  dsimp only
  rw [if_pos h]
theorem Bad.ex {v : V} {lo hi : Int} {H' : Hp} (h : Bad K H0 H bx v lo hi) (e : Evl.Ex H H') : Bad K H0 H' bx v lo hi := h.exb (Exb.of e)
theorem Bad.kv {v : V} {lo hi : Int} (h : Bad K H0 H bx v lo hi) : KV K H v := by
  obtain ⟨d, a⟩ := h.at_
  exact a.kv
theorem given_te {b p bd w : Nat} {o t l : V} (b8 : 8 ≤ b) (b24 : b ≤ 24) (p8 : 8 ≤ p) (p16 : p ≤ 16) (hb : (bd : Int) ≤ (b : Int) - 7) (hw : w < 6) (E0 : Exb bx H0 H) (B : Box H bx c) (ho : Bad K H0 H bx o 8 24) (ht : Bad K H0 H bx t 8 16) (hl : Bad K H0 H bx l 0 ((b : Int) - 7))
    (k : ∀ (a9 a11 a10 : V) H', Box H' bx c → Exb bx H0 H' → D.nx [some (.ref bx), v1, some (.int (b : Int)), some (.int (p : Int)), some (.int (bd : Int)), some (.int (w : Int)), some o, some t, some l, some a9, some a10, some a11, v12] H') :
    sr5 K D [some (.ref bx), v1, some (.int (b : Int)), some (.int (p : Int)), some (.int (bd : Int)), some (.int (w : Int)), some o, some t, some l, v9, v10, v11, v12] H := by
  refine ⟨_, rfl, _, rfl, _, rfl, by show 3 ≤ sizeLine; decide, fun t0 n0 => ⟨_, rfl, _, rfl, _, rfl, by show 3 ≤ sizeLine; decide, fun t1 n1 => ⟨_, rfl, _, rfl, _, rfl, by show 3 ≤ sizeLine; decide, fun t2 n2 => ⟨by show 3 ≤ sizeLine; decide, fun G nG => ?_⟩⟩⟩⟩
  refine ⟨_, rfl, _, rfl, _, rfl, _, rfl, by show 3 ≤ sizeLine; decide, fun t3 n3 => ⟨_, rfl, _, rfl, _, rfl, by show 3 ≤ sizeLine; decide, fun t4 n4 => ⟨_, rfl, _, rfl, _, rfl, by show 3 ≤ sizeLine; decide, fun t5 n5 => ⟨by show 3 ≤ sizeLine; decide, fun G2 nG2 => ?_⟩⟩⟩⟩
  have z0 := Evl.Ex.new (o := .tup [o, .int (p : Int), .int (bd : Int)]) n0
  have z1 := Evl.Ex.new (o := .tup [.int (b : Int), t, .int (bd : Int)]) n1
  have z2 := Evl.Ex.new (o := .tup [.int (b : Int), .int (p : Int), l]) n2
  have zG := Evl.Ex.new (o := .lst [.ref t0, .ref t1, .ref t2]) nG
  have z3 := Evl.Ex.new (o := .tup [o, t, l]) n3
  have z4 := Evl.Ex.new (o := .tup [.int (b : Int), t, l]) n4
  have z5 := Evl.Ex.new (o := .tup [.int (b : Int), .int (p : Int), .int (bd : Int)]) n5
  have zG2 := Evl.Ex.new (o := .lst [.ref t3, .ref t4, .ref t5]) nG2
  have w5 := z5.trans zG2
  have w4 := z4.trans w5
  have w3 := z3.trans w4
  have wG := zG.trans w3
  have w2 := z2.trans wG
  have w1 := z1.trans w2
  have w0 := z0.trans w1
  refine .inr (.inl ⟨G, G2, _, _, rfl, rfl, w3 _ _ upd_same, upd_same, Evl.sz_of (by show 3 + 3 ≤ _; omega), fun L nL => ?_⟩)
  have zL := Evl.Ex.new (o := .lst ([V.ref t0, .ref t1, .ref t2] ++ [V.ref t3, .ref t4, .ref t5])) nL
  have h0 := zL _ _ (w1 _ _ (upd_same (H := H) (a := t0) (o := .tup [o, .int (p : Int), .int (bd : Int)])))
  have h1 := zL _ _ (w2 _ _ (upd_same (H := _) (a := t1) (o := .tup [.int (b : Int), t, .int (bd : Int)])))
  have h2 := zL _ _ (wG _ _ (upd_same (H := _) (a := t2) (o := .tup [.int (b : Int), .int (p : Int), l])))
  have h3 := zL _ _ (w4 _ _ (upd_same (H := _) (a := t3) (o := .tup [o, t, l])))
  have h4 := zL _ _ (w5 _ _ (upd_same (H := _) (a := t4) (o := .tup [.int (b : Int), t, l])))
  have h5 := zL _ _ (zG2 _ _ (upd_same (H := _) (a := t5) (o := .tup [.int (b : Int), .int (p : Int), .int (bd : Int)])))
  have hL := upd_same (H := upd (upd (upd (upd (upd (upd (upd (upd H t0 (.tup [o, .int (p : Int), .int (bd : Int)])) t1 (.tup [.int (b : Int), t, .int (bd : Int)])) t2 (.tup [.int (b : Int), .int (p : Int), l])) G (.lst [.ref t0, .ref t1, .ref t2])) t3 (.tup [o, t, l])) t4 (.tup [.int (b : Int), t, l])) t5 (.tup [.int (b : Int), .int (p : Int), .int (bd : Int)])) G2 (.lst [.ref t3, .ref t4, .ref t5])) (a := L) (o := .lst ([V.ref t0, .ref t1, .ref t2] ++ [V.ref t3, .ref t4, .ref t5]))
  have X := w0.trans zL
  clear w0 w1 w2 wG w3 w4 w5 z0 z1 z2 zG z3 z4 z5 zG2 n0 n1 n2 nG n3 n4 n5 nG2
  generalize upd (upd (upd (upd (upd (upd (upd (upd (upd H t0 (.tup [o, .int (p : Int), .int (bd : Int)])) t1 (.tup [.int (b : Int), t, .int (bd : Int)])) t2 (.tup [.int (b : Int), .int (p : Int), l])) G (.lst [.ref t0, .ref t1, .ref t2])) t3 (.tup [o, t, l])) t4 (.tup [.int (b : Int), t, l])) t5 (.tup [.int (b : Int), .int (p : Int), .int (bd : Int)])) G2 (.lst [.ref t3, .ref t4, .ref t5])) L (.lst ([V.ref t0, .ref t1, .ref t2] ++ [V.ref t3, .ref t4, .ref t5])) = H2 at X h0 h1 h2 h3 h4 h5 hL ⊢
  have B' := B.ex X
  have E0' := E0.trans (Exb.of X)
  have ho := ho.ex X
  have ht := ht.ex X
  have hl := hl.ex X
  have fb : KV K H2 (.int (b : Int)) := .flat (flat_nat (by omega))
  have fp : KV K H2 (.int (p : Int)) := .flat (flat_nat (by omega))
  have fd : KV K H2 (.int (bd : Int)) := .flat (flat_nat (by omega))
  obtain ⟨d1, a1⟩ := ho.at_
  obtain ⟨d2, a2⟩ := ht.at_
  obtain ⟨d3, a3⟩ := hl.at_
  refine ⟨_, rfl, ?_⟩
  rcases w with _ | _ | _ | _ | _ | _ | w
  · exact Sv.ix (x := .non) (Sv.lst hL) (i := ((0 : Nat) : Int)) rfl (tail_bad (w := 0) (j := 0) E0' B' h0 ho.kv fp fd (by decide) rfl rfl (shV0 ho.ix) a1 ho.ne fun a b H3 B3 E3 => k _ _ _ H3 B3 E3)
  · exact Sv.ix (x := .non) (Sv.lst hL) (i := ((1 : Nat) : Int)) rfl (tail_bad (w := 1) (j := 1) E0' B' h1 fb ht.kv fd (by decide) rfl rfl (shV1 b8 b24 ht.ix) a2 ht.ne fun a b H3 B3 E3 => k _ _ _ H3 B3 E3)
  · exact Sv.ix (x := .non) (Sv.lst hL) (i := ((2 : Nat) : Int)) rfl (tail_bad (w := 2) (j := 2) E0' B' h2 fb fp hl.kv (by decide) rfl rfl (shV2 b8 b24 p8 p16 hl.ix) a3 hl.ne fun a b H3 B3 E3 => k _ _ _ H3 B3 E3)
  · exact Sv.ix (x := .non) (Sv.lst hL) (i := ((3 : Nat) : Int)) rfl (tail_bad (w := 3) (j := 0) E0' B' h3 ho.kv ht.kv hl.kv (by decide) rfl rfl (shV0 ho.ix) a1 ho.ne fun a b H3 B3 E3 => k _ _ _ H3 B3 E3)
  · exact Sv.ix (x := .non) (Sv.lst hL) (i := ((4 : Nat) : Int)) rfl (tail_bad (w := 4) (j := 1) E0' B' h4 fb ht.kv hl.kv (by decide) rfl rfl (shV1 b8 b24 ht.ix) a2 ht.ne fun a b H3 B3 E3 => k _ _ _ H3 B3 E3)
  · exact Sv.ix (x := .non) (Sv.lst hL) (i := ((5 : Nat) : Int)) rfl (tail_good b8 b24 p8 p16 hb E0' B' h5 fun a b H3 B3 E3 => k _ _ _ H3 B3 E3)
  · omega
end
end K3
namespace K3
open PySem PySem.Spec PyProof.Rows L2 VB BM
section
variable {P : Program} {w : World} {K : PySem.W.Frag} {mg : Str → Option Value} {base : Heap} {f : Addr} {fd : FuncData}
def spShs (K : PySem.W.Frag) : Sp := fun vs H Q _ => ∃ (bx : Addr) (c : Int), vs = [.ref bx] ∧ Box H bx c ∧ c < 50000000 ∧ ∀ H', Exb bx H H' → Q (.bl true) H'
theorem ok_shapes (T : Txt K mg) (TC : TxC K) (BC : cmpB K (Ch K) = true) (F : FnP K "_law_shapes_right" s__law_shapes_right f fd) (C__law_take : Cal P w K mg base CX0 1 "_law_take" ["_law_box_here", "_law_many"] spTake) (C__law_shape : Cal P w K mg base CX0 2 "_law_shape" ["_law_box_here"] spShape) (C__law_is_very : Cal P w K mg base CX0 1 "_law_is_very" ["_law_given", "_law_value"] (spVery K))
    (C__law_shape_error : Cal P w K mg base CX0 6 "_law_shape_error" ["_law_blocks", "_law_pages", "_law_bad"] (spSErr K)) (N_Chip : Mak P w K mg base (CX P w) 4 "Chip" (Ch K) ["self", "blocks", "pages", "bad"] (spInitC K)) : Fg P w K mg base CX0 7 f fd ["_law_box_here"] (spShs K) := by
  refine fg_of F sc__law_shapes_right (fun vs H Q E h => ?_) (fun cdv A outer s₀ H vs Q E hr h => ⟨_, (PSs.nox (pss_cons (ps_for PassesOwn.never rfl (pi_range1 rfl T.f_range (pa_cons pe_int pa_nil)) (pg_name (i := 1) sc__law_shapes_right.nd rfl (by first | exact Or.inl rfl | exact Or.inr rfl))
  (pss_cons (ps_asg (pe_cal C__law_shape hr.le pass0 (pa_cons (pv 0) pa_nil)) (pg_lst (n := 3) rfl (pgs_cons (pg_name (i := 2) sc__law_shapes_right.nd rfl (by first | exact Or.inl rfl | exact Or.inr rfl)) (pgs_cons (pg_name (i := 3) sc__law_shapes_right.nd rfl (by first | exact Or.inl rfl | exact Or.inr rfl)) (pgs_cons (pg_name (i := 4) sc__law_shapes_right.nd rfl (by first | exact Or.inl rfl | exact Or.inr rfl)) pgs_nil)))))
  (pss_cons (ps_set (i := 5) sc__law_shapes_right.nd rfl (by first | exact Or.inl rfl | exact Or.inr rfl) (pe_cal C__law_take hr.le pass0 (pa_cons (pv 0) (pa_cons pe_int pa_nil))))
  (pss_cons (ps_set (i := 6) sc__law_shapes_right.nd rfl (by first | exact Or.inl rfl | exact Or.inr rfl) (pe_ix (u_ix (K := K)) (pe_lst (pa_cons pe_bl (pa_cons pe_non (pa_cons pe_str (pa_cons (pe_lst (pa_cons pe_int pa_nil)) (pa_cons (pe_tup (pa_cons pe_int pa_nil)) (pa_cons (pe_un un_neg pe_int) (pa_cons pe_int (pa_cons pe_int (pa_cons pe_int (pa_cons pe_int pa_nil))))))))))) (pe_cal C__law_take hr.le pass0 (pa_cons (pv 0) (pa_cons pe_int pa_nil))) (fun _ _ => rfl)))
  (pss_cons (ps_set (i := 7) sc__law_shapes_right.nd rfl (by first | exact Or.inl rfl | exact Or.inr rfl) (pe_ix (u_ix (K := K)) (pe_lst (pa_cons pe_bl (pa_cons pe_non (pa_cons (pe_un un_neg pe_int) (pa_cons pe_int (pa_cons pe_int (pa_cons (pe_lst pa_nil) (pa_cons (pe_op op_pow pe_int pe_int) pa_nil)))))))) (pe_cal C__law_take hr.le pass0 (pa_cons (pv 0) (pa_cons pe_int pa_nil))) (fun _ _ => rfl)))
  (pss_cons (ps_set (i := 8) sc__law_shapes_right.nd rfl (by first | exact Or.inl rfl | exact Or.inr rfl) (pe_ix (u_ix (K := K)) (pe_lst (pa_cons pe_bl (pa_cons pe_non (pa_cons (pe_un un_neg pe_int) (pa_cons (pe_op op_sub (pv 2) pe_int) (pa_cons (pv 2) (pa_cons pe_str pa_nil))))))) (pe_cal C__law_take hr.le pass0 (pa_cons (pv 0) (pa_cons pe_int pa_nil))) (fun _ _ => rfl)))
  (pss_cons (ps_set (i := 9) sc__law_shapes_right.nd rfl (by first | exact Or.inl rfl | exact Or.inr rfl) (pe_lst (pa_cons (pe_tup (pa_cons (pv 6) (pa_cons (pv 3) (pa_cons (pv 4) pa_nil)))) (pa_cons (pe_tup (pa_cons (pv 2) (pa_cons (pv 7) (pa_cons (pv 4) pa_nil)))) (pa_cons (pe_tup (pa_cons (pv 2) (pa_cons (pv 3) (pa_cons (pv 8) pa_nil)))) pa_nil)))))
  (pss_cons (ps_set (i := 9) sc__law_shapes_right.nd rfl (by first | exact Or.inl rfl | exact Or.inr rfl) (pe_ix (u_ix (K := K)) (pe_op (u_add (K := K)) (pv 9) (pe_lst (pa_cons (pe_tup (pa_cons (pv 6) (pa_cons (pv 7) (pa_cons (pv 8) pa_nil)))) (pa_cons (pe_tup (pa_cons (pv 2) (pa_cons (pv 7) (pa_cons (pv 8) pa_nil)))) (pa_cons (pe_tup (pa_cons (pv 2) (pa_cons (pv 3) (pa_cons (pv 4) pa_nil)))) pa_nil))))) (pv 5) (fun _ _ => rfl)))
  (pss_cons (ps_set (i := 10) sc__law_shapes_right.nd rfl (by first | exact Or.inl rfl | exact Or.inr rfl) (pe_ifExp (pt_cmpR op_lt (pv 5) pe_int (nomark _)) (pe_lst (pa_cons pe_str (pa_cons (pe_ix (u_ix (K := K)) (pv 9) (pe_ix (u_ix (K := K)) (pe_lst (pa_cons pe_int (pa_cons pe_int (pa_cons pe_int (pa_cons pe_int (pa_cons pe_int pa_nil)))))) (pv 5) (fun _ _ => rfl)) (fun _ _ => rfl)) (pa_cons pe_bl pa_nil)))) (pe_lst (pa_cons pe_str (pa_cons (pv 2) (pa_cons (pv 3) (pa_cons (pv 4) pa_nil)))))))
  (pss_cons (ps_set (i := 11) sc__law_shapes_right.nd rfl (by first | exact Or.inl rfl | exact Or.inr rfl) (pe_cal C__law_shape_error hr.le pass0 (pa_cons (pe_ix (u_ix (K := K)) (pv 9) pe_int (fun _ _ => rfl)) (pa_cons (pe_ix (u_ix (K := K)) (pv 9) pe_int (fun _ _ => rfl)) (pa_cons (pe_ix (u_ix (K := K)) (pv 9) pe_int (fun _ _ => rfl)) pa_nil)))))
  (pss_one (ps_if (PW.pt (pw_or (pt_cmpR (u_ne (K := K) hr) (pe_callB (u_reprA (K := K) hr) (by rfl) T.f_repr (by decide +kernel) (pa_cons (pv 11) pa_nil)) (pe_callB (u_reprA (K := K) hr) (by rfl) T.f_repr (by decide +kernel) (pa_cons (pv 10) pa_nil)) (nomark _)) (pw_or1 (PW.pt (pw_and (pt_cmpR op_lt (pv 5) pe_int (nomark _)) (pw_and1 (pt_not (pt_tru (K := K) (pe_cal C__law_is_very hr.le pass0 (pa_cons (pe_ix (u_ix (K := K)) (pv 11) pe_int (fun _ _ => rfl)) (pa_cons (pe_ix (u_ix (K := K)) (pv 10) pe_int (fun _ _ => rfl)) pa_nil))) (by intro _; rfl)))))))))
  (pss_one (ps_ret pe_bl)) pss_nil))))))))))))
  (pss_cons (ps_set (i := 12) sc__law_shapes_right.nd rfl (by first | exact Or.inl rfl | exact Or.inr rfl) (pe_lst (pa_cons (pe_mak N_Chip hr.le (passes_call takes_no (fun _ _ _ _ h => h)) (pa_cons pe_int (pa_cons pe_int (pa_cons pe_int pa_nil)))) (pa_cons (pe_mak N_Chip hr.le (passes_call takes_no (fun _ _ _ _ h => h)) (pa_cons pe_int (pa_cons pe_int (pa_cons pe_int pa_nil)))) pa_nil))))
  (pss_cons (ps_if (PW.pt (pw_or (pt_cmpR (op_eqI (C := Ch K) hr BC) (pe_ix (u_ix (K := K)) (pv 12) pe_int (fun _ _ => rfl)) (pe_ix (u_ix (K := K)) (pv 12) pe_int (fun _ _ => rfl)) (nomark _)) (pw_or1 (pt_cmpR (u_ne (K := K) hr) (pe_bm PySem.F.plainAttrs_list PySem.F.slot_list_index PySem.F.type_list_index (mt_idx2 (C := Ch K) hr BC) (pv 12) (pa_cons (pe_ix (u_ix (K := K)) (pv 12) pe_int (fun _ _ => rfl)) pa_nil)) pe_int (nomark _)))))
  (pss_one (ps_ret pe_bl)) pss_nil)
  (pss_one (ps_ret (pe_cmpR (u_eq (K := K) hr) (pe_callB (u_reprA (K := K) hr) (by rfl) T.f_repr (by decide +kernel) (pa_cons (pe_cal C__law_shape_error hr.le pass0 (pa_cons pe_int (pa_cons pe_int (pa_cons pe_int pa_nil)))) pa_nil)) pe_str (nomark _)))))))), ?_⟩)
  · obtain ⟨bx, c, rfl, _⟩ := h
    rfl
  · obtain ⟨bx, c, rfl, B, hc, q⟩ := h
    refine ⟨_, rfl, by decide, by decide, ?_⟩
    refine for_range (lo := 0) (n := 3) (fun i σ H' => i ≤ 3 ∧ Box H' bx (c + 20 * i) ∧ Exb bx H H' ∧ ∃ v1 v2 v3 v4 v5 v6 v7 v8 v9 v10 v11 v12 : Option V, σ = [some (.ref bx), v1, v2, v3, v4, v5, v6, v7, v8, v9, v10, v11, v12]) ⟨by omega, by rw [show c + 20 * ((0 : Nat) : Int) = c by omega]; exact B, Exb.of (Evl.Ex.refl _), _, _, _, _, _, _, _, _, _, _, _, _, rfl⟩ ?_ ?_
    · rintro i σ H1 hi ⟨_, B1, E1, v1, v2, v3, v4, v5, v6, v7, v8, v9, v10, v11, v12, rfl⟩
      refine ⟨_, rfl, bx, _, rfl, B1, by omega, fun L b p bd H2 b8 b24 p8 p16 d0 d1 e2 B2 hL _ _ => ⟨_, _, rfl, SqL.of hL, rfl, _, _, rfl, _, _, rfl, _, _, rfl, rfl, ?_⟩⟩
      obtain ⟨b, rfl⟩ : ∃ n : Nat, b = n := ⟨b.toNat, by omega⟩
      obtain ⟨p, rfl⟩ : ∃ n : Nat, p = n := ⟨p.toNat, by omega⟩
      obtain ⟨bd, rfl⟩ : ∃ n : Nat, bd = n := ⟨bd.toNat, by omega⟩
      refine ⟨_, rfl, bx, 6, _, rfl, B2, by omega, by omega, by omega, fun r H3 r0 r1 e3 B3 => ?_⟩
      obtain ⟨r, rfl⟩ : ∃ n : Nat, r = n := ⟨r.toNat, by omega⟩
      have E3 := (E1.trans e2).trans e3
      refine odd_te E3 B3 (by omega) fun o H4 b4 e4 B4 => ?_
      refine other_te (E3.trans e4) B4 (by omega) fun t H5 b5 e5 B5 => ?_
      refine below_te (H0 := H) (by omega) (by omega) B5 (by omega) fun l H6 b6 e6 B6 => ?_
      refine given_te (by omega) (by omega) (by omega) (by omega) (by omega) (by omega) (((E3.trans e4).trans e5).trans e6) B6 ((b4.exb e5).exb e6) (b5.exb e6) b6 fun a9 a11 a10 H7 B7 E7 => ?_
      exact ⟨by omega, B7.le (by omega), E7, _, _, _, _, _, _, _, _, _, _, _, _, rfl⟩
    · rintro σ H1 ⟨_, B1, E1, v1, v2, v3, v4, v5, v6, v7, v8, v9, v10, v11, v12, rfl⟩
      refine fun x dx hx hdx ne => init_good (n := 8) (g := 8) (bd := 0) hx hdx ne (by decide) (by decide) (by decide) (by decide) (by decide) fun c1 rs1 H2 M1 => ?_
      refine fun y dy hy hdy ne2 => init_good (n := 8) (g := 8) (bd := 0) hy hdy ne2 (by decide) (by decide) (by decide) (by decide) (by decide) fun c2 rs2 H3 M2 => ⟨by show 2 ≤ sizeLine; decide, fun L nL => ?_⟩
      have z := Evl.Ex.new (o := .lst [.ref x, .ref y]) nL
      have hL := upd_same (H := H3) (a := L) (o := .lst [.ref x, .ref y])
      have gx := z _ _ (M2.ex _ _ M1.chip.ins)
      have gy := z _ _ M2.chip.ins
      have xy : x ≠ y := fun e => by
        have := M1.chip.ins
        rw [e, hy] at this
        cases this
      refine ⟨_, rfl, Sv.ix (x := .non) (Sv.lst hL) (i := 0) rfl ⟨_, rfl, Sv.ix (x := .non) (Sv.lst hL) (i := 1) rfl ⟨x, y, _, _, _, _, rfl, rfl, xy, gx, gy, _, rfl, ?_⟩⟩⟩
      refine iteF ⟨_, rfl, .inl ⟨rfl, _, SqL.of hL⟩, _, rfl, Sv.ix (x := .non) (Sv.lst hL) (i := 1) rfl ⟨L, x, y, _, _, _, _, rfl, rfl, hL, xy, gx, gy, .inl ⟨rfl, _, rfl, ?_⟩⟩⟩
      refine same_ne ⟨_, _, _, rfl, .flat (flat_nat (i := 24) (by decide)), .flat (flat_nat (i := 16) (by decide)), .flat (flat_nat (i := 17) (by decide)), (fun y hy => by cases hy), fun _ a H' na e ha => ?_⟩
      refine rpD (chip_dp ha) (sh_chip (by decide) (by decide) (by decide)) (.inl ⟨rfl, ?_⟩)
      rw [decide_eq_true (show V.str (PyData.list [.str "chip", .int 24, .int 16, .int 17]).shown = V.str "['chip', 24, 16, 17]" from congrArg V.str (by decide +kernel))]
      exact q _ (E1.trans (Exb.of (((M1.ex.trans M2.ex).trans z).trans e)))
end
end K3
namespace K3
open PySem PySem.Spec PyProof.Rows L2 VB BM
theorem mut_all {ch md sh er pd x : Addr} {c : Cp} (h : Mut ch c md er pd x) : All ch c md sh er pd x := by
  rcases h with h | h | h | h
  · exact .inl h
  · exact .inr (.inl h)
  · exact .inr (.inr (.inr (.inl h)))
  · exact .inr (.inr (.inr (.inr h)))
theorem SameC.all {s s' : CS} (h : SameC s s') {ch md sh er pd x : Addr} : All ch s'.c md sh er pd x ↔ All ch s.c md sh er pd x := by
  unfold All
  rw [h.own ch x]
section
variable {P : Program} {w : World} {K : PySem.W.Frag} {mg : Str → Option Value} {base : Heap} {f : Addr} {fd : FuncData}
theorem Pair.nt {H : Hp} {ch dx : Addr} {s : CS} {md sh er pd : Addr} {kvs : List (List Key × V)} (h : Pair K H ch dx s md sh er pd kvs) {x : Addr} (o : Mut ch s.c md er pd x) {xs : List V} (hx : H x = some (.tup xs)) : False := by
  have c := h.chip
  have m := h.mo
  rcases o with o | rfl | rfl | rfl
  · rcases o with rfl | rfl | rfl | rfl | rfl | rfl | rfl
    · have z := c.ins; rw [hx] at z; cases z
    · have z := c.o; rw [hx] at z; cases z
    · have z := c.e; rw [hx] at z; cases z
    · have z := c.t; rw [hx] at z; cases z
    · have z := c.p; rw [hx] at z; cases z
    · have z := c.q; rw [hx] at z; cases z
    · have z := c.rr.1; rw [hx] at z; cases z
  · have z := m.hmd; rw [hx] at z; cases z
  · have z := m.her; rw [hx] at z; cases z
  · have z := m.hpd; rw [hx] at z; cases z
/-- two chips with their records, apart -/
structure Duo (K : PySem.W.Frag) (H0 H : Hp) (bx L M : Addr) (c1 d1 : Addr) (s1 : CS) (m1 h1 e1 p1 : Addr) (k1 : List (List Key × V)) (c2 d2 : Addr) (s2 : CS) (m2 h2 e2 p2 : Addr) (k2 : List (List Key × V)) : Prop where
  a : Pair K H c1 d1 s1 m1 h1 e1 p1 k1
  b : Pair K H c2 d2 s2 m2 h2 e2 p2 k2
  ap : ∀ x, All c1 s1.c m1 h1 e1 p1 x → ¬ All c2 s2.c m2 h2 e2 p2 x
  na : ∀ x, All c1 s1.c m1 h1 e1 p1 x → x ≠ bx ∧ H0 x = none ∧ x ≠ L ∧ x ≠ M
  nb : ∀ x, All c2 s2.c m2 h2 e2 p2 x → x ≠ bx ∧ H0 x = none ∧ x ≠ L ∧ x ≠ M
section
variable {H0 H H' : Hp} {bx L M c1 d1 m1 h1 e1 p1 c2 d2 m2 h2 e2 p2 : Addr} {s1 s2 s1' : CS} {k1 k2 k1' : List (List Key × V)} {n : Int}
theorem Duo.swap (h : Duo K H0 H bx L M c1 d1 s1 m1 h1 e1 p1 k1 c2 d2 s2 m2 h2 e2 p2 k2) : Duo K H0 H bx L M c2 d2 s2 m2 h2 e2 p2 k2 c1 d1 s1 m1 h1 e1 p1 k1 := ⟨h.b, h.a, fun x o z => h.ap x z o, h.nb, h.na⟩
theorem Duo.ex (h : Duo K H0 H bx L M c1 d1 s1 m1 h1 e1 p1 k1 c2 d2 s2 m2 h2 e2 p2 k2) (e : Evl.Ex H H') : Duo K H0 H' bx L M c1 d1 s1 m1 h1 e1 p1 k1 c2 d2 s2 m2 h2 e2 p2 k2 := ⟨h.a.ex e, h.b.ex e, h.ap, h.na, h.nb⟩
theorem Duo.exb (h : Duo K H0 H bx L M c1 d1 s1 m1 h1 e1 p1 k1 c2 d2 s2 m2 h2 e2 p2 k2) (B : Box H bx n) (e : Exb bx H H') : Duo K H0 H' bx L M c1 d1 s1 m1 h1 e1 p1 k1 c2 d2 s2 m2 h2 e2 p2 k2 :=
  ⟨h.a.exb B (fun x o => (h.na x o).1) e, h.b.exb B (fun x o => (h.nb x o).1) e, h.ap, h.na, h.nb⟩
theorem Duo.call (h : Duo K H0 H bx L M c1 d1 s1 m1 h1 e1 p1 k1 c2 d2 s2 m2 h2 e2 p2 k2) (B : Box H bx n) (p' : Pair K H' c1 d1 s1' m1 h1 e1 p1 k1') (sc : SameC s1 s1') (fr : ∀ y o, y ≠ bx → ¬ Mut c1 s1.c m1 e1 p1 y → H y = some o → H' y = some o) :
    Duo K H0 H' bx L M c1 d1 s1' m1 h1 e1 p1 k1' c2 d2 s2 m2 h2 e2 p2 k2 :=
  ⟨p', h.b.via (fun x u o hx => fr x u (h.nb x o).1 (fun m => h.ap x (mut_all m) o) hx) fun x xs hx => fr x _ (Box.nt B hx) (fun m => h.a.nt m hx) hx,
    fun x o => h.ap x (sc.all.mp o), fun x o => h.na x (sc.all.mp o), h.nb⟩
end
abbrev ri0 (K : PySem.W.Frag) : TS := (tIfS (tOr (tNot (tTru K (tCall (spCall K) [] E0 (tCons (tVar 0) (tCons (tOp (rIx K) (tVar 5) (tVar 7)) (tCons (tOp (rIx K) (tVar 2) (tVar 7)) tNil)))))) (tNot (tTru K (tCall (spCnt K) [] E0 (tCons (tOp (rIx K) (tVar 5) (tOp (rI0 fun i j => V.int (i - j)) (tC (V.int 1)) (tVar 7))) (tCons (tOp (rIx K) (tVar 2) (tOp (rI0 fun i j => V.int (i - j)) (tC (V.int 1)) (tVar 7))) tNil)))))) (tRet (tC (V.bl false))) tNext)
abbrev ri5 (K : PySem.W.Frag) : TS := (tFor (iRng1 (tCons (tC (V.int 2)) tNil)) (gName 7) (tIfS (tNot (tTru K (tCall (spPgs K) [] E0 (tCons (tOp (rIx K) (tVar 5) (tVar 7)) (tCons (tOp (rIx K) (tVar 2) (tVar 7)) tNil))))) (tRet (tC (V.bl false))) tNext))
abbrev ri4 (K : PySem.W.Frag) : TS := (tFor (iRng1 (tCons (tC (V.int 24)) tNil)) (gName 6) (tSeq (tAsg (tOp (rI (fun x j => 0 < j ∧ j < 1073741824) fun i j => V.int (i / j)) (tCall spTake [] E0 (tCons (tVar 0) (tCons (tC (V.int 3)) tNil))) (tC (V.int 2))) (gName 7)) (ri0 K)))
abbrev ri6 (K : PySem.W.Frag) : TS := tRet (tCall (spShs K) [] E0 (tCons (tVar 0) tNil))
section
variable {H0 H : Hp} {D : Ends} {bx L M c1 d1 m1 h1 e1 p1 c2 d2 m2 h2 e2 p2 : Addr} {s1 s2 : CS} {k1 k2 : List (List Key × V)} {c : Int} {v1 v3 v4 v6 v7 v8 : Option V} {xs ys : List V}
theorem turn_te {i j : Nat} (hij : (1 : Int) - (i : Int) = (j : Int)) (hd : Duo K H0 H bx L M c1 d1 s1 m1 h1 e1 p1 k1 c2 d2 s2 m2 h2 e2 p2 k2) (hL : H L = some (.lst xs)) (hM : H M = some (.lst ys)) (nL : L ≠ bx) (nM : M ≠ bx) (x1 : xs[i]? = some (.ref c1)) (x2 : xs[j]? = some (.ref c2)) (y1 : ys[i]? = some (.ref m1)) (y2 : ys[j]? = some (.ref m2))
    (B : Box H bx c) (hc : c < 45000000) (E0' : Exb bx H0 H) (ho : s1.c.ops < 1000)
    (k : ∀ s1' k1' H', Duo K H0 H' bx L M c1 d1 s1' m1 h1 e1 p1 k1' c2 d2 s2 m2 h2 e2 p2 k2 → Box H' bx (c + 200) → Exb bx H0 H' → H' L = some (.lst xs) → H' M = some (.lst ys) → s1'.c.ops ≤ s1.c.ops + 1 → D.nx [some (.ref bx), v1, some (.ref M), v3, v4, some (.ref L), v6, some (.int (i : Int)), v8] H') :
    ri0 K D [some (.ref bx), v1, some (.ref M), v3, v4, some (.ref L), v6, some (.int (i : Int)), v8] H := by
  refine ⟨_, rfl, _, rfl, _, rfl, Sv.ix (x := .non) (Sv.lst hL) (i := (i : Int)) (atI_nat x1) ⟨_, rfl, _, rfl, Sv.ix (x := .non) (Sv.lst hM) (i := (i : Int)) (atI_nat y1) ⟨bx, c1, d1, m1, h1, e1, p1, s1, k1, c, rfl, hd.a, fun y o => (hd.na y o).1, B, by omega, ho, fun s' kvs' H' p' sc B' fr => ⟨true, rfl, ?_⟩⟩⟩⟩
  have d' := hd.call B p' sc fr
  have eL := fr L _ nL (fun m => (hd.na L (mut_all m)).2.2.1 rfl) hL
  have eM := fr M _ nM (fun m => (hd.na M (mut_all m)).2.2.2 rfl) hM
  have E1 : Exb bx H0 H' := fun y u hy h0 => fr y u hy (fun m => by have := (hd.na y (mut_all m)).2.1; rw [h0] at this; cases this) (E0' y u hy h0)
  refine iteF ⟨_, rfl, _, rfl, _, _, rfl, rfl, ?_⟩
  show rIx K (V.ref L) (V.int (1 - (i : Int))) H' _
  rw [hij]
  refine Sv.ix (x := .non) (Sv.lst eL) (i := (j : Int)) (atI_nat x2) ⟨_, rfl, _, rfl, _, _, rfl, rfl, ?_⟩
  show rIx K (V.ref M) (V.int (1 - (i : Int))) H' _
  rw [hij]
  refine Sv.ix (x := .non) (Sv.lst eM) (i := (j : Int)) (atI_nat y2) ⟨c2, d2, s2, m2, h2, e2, p2, k2, rfl, d'.b.chip, d'.b.pl, d'.b.mo, fun H3 e3 => ⟨true, rfl, iteF ?_⟩⟩
  exact k s' kvs' H3 (d'.ex e3) (B'.ex e3) (E1.trans (Exb.of e3)) (e3 _ _ eL) (e3 _ _ eM) sc.ops
/-- the turns, the pages, the shapes -/
theorem right_tail {Q : VK} (hd : Duo K H0 H bx L M c1 d1 s1 m1 h1 e1 p1 k1 c2 d2 s2 m2 h2 e2 p2 k2) (hL : H L = some (.lst [.ref c1, .ref c2])) (hM : H M = some (.lst [.ref m1, .ref m2])) (nL : L ≠ bx) (nM : M ≠ bx)
    (B : Box H bx c) (hc : c < 44000000) (E0' : Exb bx H0 H) (o1 : s1.c.ops = 0) (o2 : s2.c.ops = 0) (q : ∀ H', Exb bx H0 H' → Q (.bl true) H') :
    tSeq (ri4 K) (tSeq (ri5 K) (ri6 K)) { nx := fun _ H' => Q V.non H', rt := Q } [some (.ref bx), v1, some (.ref M), v3, v4, some (.ref L), v6, v7, v8] H := by
  refine ⟨_, rfl, by decide, by decide, ?_⟩
  refine for_range (lo := 0) (n := 24) (fun i σ H' => i ≤ 24 ∧ Box H' bx (c + 210 * i) ∧ Exb bx H0 H' ∧ H' L = some (.lst [.ref c1, .ref c2]) ∧ H' M = some (.lst [.ref m1, .ref m2]) ∧ (∃ s1' k1' s2' k2', Duo K H0 H' bx L M c1 d1 s1' m1 h1 e1 p1 k1' c2 d2 s2' m2 h2 e2 p2 k2' ∧ s1'.c.ops ≤ i ∧ s2'.c.ops ≤ i) ∧
    ∃ v6 v7 : Option V, σ = [some (.ref bx), v1, some (.ref M), v3, v4, some (.ref L), v6, v7, v8]) ⟨by omega, by rw [show c + 210 * ((0 : Nat) : Int) = c by omega]; exact B, E0', hL, hM, ⟨s1, k1, s2, k2, hd, by omega, by omega⟩, _, _, rfl⟩ ?_ ?_
  · rintro i σ H1 hi ⟨_, B1, E1, hL1, hM1, ⟨s1', k1', s2', k2', d1', g1, g2⟩, v6, v7, rfl⟩
    refine ⟨_, rfl, bx, 3, _, rfl, B1, by omega, by omega, by omega, fun r H2 r0 r1 e2 B2 => ⟨_, _, rfl, rfl, ⟨by decide, by decide⟩, ?_⟩⟩
    have d2' := d1'.exb B1 e2
    have hL2 := e2 _ _ nL hL1
    have hM2 := e2 _ _ nM hM1
    have E2 := E1.trans e2
    have h2 : r / 2 = 0 ∨ r / 2 = 1 := by omega
    rcases h2 with h2 | h2
    · show ri0 K _ [some (.ref bx), v1, some (.ref M), v3, v4, some (.ref L), _, some (.int (r / 2)), v8] H2
      rw [h2]
      refine turn_te (i := 0) (j := 1) rfl d2' hL2 hM2 nL nM rfl rfl rfl rfl B2 (by omega) E2 (by omega) fun s' kv' H3 d3 B3 E3 hL3 hM3 g3 => ?_
      exact ⟨by omega, B3.le (by omega), E3, hL3, hM3, ⟨_, _, _, _, d3, by omega, by omega⟩, _, _, rfl⟩
    · show ri0 K _ [some (.ref bx), v1, some (.ref M), v3, v4, some (.ref L), _, some (.int (r / 2)), v8] H2
      rw [h2]
      refine turn_te (i := 1) (j := 0) rfl d2'.swap hL2 hM2 nL nM rfl rfl rfl rfl B2 (by omega) E2 (by omega) fun s' kv' H3 d3 B3 E3 hL3 hM3 g3 => ?_
      exact ⟨by omega, B3.le (by omega), E3, hL3, hM3, ⟨_, _, _, _, d3.swap, by omega, by omega⟩, _, _, rfl⟩
  · rintro σ H1 ⟨_, B1, E1, hL1, hM1, ⟨s1', k1', s2', k2', d1', g1, g2⟩, v6, v7, rfl⟩
    refine ⟨_, rfl, by decide, by decide, ?_⟩
    refine for_range (lo := 0) (n := 2) (fun i σ H' => i ≤ 2 ∧ Evl.Ex H1 H' ∧ ∃ v7 : Option V, σ = [some (.ref bx), v1, some (.ref M), v3, v4, some (.ref L), v6, v7, v8]) ⟨by omega, Evl.Ex.refl _, _, rfl⟩ ?_ ?_
    · rintro i σ H2 hi ⟨_, e2, v7, rfl⟩
      have hi : i = 0 ∨ i = 1 := by omega
      have d2' := d1'.ex e2
      have hL2 := e2 _ _ hL1
      have hM2 := e2 _ _ hM1
      rcases hi with rfl | rfl
      · exact ⟨_, rfl, _, rfl, Sv.ix (x := .non) (Sv.lst hL2) (i := 0) rfl ⟨_, rfl, _, rfl, Sv.ix (x := .non) (Sv.lst hM2) (i := 0) rfl ⟨_, _, _, _, _, _, _, _, rfl, d2'.a, fun H3 e3 => ⟨true, rfl, iteF ⟨by omega, e2.trans e3, _, rfl⟩⟩⟩⟩⟩
      · exact ⟨_, rfl, _, rfl, Sv.ix (x := .non) (Sv.lst hL2) (i := 1) rfl ⟨_, rfl, _, rfl, Sv.ix (x := .non) (Sv.lst hM2) (i := 1) rfl ⟨_, _, _, _, _, _, _, _, rfl, d2'.b, fun H3 e3 => ⟨true, rfl, iteF ⟨by omega, e2.trans e3, _, rfl⟩⟩⟩⟩⟩
    · rintro σ H2 ⟨_, e2, v7, rfl⟩
      exact ⟨_, rfl, bx, _, rfl, B1.ex e2, by omega, fun H3 e3 => q H3 ((E1.trans (Exb.of e2)).trans e3)⟩
end
end
end K3
namespace K3
open PySem PySem.Spec PyProof.Rows L2 VB BM
section
variable {P : Program} {w : World} {K : PySem.W.Frag} {mg : Str → Option Value} {base : Heap} {f : Addr} {fd : FuncData}
/-- a new record: of no op -/
structure Rec (H : Hp) (A : Addr) (b : Nat) (m e p : Addr) : Prop where
  m : H m = some (.dK (mdL 0 A e p))
  e : H e = some (.lst (IV (List.replicate b 0)))
  p : H p = some (.dT [])
theorem Rec.ex {H H' : Hp} {A : Addr} {b : Nat} {m e p : Addr} (h : Rec H A b m e p) (x : Evl.Ex H H') : Rec H' A b m e p := ⟨x _ _ h.m, x _ _ h.e, x _ _ h.p⟩
abbrev tRec (K : PySem.W.Frag) : TE := (tDisp [(tC (V.str ("shape")), tVar 8), (tC (V.str ("ops")), tC (V.int 0)), (tC (V.str ("erases")), tOp (rMulU K) (tLst (tCons (tC (V.int 0)) tNil)) (tOp (rIx K) (tVar 8) (tC (V.int 0)))), (tC (V.str ("pages")), tDNewT)])
theorem rec_te {σ : L2.St} {H : Hp} {Q : VK} {A : Addr} {b : Nat} {y z : V} (hσ : σ[8]? = some (some (.ref A))) (hb : b ≤ 24) (hA : H A = some (.lst [.int (b : Int), y, z]))
    (k : ∀ m e p H', H m = none → H e = none → H p = none → Evl.Ex H H' → Rec H' A b m e p → Q (.ref m) H') : tRec K σ H Q := by
  refine fun m nm => ⟨_, hσ, by show 1 ≤ sizeLine; decide, fun l nl => ?_⟩
  have z0 := Evl.Ex.new (o := .dK []) nm
  have z1 := Evl.Ex.new (o := .lst [V.int 0]) nl
  have hA1 := z1 _ _ (z0 _ _ hA)
  have fl := Evl.fresh_back z0 nl
  refine ⟨_, hσ, Sv.ix (x := .non) (Sv.lst hA1) (i := 0) rfl (repV upd_same (by omega) fun e ne p np => ?_)⟩
  have z2 := Evl.Ex.new (o := .lst (List.replicate b (V.int 0))) ne
  have z3 := Evl.Ex.new (o := .dT []) np
  have hm := z3 _ _ (z2 _ _ (z1 _ _ (upd_same (H := H) (a := m) (o := .dK []))))
  have he := z3 _ _ (upd_same (H := upd (upd H m (.dK [])) l (.lst [V.int 0])) (a := e) (o := .lst (List.replicate b (V.int 0))))
  have hp := upd_same (H := upd (upd (upd H m (.dK [])) l (.lst [V.int 0])) e (.lst (List.replicate b (V.int 0)))) (a := p) (o := .dT [])
  have Z := ((z0.trans z1).trans z2).trans z3
  have f1 := Evl.fresh_back (z0.trans z1) ne
  have f2 := Evl.fresh_back ((z0.trans z1).trans z2) np
  have em : e ≠ m := fun q => by subst q; rw [hm] at he; cases he
  have pm : p ≠ m := fun q => by subst q; rw [hm] at hp; cases hp
  refine ⟨hm, mdL 0 A e p, rfl, by show 4 ≤ 15; decide, ?_⟩
  have em2 : mergeK [] (mdL 0 A e p) = mdL 0 A e p := rfl
  rw [em2]
  refine k m e p _ nm f1 f2 (fun q u hq => ?_) ⟨upd_same, ?_, ?_⟩
  · have qm : q ≠ m := fun c => by rw [c, nm] at hq; cases hq
    rw [upd_ne qm]
    exact Z q u hq
  · rw [upd_ne em, he]
    show some (HO.lst (List.replicate b (V.int 0))) = some (HO.lst (IV (List.replicate b 0)))
    rw [show IV (List.replicate b 0) = List.replicate b (V.int 0) from List.map_replicate ..]
  · rw [upd_ne pm]
    exact hp
def InvM (H1 : Hp) (A1 A2 D : Addr) (b1 b2 : Nat) : Nat → Hp → Prop
  | 0, H' => Evl.Ex H1 H' ∧ H' D = some (.lst [])
  | 1, H' => Evl.Ex H1 H' ∧ ∃ m e p, (H1 m = none ∧ H1 e = none ∧ H1 p = none) ∧ Rec H' A1 b1 m e p ∧ H' D = some (.lst [.ref m]) ∧ m ≠ D ∧ e ≠ D ∧ p ≠ D
  | _, H' => Evl.Ex H1 H' ∧ ∃ m e p m2 e2 p2, (H1 m = none ∧ H1 e = none ∧ H1 p = none) ∧ (H1 m2 = none ∧ H1 e2 = none ∧ H1 p2 = none) ∧ Rec H' A1 b1 m e p ∧ Rec H' A2 b2 m2 e2 p2 ∧ H' D = some (.lst [.ref m, .ref m2]) ∧ (m ≠ D ∧ e ≠ D ∧ p ≠ D) ∧ (m2 ≠ D ∧ e2 ≠ D ∧ p2 ≠ D) ∧ m2 ≠ m ∧ e2 ≠ e ∧ p2 ≠ p
theorem models_te {σ : L2.St} {H : Hp} {Q : VK} {S A1 A2 : Addr} {b1 b2 : Nat} {y1 z1 y2 z2 : V} (hσ : (wipe σ [8])[1]? = some (some (.ref S))) (hσ' : σ[1]? = some (some (.ref S))) (hw : ∀ x : Option V, wipe ((wipe σ [8]).set 8 x) [8] = wipe σ [8]) (h8 : ∀ x : Option V, ((wipe σ [8]).set 8 x)[8]? = some x)
    (hS : H S = some (.lst [.ref A1, .ref A2])) (hA1 : H A1 = some (.lst [.int (b1 : Int), y1, z1])) (hA2 : H A2 = some (.lst [.int (b2 : Int), y2, z2])) (c1 : b1 ≤ 24) (c2 : b2 ≤ 24)
    (k : ∀ D H', H D = none → InvM H A1 A2 D b1 b2 2 H' → Q (.ref D) H') : tLc (iSeq K (tVar 1)) (gName 8) tYes (tRec K) [8] σ H Q := by
  refine seq_var (t := false) hσ' (Sv.lst hS) fun J wk D hD => ?_
  refine lc_it wk (fun i H' => i ≤ 2 ∧ InvM H A1 A2 D b1 b2 i H') ⟨by omega, Evl.Ex.new hD, upd_same⟩ (fun i H' _ hh => ?_) ?_ ?_
  · have e : Evl.Ex H H' := by
      rcases i with _ | _ | i
      · exact hh.2.1
      · exact hh.2.1
      · exact hh.2.1
    exact (Sv.lst hS).ex e
  · rintro i x H' H2 hi ⟨_, I⟩ ⟨rfl, hx⟩
    refine ⟨hw _, ?_⟩
    have hi : i = 0 ∨ i = 1 := by
      have : i < 2 := hi
      omega
    rcases hi with rfl | rfl
    · obtain ⟨e1, h1⟩ := I
      cases hx
      dsimp only [tYes]
      rw [if_pos rfl]
      refine rec_te (K := K) (h8 _) c1 (e1 _ _ hA1) fun m e p H3 nm ne np e3 r => ?_
      have h3 := e3 _ _ h1
      have mD : m ≠ D := fun z => by rw [z, h1] at nm; cases nm
      have eD : e ≠ D := fun z => by rw [z, h1] at ne; cases ne
      have pD : p ≠ D := fun z => by rw [z, h1] at np; cases np
      refine ⟨_, h3, by show 0 < sizeLine; decide, by omega, Evl.Ex.mut (e1.trans e3) hD, m, e, p, ⟨Evl.fresh_back e1 nm, Evl.fresh_back e1 ne, Evl.fresh_back e1 np⟩, ⟨by rw [upd_ne mD]; exact r.m, by rw [upd_ne eD]; exact r.e, by rw [upd_ne pD]; exact r.p⟩, upd_same, mD, eD, pD⟩
    · obtain ⟨e1, m, e, p, nn, r1, h1, mD, eD, pD⟩ := I
      cases hx
      dsimp only [tYes]
      rw [if_pos rfl]
      refine rec_te (K := K) (h8 _) c2 (e1 _ _ hA2) fun m2 e2 p2 H3 nm ne np e3 r => ?_
      have h3 := e3 _ _ h1
      have r1' := r1.ex e3
      have mD2 : m2 ≠ D := fun z => by rw [z, h1] at nm; cases nm
      have eD2 : e2 ≠ D := fun z => by rw [z, h1] at ne; cases ne
      have pD2 : p2 ≠ D := fun z => by rw [z, h1] at np; cases np
      refine ⟨_, h3, by show 1 < sizeLine; decide, by omega, Evl.Ex.mut (e1.trans e3) hD, m, e, p, m2, e2, p2, nn, ⟨Evl.fresh_back e1 nm, Evl.fresh_back e1 ne, Evl.fresh_back e1 np⟩, ⟨by rw [upd_ne mD]; exact r1'.m, by rw [upd_ne eD]; exact r1'.e, by rw [upd_ne pD]; exact r1'.p⟩, ⟨by rw [upd_ne mD2]; exact r.m, by rw [upd_ne eD2]; exact r.e, by rw [upd_ne pD2]; exact r.p⟩, upd_same, ⟨mD, eD, pD⟩, ⟨mD2, eD2, pD2⟩, ?_, ?_, ?_⟩
      · rintro rfl
        rw [r1.m] at nm; cases nm
      · rintro rfl
        rw [r1.e] at ne; cases ne
      · rintro rfl
        rw [r1.p] at np; cases np
  · rintro H' ⟨_, I⟩
    exact k D H' hD I
end
end K3
namespace K3
open PySem PySem.Spec PyProof.Rows L2 VB BM
section
variable {P : Program} {w : World} {K : PySem.W.Frag} {mg : Str → Option Value} {base : Heap} {f : Addr} {fd : FuncData}
theorem pgL_new {g p : Nat} (h : p < g) : pgL (List.replicate (31 * g) 255) p = List.replicate 31 255 := by
  unfold pgL
  rw [List.drop_replicate, List.take_replicate]
  congr 1
  omega
theorem mk_pair {H H' : Hp} {x dx A m e p : Addr} {c : Cp} {rs : List Addr} {n g bd : Nat} (M : Made K H H' x dx c rs n g bd) (hA : H A = some (.lst (IV [(n : Int), (g : Int), (bd : Int)]))) (r : Rec H A n m e p) : Pair K H' x dx (newS c rs n g) m A e p [] := by
  have rx := r.ex M.ex
  have o := M.ops
  refine ⟨M.chip, M.pl, ⟨?_, ?_, rx.e, rx.p, ?_, ?_, ?_, ?_, ?_, ?_⟩, fun y oy => ?_⟩
  · show H' m = some (.dK (mdL c.ops A e p))
    rw [o]
    exact rx.m
  · show H' A = some (.lst (IV [c.blocks, c.pages, c.bad]))
    rw [M.bl, M.pg, M.bd]
    exact M.ex _ _ hA
  · show ((([] : List (List Key × V)).length : Nat) : Int) ≤ 16 * c.ops
    rw [o]
    decide
  · show 0 ≤ c.ops ∧ c.ops ≤ 1000
    omega
  · rintro rfl
    rw [r.e] at hA
    have z := HO.lst.inj (Option.some.inj hA)
    have : (IV (List.replicate n 0)).length = 3 := by rw [z]; rfl
    have := M.chip.b8
    have n8 := M.pl.bl
    rw [iv_len, List.length_replicate] at *
    have l : (newS c rs n g).os.length = n := List.length_replicate
    omega
  · intro i hi
    have hi : i ∈ List.replicate n (0 : Int) := hi
    have : i = 0 := List.eq_of_mem_replicate hi
    show 0 ≤ i ∧ i ≤ c.ops
    omega
  · intro b q hb hq _
    have hb : b < (List.replicate n (List.replicate (31 * g) (255 : Int))).length := hb
    rw [List.length_replicate] at hb
    have hq : (q : Int) < c.pages := hq
    show pgL ((List.replicate n (List.replicate (31 * g) (255 : Int))).getD b []) q = _
    rw [rep_at _ _ _ _ hb]
    exact pgL_new (by have := M.pg; omega)
  · intro b q _ _ v hv
    cases hv
  · have z := M.new y oy
    refine ⟨?_, ?_, ?_, ?_⟩
    · rintro rfl; rw [r.m] at z; cases z
    · rintro rfl; rw [hA] at z; cases z
    · rintro rfl; rw [r.e] at z; cases z
    · rintro rfl; rw [r.p] at z; cases z
end
end K3
namespace K3
open PySem PySem.Spec PyProof.Rows L2 VB BM
section
variable {P : Program} {w : World} {K : PySem.W.Frag} {mg : Str → Option Value} {base : Heap} {f : Addr} {fd : FuncData}
def spRight (K : PySem.W.Frag) : Sp := fun vs H Q _ => ∃ (bx : Addr) (c : Int), vs = [.ref bx] ∧ Box H bx c ∧ c < 40000000 ∧ ∀ H', Exb bx H H' → Q (.bl true) H'
theorem asg_step {te : TE} {tg : TG} {rest : TS} {D : Ends} {σ : L2.St} {H : Hp} (h : te σ H fun v H1 => tg v σ H1 fun σ' H' => rest D σ' H') : tSeq (tAsg te tg) rest D σ H := h
/-- both made: apart -/
theorem mk_duo {H0 Hm H5 H6 H7 : Hp} {bx L M x1 dx1 A1 m1 e1 p1 x2 dx2 A2 m2 e2 p2 : Addr} {c1 c2 : Cp} {rs1 rs2 : List Addr} {n1 g1 bd1 n2 g2 bd2 : Nat} {ys : List V} {k : Int}
    (E0 : Exb bx H0 Hm) (B : Box Hm bx k) (hM : Hm M = some (.lst ys)) (M1 : Made K Hm H5 x1 dx1 c1 rs1 n1 g1 bd1) (M2 : Made K H5 H6 x2 dx2 c2 rs2 n2 g2 bd2) (nL : H6 L = none) (e7 : Evl.Ex H6 H7)
    (hA1 : Hm A1 = some (.lst (IV [(n1 : Int), (g1 : Int), (bd1 : Int)]))) (hA2 : Hm A2 = some (.lst (IV [(n2 : Int), (g2 : Int), (bd2 : Int)]))) (r1 : Rec Hm A1 n1 m1 e1 p1) (r2 : Rec Hm A2 n2 m2 e2 p2)
    (f1 : ∀ y, y = m1 ∨ y = A1 ∨ y = e1 ∨ y = p1 → H0 y = none ∧ y ≠ M ∧ y ≠ bx) (f2 : ∀ y, y = m2 ∨ y = A2 ∨ y = e2 ∨ y = p2 → H0 y = none ∧ y ≠ M ∧ y ≠ bx)
    (nm : m2 ≠ m1) (nA : A2 ≠ A1) (ne : e2 ≠ e1) (np : p2 ≠ p1) (ae : A1 ≠ e2) (ea : A2 ≠ e1) : Duo K H0 H7 bx L M x1 dx1 (newS c1 rs1 n1 g1) m1 A1 e1 p1 [] x2 dx2 (newS c2 rs2 n2 g2) m2 A2 e2 p2 [] := by
  have q1 : Pair K H5 x1 dx1 (newS c1 rs1 n1 g1) m1 A1 e1 p1 [] := mk_pair M1 hA1 r1
  have q2 : Pair K H6 x2 dx2 (newS c2 rs2 n2 g2) m2 A2 e2 p2 [] := mk_pair M2 (M1.ex _ _ hA2) (r2.ex M1.ex)
  have hb : ∃ u, Hm bx = some u := by
    obtain ⟨d, m, c, b, h, _⟩ := B
    exact ⟨_, h⟩
  -- what stood before the chips
  have k1 : ∀ y, y = m1 ∨ y = A1 ∨ y = e1 ∨ y = p1 → ∃ u, Hm y = some u := by
    rintro y (rfl | rfl | rfl | rfl)
    · exact ⟨_, r1.m⟩
    · exact ⟨_, hA1⟩
    · exact ⟨_, r1.e⟩
    · exact ⟨_, r1.p⟩
  have k2 : ∀ y, y = m2 ∨ y = A2 ∨ y = e2 ∨ y = p2 → ∃ u, Hm y = some u := by
    rintro y (rfl | rfl | rfl | rfl)
    · exact ⟨_, r2.m⟩
    · exact ⟨_, hA2⟩
    · exact ⟨_, r2.e⟩
    · exact ⟨_, r2.p⟩
  have off : ∀ {y : Addr}, Hm y = none → H0 y = none ∧ y ≠ M ∧ y ≠ bx := by
    intro y hy
    have yb : y ≠ bx := by
      rintro rfl
      obtain ⟨u, h⟩ := hb
      rw [hy] at h
      cases h
    exact ⟨Exb.fresh E0 hy yb, (fun z => by rw [z, hM] at hy; cases hy), yb⟩
  have aL1 : ∀ x, All x1 c1 m1 A1 e1 p1 x → x ≠ L := fun x o z => by
    obtain ⟨u, hu⟩ := q1.all o
    have := M2.ex _ _ hu
    rw [z, nL] at this
    cases this
  have aL2 : ∀ x, All x2 c2 m2 A2 e2 p2 x → x ≠ L := fun x o z => by
    obtain ⟨u, hu⟩ := q2.all o
    rw [z, nL] at hu
    cases hu
  refine ⟨(q1.ex M2.ex).ex e7, q2.ex e7, fun x o1 o2 => ?_, fun x o => ?_, fun x o => ?_⟩
  · rcases o2 with o2 | o2
    · -- the second chip's own: new behind all of the first
      obtain ⟨u, hu⟩ := q1.all o1
      have := M2.new x o2
      rw [hu] at this
      cases this
    · rcases o1 with o1 | o1
      · obtain ⟨u, hu⟩ := k2 x o2
        have := M1.new x o1
        rw [hu] at this
        cases this
      · have d : ∀ {u v : HO}, Hm x = some u → Hm x = some v → u = v := fun a b => Option.some.inj (a.symm.trans b)
        rcases o1 with rfl | rfl | rfl | rfl
        · rcases o2 with h | h | h | h
          · exact nm h.symm
          · have := r1.m; rw [h, hA2] at this; cases this
          · have := r1.m; rw [h, r2.e] at this; cases this
          · have := r1.m; rw [h, r2.p] at this; cases this
        · rcases o2 with h | h | h | h
          · have z := hA1; rw [h, r2.m] at z; cases z
          · exact nA h.symm
          · exact ae h
          · have z := hA1; rw [h, r2.p] at z; cases z
        · rcases o2 with h | h | h | h
          · have z := r1.e; rw [h, r2.m] at z; cases z
          · exact ea h.symm
          · exact ne h.symm
          · have z := r1.e; rw [h, r2.p] at z; cases z
        · rcases o2 with h | h | h | h
          · have z := r1.p; rw [h, r2.m] at z; cases z
          · have z := r1.p; rw [h, hA2] at z; cases z
          · have z := r1.p; rw [h, r2.e] at z; cases z
          · exact np h.symm
  · have l := aL1 x o
    rcases o with o | o
    · obtain ⟨a, b, c⟩ := off (M1.new x o)
      exact ⟨c, a, l, b⟩
    · obtain ⟨a, b, c⟩ := f1 x o
      exact ⟨c, a, l, b⟩
  · have l := aL2 x o
    rcases o with o | o
    · have z := M2.new x o
      obtain ⟨a, b, c⟩ := off (Evl.fresh_back M1.ex z)
      exact ⟨c, a, l, b⟩
    · obtain ⟨a, b, c⟩ := f2 x o
      exact ⟨c, a, l, b⟩
theorem ok_right (T : Txt K mg) (TC : TxC K) (F : FnP K "_law_right" s__law_right f fd) (C__law_take : Cal P w K mg base CX0 1 "_law_take" ["_law_box_here", "_law_many"] spTake) (C__law_shape : Cal P w K mg base CX0 2 "_law_shape" ["_law_box_here"] spShape)
    (N_Chip : Mak P w K mg base (CX P w) 4 "Chip" (Ch K) ["self", "blocks", "pages", "bad"] (spInitC K)) (NK_Chip : MakK P w K mg base (CX P w) 4 "Chip" (Ch K) ["self", "blocks", "pages", "bad"] 1 ["bad", "blocks", "pages"] gW gWV (spInitC K))
    (C__law_counts_right : Cal P w K mg base CX0 5 "_law_counts_right" ["_law_chip", "_law_model"] (spCnt K)) (C__law_call_right : Cal P w K mg base CX0 10 "_law_call_right" ["_law_box_here", "_law_chip", "_law_model"] (spCall K)) (C__law_pages_right : Cal P w K mg base CX0 6 "_law_pages_right" ["_law_chip", "_law_model"] (spPgs K))
    (C__law_shapes_right : Cal P w K mg base CX0 7 "_law_shapes_right" ["_law_box_here"] (spShs K)) : Fg P w K mg base CX0 11 f fd ["_law_box_here"] (spRight K) := by
  refine fg_of F sc__law_right (fun vs H Q E h => ?_) (fun cdv A outer s₀ H vs Q E hr h => ⟨_, (PSs.nox (pss_cons (ps_set (i := 1) sc__law_right.nd rfl (by first | exact Or.inl rfl | exact Or.inr rfl) (pe_lst (pa_cons (pe_cal C__law_shape hr.le pass0 (pa_cons (pv 0) pa_nil)) (pa_cons (pe_lst (pa_cons (pe_op (u_add (K := K)) pe_int (pe_cal C__law_take hr.le pass0 (pa_cons (pv 0) (pa_cons pe_int pa_nil)))) (pa_cons pe_int (pa_cons pe_int pa_nil)))) pa_nil))))
  (pss_cons (ps_setLc (i := 2) (own := [("_law_shape_here", 8)]) rfl sc__law_right.nd rfl rfl (sw_true rfl rfl rfl (by decide +kernel)) (pi_seq (K := K) (pv 1)) (blkOk_by (own := [("_law_shape_here", 8)]) (N := ["_law_box_here", "_law_shapes", "_law_models", "_law_one", "_law_other", "_law_chips", "_law_turn", "_law_k", "_law_shape_here"]) (sc := defScope s__law_right) (by decide +kernel)) (fun _ _ _ _ _ => (pg_name (i := 8) sc__law_right.nd rfl (by first | exact Or.inl rfl | exact Or.inr rfl))) (fun _ _ _ _ _ => pts_nil) (fun _ _ _ _ _ => (pe_disp (pps_cons pe_str (pv 8) (pps_cons pe_str pe_int (pps_cons pe_str (pe_op (u_mul (K := K)) (pe_lst (pa_cons pe_int pa_nil)) (pe_ix (u_ix (K := K)) (pv 8) pe_int (fun _ _ => rfl))) (pps_cons pe_str pe_dnewT pps_nil)))) rfl rfl (fun z => nomatch z) (by decide))))
  (pss_cons (ps_par (i := 3) (j := 4) rfl sc__law_right.nd rfl rfl (by decide) rfl rfl (pa_cons (pe_ix (u_ix (K := K)) (pv 1) pe_int (fun _ _ => rfl)) (pa_cons (pe_ix (u_ix (K := K)) (pv 1) pe_int (fun _ _ => rfl)) pa_nil)) (by rfl))
  (pss_cons (ps_set (i := 5) sc__law_right.nd rfl (by first | exact Or.inl rfl | exact Or.inr rfl) (pe_lst (pa_cons (pe_mak N_Chip hr.le (passes_call takes_no (fun _ _ _ _ h => h)) (pa_cons (pe_ix (u_ix (K := K)) (pv 3) pe_int (fun _ _ => rfl)) (pa_cons (pe_ix (u_ix (K := K)) (pv 3) pe_int (fun _ _ => rfl)) (pa_cons (pe_ix (u_ix (K := K)) (pv 3) pe_int (fun _ _ => rfl)) pa_nil)))) (pa_cons (pe_makK NK_Chip hr.le (passes_call takes_no (fun _ _ _ _ h => h)) (pk_cons (pe_ix (u_ix (K := K)) (pv 4) pe_int (fun _ _ => rfl)) (pk_cons (pe_ix (u_ix (K := K)) (pv 4) pe_int (fun _ _ => rfl)) (pk_cons (pe_ix (u_ix (K := K)) (pv 4) pe_int (fun _ _ => rfl)) pk_nil)))) pa_nil))))
  (pss_cons (ps_for PassesOwn.never rfl (pi_range1 rfl T.f_range (pa_cons pe_int pa_nil)) (pg_name (i := 6) sc__law_right.nd rfl (by first | exact Or.inl rfl | exact Or.inr rfl))
  (pss_cons (ps_set (i := 7) sc__law_right.nd rfl (by first | exact Or.inl rfl | exact Or.inr rfl) (pe_op u_fdiv (pe_cal C__law_take hr.le pass0 (pa_cons (pv 0) (pa_cons pe_int pa_nil))) pe_int))
  (pss_one (ps_if (PW.pt (pw_or (pt_not (pt_tru (K := K) (pe_cal C__law_call_right hr.le pass0 (pa_cons (pv 0) (pa_cons (pe_ix (u_ix (K := K)) (pv 5) (pv 7) (fun _ _ => rfl)) (pa_cons (pe_ix (u_ix (K := K)) (pv 2) (pv 7) (fun _ _ => rfl)) pa_nil)))) (by intro _; rfl))) (pw_or1 (pt_not (pt_tru (K := K) (pe_cal C__law_counts_right hr.le pass0 (pa_cons (pe_ix (u_ix (K := K)) (pv 5) (pe_op op_sub pe_int (pv 7)) (fun _ _ => rfl)) (pa_cons (pe_ix (u_ix (K := K)) (pv 2) (pe_op op_sub pe_int (pv 7)) (fun _ _ => rfl)) pa_nil))) (by intro _; rfl))))))
  (pss_one (ps_ret pe_bl)) pss_nil))))
  (pss_cons (ps_for PassesOwn.never rfl (pi_range1 rfl T.f_range (pa_cons pe_int pa_nil)) (pg_name (i := 7) sc__law_right.nd rfl (by first | exact Or.inl rfl | exact Or.inr rfl))
  (pss_one (ps_if (pt_not (pt_tru (K := K) (pe_cal C__law_pages_right hr.le pass0 (pa_cons (pe_ix (u_ix (K := K)) (pv 5) (pv 7) (fun _ _ => rfl)) (pa_cons (pe_ix (u_ix (K := K)) (pv 2) (pv 7) (fun _ _ => rfl)) pa_nil))) (by intro _; rfl)))
  (pss_one (ps_ret pe_bl)) pss_nil)))
  (pss_one (ps_ret (pe_cal C__law_shapes_right hr.le pass0 (pa_cons (pv 0) pa_nil))))))))))), ?_⟩)
  · obtain ⟨bx, c, rfl, _⟩ := h
    rfl
  · obtain ⟨bx, c, rfl, B, hc, q⟩ := h
    refine ⟨_, rfl, bx, c, rfl, B, by omega, fun A1 b p bd H1 b8 b24 p8 p16 d0 d1 e1 B1 hA1 fA1 nA1 => ?_⟩
    refine ⟨_, rfl, bx, 3, _, rfl, B1, by omega, by omega, by omega, fun x H2 x0 x1 e2 B2 => .inl ⟨_, _, rfl, rfl, by show 3 ≤ sizeLine; decide, fun A2 nA2 => ⟨by show 2 ≤ sizeLine; decide, fun S nS => ?_⟩⟩⟩
    obtain ⟨b, rfl⟩ : ∃ n : Nat, b = n := ⟨b.toNat, by omega⟩
    obtain ⟨p, rfl⟩ : ∃ n : Nat, p = n := ⟨p.toNat, by omega⟩
    obtain ⟨bd, rfl⟩ : ∃ n : Nat, bd = n := ⟨bd.toNat, by omega⟩
    obtain ⟨n2, hn2⟩ : ∃ n : Nat, 8 + x = (n : Int) := ⟨(8 + x).toNat, by omega⟩
    have fA2 : H A2 = none := Exb.fresh (e1.trans e2) nA2 (B2.at nA2)
    have A2b := B2.at nA2
    have A21 : A2 ≠ A1 := by
      rintro rfl
      rw [e2 _ _ nA1 hA1] at nA2
      cases nA2
    have nS' : upd H2 A2 (.lst [V.int (n2 : Int), .int 8, .int 1]) S = none := by rw [← hn2]; exact nS
    show gName 1 (V.ref S) _ (upd (upd H2 A2 (.lst [V.int (8 + x), .int 8, .int 1])) S (.lst [V.ref A1, .ref A2])) _
    rw [hn2]
    have y1 := Evl.Ex.new (o := .lst [V.int (n2 : Int), .int 8, .int 1]) nA2
    have y2 := Evl.Ex.new (o := .lst [V.ref A1, .ref A2]) nS'
    have Y := y1.trans y2
    have hS := upd_same (H := upd H2 A2 (.lst [V.int (n2 : Int), .int 8, .int 1])) (a := S) (o := .lst [V.ref A1, .ref A2])
    have hA2 := y2 _ _ (upd_same (H := H2) (a := A2) (o := .lst [V.int (n2 : Int), .int 8, .int 1]))
    have hA1' := Y _ _ (e2 _ _ nA1 hA1)
    have E2 := (e1.trans e2).trans (Exb.of Y)
    have B3 := B2.ex Y
    clear nS nS' y1 y2 Y
    generalize upd (upd H2 A2 (.lst [V.int (n2 : Int), .int 8, .int 1])) S (.lst [V.ref A1, .ref A2]) = H3 at hS hA2 hA1' E2 B3 ⊢
    dsimp only [gName]
    refine asg_step ?_
    refine models_te (S := S) (σ := [some (.ref bx), some (.ref S), none, none, none, none, none, none, none]) rfl rfl (fun _ => rfl) (fun _ => rfl) hS hA1' hA2 (by omega) (by omega) fun M H4 nM I => ?_
    obtain ⟨e4, m1, er1, p1, m2, er2, p2, nn1, nn2, r1, r2, hM, dD1, dD2, nm, ne, np⟩ := I
    have hA1'' := e4 _ _ hA1'
    have hA2'' := e4 _ _ hA2
    refine ⟨_, rfl, Sv.ix (x := .non) (Sv.lst (e4 _ _ hS)) (i := 0) rfl ⟨_, rfl, Sv.ix (x := .non) (Sv.lst (e4 _ _ hS)) (i := 1) rfl ⟨_, _, rfl, ?_⟩⟩⟩
    refine ⟨_, rfl, Sv.ix (x := .non) (Sv.lst hA1'') (i := 0) rfl ⟨_, rfl, Sv.ix (x := .non) (Sv.lst hA1'') (i := 1) rfl ⟨_, rfl, Sv.ix (x := .non) (Sv.lst hA1'') (i := 2) rfl fun ch1 dx1 hx1 hdx1 ne1 => init_good hx1 hdx1 ne1 (by omega) (by omega) (by omega) (by omega) (by omega) fun c1 rs1 H5 M1 => ?_⟩⟩⟩
    have hA25 := M1.ex _ _ hA2''
    refine ⟨_, rfl, Sv.ix (x := .non) (Sv.lst hA25) (i := 2) rfl ⟨_, rfl, Sv.ix (x := .non) (Sv.lst hA25) (i := 0) rfl ⟨_, rfl, Sv.ix (x := .non) (Sv.lst hA25) (i := 1) rfl ⟨rfl, fun ch2 dx2 hx2 hdx2 ne2 => init_good (n := n2) (g := 8) (bd := 1) hx2 hdx2 ne2 (by omega) (by omega) (by omega) (by omega) (by omega) fun c2 rs2 H6 M2 => ⟨by show 2 ≤ sizeLine; decide, fun L nL => ?_⟩⟩⟩⟩⟩
    have z := Evl.Ex.new (o := .lst [V.ref ch1, .ref ch2]) nL
    have E4 := E2.trans (Exb.of e4)
    have off : ∀ {y : Addr}, H3 y = none → H y = none ∧ y ≠ bx := fun hy => ⟨Exb.fresh E2 hy (B3.at hy), B3.at hy⟩
    have Mn : M ≠ bx := B3.at nM
    have hd := mk_duo (L := L) E4 (B3.ex e4) hM M1 M2 nL z hA1'' hA2'' r1 r2 ?_ ?_ nm A21 ne np ?_ ?_
    · exact right_tail hd upd_same (z _ _ (M2.ex _ _ (M1.ex _ _ hM))) ((B3.ex e4).ex (M1.ex.trans M2.ex) |>.at nL) Mn (((B3.ex e4).ex ((M1.ex.trans M2.ex).trans z))) (by omega) (E4.trans (Exb.of ((M1.ex.trans M2.ex).trans z))) M1.ops M2.ops q
    · rintro y (rfl | rfl | rfl | rfl)
      · exact ⟨(off nn1.1).1, dD1.1, (off nn1.1).2⟩
      · exact ⟨fA1, (fun z => by rw [z, nM] at hA1'; cases hA1'), nA1⟩
      · exact ⟨(off nn1.2.1).1, dD1.2.1, (off nn1.2.1).2⟩
      · exact ⟨(off nn1.2.2).1, dD1.2.2, (off nn1.2.2).2⟩
    · rintro y (rfl | rfl | rfl | rfl)
      · exact ⟨(off nn2.1).1, dD2.1, (off nn2.1).2⟩
      · exact ⟨fA2, (fun z => by rw [z, nM] at hA2; cases hA2), A2b⟩
      · exact ⟨(off nn2.2.1).1, dD2.2.1, (off nn2.2.1).2⟩
      · exact ⟨(off nn2.2.2).1, dD2.2.2, (off nn2.2.2).2⟩
    · rintro rfl
      rw [hA1'] at nn2
      cases nn2.2.1
    · rintro rfl
      rw [hA2] at nn1
      cases nn1.2.1
end
end K3
namespace K3
open PySem PySem.Spec PyProof.Rows L2 VB BM
theorem ex_b {a : Addr} {H0 H H' : Hp} (e : Evl.Ex H0 H) (h : H0 a = none) (x : Exb a H H') : Evl.Ex H0 H' := fun b o q => x b o (fun z => by rw [z, h] at q; cases q) (e b o q)
section
variable {P : Program} {w : World} {K : PySem.W.Frag} {mg : Str → Option Value} {base : Heap} {f : Addr} {fd : FuncData}
theorem ini_InvalidBlock (F : FnM K "__init__" "InvalidBlock.__init__" s_InvalidBlock____init__ f fd) : FnOk P w K mg base CX0 1 f fd ["self", "given"] (spInit K "given") := by
  refine F.ok sc_InvalidBlock____init__ (fun vs H Q E h => ?_) (fun cdv A outer s H vs Q E hr h => ⟨_, pss_one (ps_ost (pv 0) (pv 1)), ?_⟩)
  · obtain ⟨a, C, y, rfl, _⟩ := h
    rfl
  · obtain ⟨a, C, y, rfl, T, no, ea, q⟩ := h
    exact ⟨_, rfl, _, rfl, a, C, rfl, T, no, .inl ⟨ea, fun dx n ne => q dx n ne⟩⟩
theorem ini_InvalidPage (F : FnM K "__init__" "InvalidPage.__init__" s_InvalidPage____init__ f fd) : FnOk P w K mg base CX0 1 f fd ["self", "given"] (spInit K "given") := by
  refine F.ok sc_InvalidPage____init__ (fun vs H Q E h => ?_) (fun cdv A outer s H vs Q E hr h => ⟨_, pss_one (ps_ost (pv 0) (pv 1)), ?_⟩)
  · obtain ⟨a, C, y, rfl, _⟩ := h
    rfl
  · obtain ⟨a, C, y, rfl, T, no, ea, q⟩ := h
    exact ⟨_, rfl, _, rfl, a, C, rfl, T, no, .inl ⟨ea, fun dx n ne => q dx n ne⟩⟩
theorem ini_InvalidOctets (F : FnM K "__init__" "InvalidOctets.__init__" s_InvalidOctets____init__ f fd) : FnOk P w K mg base CX0 1 f fd ["self", "given"] (spInit K "given") := by
  refine F.ok sc_InvalidOctets____init__ (fun vs H Q E h => ?_) (fun cdv A outer s H vs Q E hr h => ⟨_, pss_one (ps_ost (pv 0) (pv 1)), ?_⟩)
  · obtain ⟨a, C, y, rfl, _⟩ := h
    rfl
  · obtain ⟨a, C, y, rfl, T, no, ea, q⟩ := h
    exact ⟨_, rfl, _, rfl, a, C, rfl, T, no, .inl ⟨ea, fun dx n ne => q dx n ne⟩⟩
theorem ini_InvalidShape (F : FnM K "__init__" "InvalidShape.__init__" s_InvalidShape____init__ f fd) : FnOk P w K mg base CX0 1 f fd ["self", "given"] (spInit K "given") := by
  refine F.ok sc_InvalidShape____init__ (fun vs H Q E h => ?_) (fun cdv A outer s H vs Q E hr h => ⟨_, pss_one (ps_ost (pv 0) (pv 1)), ?_⟩)
  · obtain ⟨a, C, y, rfl, _⟩ := h
    rfl
  · obtain ⟨a, C, y, rfl, T, no, ea, q⟩ := h
    exact ⟨_, rfl, _, rfl, a, C, rfl, T, no, .inl ⟨ea, fun dx n ne => q dx n ne⟩⟩
theorem ok_changed (F : FnP K "changed" s_changed f fd) : Fg P w K mg base CX0 6 f fd ["old", "new", "mask"] spNo := by
  exact fg_of F sc_changed (fun vs H Q E h => False.elim h) (fun cdv A outer s H vs Q E hr h => False.elim h)
theorem ok_bad_blocks (F : FnM K "bad_blocks" "Chip.bad_blocks" s_Chip__bad_blocks f fd) : Fg P w K mg base CX0 1 f fd ["self"] spNo := by
  exact fg_of F sc_Chip__bad_blocks (fun vs H Q E h => False.elim h) (fun cdv A outer s H vs Q E hr h => False.elim h)
def spLaw (K : PySem.W.Frag) : Sp := fun vs H Q _ => ∃ (a : Addr) (ns : List Int), vs = [.ref a] ∧ SqL K H a (ns.map V.int) ∧ ns.length ≤ 1000 ∧ ∀ H' : Hp, Q (.bl true) H'
theorem ok_law (T : Txt K mg) (F : FnP K "law" s_law f fd) (C__law_right : Cal P w K mg base CX0 11 "_law_right" ["_law_box_here"] (spRight K)) (C__law_box : Cal P w K mg base CX0 1 "_law_box" ["_law_great"] spBox) (C__law_cell : Cal P w K mg base CX0 1 "_law_cell" ["_law_script", "_law_k"] (spCell K)) :
    Fg P w K mg base CX0 12 f fd ["_law_script"] (spLaw K) := by
  refine fg_of F sc_law (fun vs H Q E h => ?_) (fun cdv A outer s H vs Q E hr h => ⟨_, (PSs.nox (pss_cons (ps_for PassesOwn.never rfl (pi_range1 rfl T.f_range (pa_cons (pe_callB (call_max2 rfl) (by rfl) T.f_max (by decide +kernel) (pa_cons pe_int (pa_cons (pe_callB (call_min2 rfl) (by rfl) T.f_min (by decide +kernel) (pa_cons pe_int (pa_cons (pe_callB (u_len (K := K)) (by rfl) T.f_len (by decide +kernel) (pa_cons (pv 0) pa_nil)) pa_nil))) pa_nil))) pa_nil)) (pg_name (i := 1) sc_law.nd rfl (by first | exact Or.inl rfl | exact Or.inr rfl))
  (pss_one (ps_if (pt_not (pt_tru (K := K) (pe_cal C__law_right hr.le pass0 (pa_cons (pe_cal C__law_box hr.le pass0 (pa_cons (pe_cal C__law_cell hr.le pass0 (pa_cons (pv 0) (pa_cons (pv 1) pa_nil))) pa_nil)) pa_nil)) (by intro _; rfl)))
  (pss_one (ps_ret pe_bl)) pss_nil)))
  (pss_one (ps_ret pe_bl)))), ?_⟩)
  · obtain ⟨a, ns, rfl, _⟩ := h
    rfl
  · obtain ⟨a, ns, rfl, S, hl, q⟩ := h
    refine ⟨_, rfl, _, _, rfl, .inl ⟨_, S, rfl⟩, _, _, rfl, _, _, rfl, ?_⟩
    obtain ⟨t, ht, t2⟩ : ∃ t : Nat, (if (1 : Int) < (if ((ns.map V.int).length : Int) < 2 then ((ns.map V.int).length : Int) else 2) then (if ((ns.map V.int).length : Int) < 2 then ((ns.map V.int).length : Int) else 2) else 1) = (t : Int) ∧ t ≤ 2 := by
      refine ⟨(if (1 : Int) < (if ((ns.map V.int).length : Int) < 2 then ((ns.map V.int).length : Int) else 2) then (if ((ns.map V.int).length : Int) < 2 then ((ns.map V.int).length : Int) else 2) else 1).toNat, ?_, ?_⟩
      · split <;> split <;> omega
      · split <;> split <;> omega
    rw [ht]
    refine ⟨(t : Int), rfl, by omega, by omega, ?_⟩
    have tt : ((t : Int)).toNat = t := by omega
    rw [tt]
    refine for_range (lo := 0) (n := t) (fun i σ H' => i ≤ t ∧ Evl.Ex H H' ∧ ∃ v1 : Option V, σ = [some (.ref a), v1]) ⟨by omega, Evl.Ex.refl _, _, rfl⟩ ?_ ?_
    · rintro i σ H1 hi ⟨_, e1, v1, rfl⟩
      have ez : (0 : Int) + (i : Int) = (i : Int) := Int.zero_add _
      rw [ez]
      refine ⟨_, rfl, _, rfl, a, ns, (i : Int), rfl, Evl.ex_l e1 S, by omega, by omega, hl, fun g H2 e2 => ⟨g, rfl, fun p H3 n3 e3 B => ⟨p, 0, rfl, B, by omega, fun H4 x4 => ⟨true, rfl, iteF ⟨by omega, ?_, _, rfl⟩⟩⟩⟩⟩
      exact ex_b ((e1.trans e2).trans e3) (Evl.fresh_back (e1.trans e2) n3) x4
    · rintro σ H1 ⟨_, e1, v1, rfl⟩
      exact q H1
end
end K3
set_option maxHeartbeats 0
namespace K3
open PySem PySem.Spec PyProof.Rows L2 VB
theorem facts {P : Program} {w : World} {K : PySem.W.Frag} {h : Heap} {mg : Str → Option Value} {f : Addr} (X : K.In h) (G : h.Ns mainGlobals mg) (hfa : mg ("law" : Str) = some (.ref f)) (cx : He.SaysX fal fnl [] [] exB w h K) :
    ∃ fd : FuncData, (∀ (s : Shared) (v : Value), BindsTo s fd ⟨[v], []⟩ [("_law_script", v)]) ∧ ∀ base : Heap, K.In base → base.Ns mainGlobals mg → Fg P w K mg base CX0 12 f fd ["_law_script"] (spLaw K) := by
  have c := cx.t.d
  have cm := cx.more
  have cj0 := (He.ba cm).1
  have cm := (He.ba cm).2
  have cj1 := (He.ba cm).1
  have cm := (He.ba cm).2
  have cj2 := (He.ba cm).1
  have cm := (He.ba cm).2
  have cj3 := (He.ba cm).1
  have cm := (He.ba cm).2
  have cj4 := (He.ba cm).1
  have cm := (He.ba cm).2
  have cj5 := (He.ba cm).1
  have cm := (He.ba cm).2
  have cj6 := (He.ba cm).1
  have cm := (He.ba cm).2
  have cj7 := (He.ba cm).1
  have cm := (He.ba cm).2
  have cj8 := cm
  obtain ⟨fd__law_take, F__law_take⟩ := c.def_ 0 (d := d__law_take) rfl
  obtain ⟨fd__law_shape, F__law_shape⟩ := c.def_ 1 (d := d__law_shape) rfl
  obtain ⟨fd_is_int_from, F_is_int_from⟩ := c.def_ 2 (d := d_is_int_from) rfl
  obtain ⟨fd_is_block_count, F_is_block_count⟩ := c.def_ 3 (d := d_is_block_count) rfl
  obtain ⟨fd_is_page_count, F_is_page_count⟩ := c.def_ 4 (d := d_is_page_count) rfl
  obtain ⟨fd_is_bad_count, F_is_bad_count⟩ := c.def_ 5 (d := d_is_bad_count) rfl
  obtain ⟨fd__clean_block, F__clean_block⟩ := c.def_ 6 (d := d__clean_block) rfl
  obtain ⟨fd__law_counts_right, F__law_counts_right⟩ := c.def_ 7 (d := d__law_counts_right) rfl
  obtain ⟨fd__law_drawn_octets, F__law_drawn_octets⟩ := c.def_ 8 (d := d__law_drawn_octets) rfl
  obtain ⟨fd__law_page, F__law_page⟩ := c.def_ 9 (d := d__law_page) rfl
  obtain ⟨fd__law_odd_index, F__law_odd_index⟩ := c.def_ 10 (d := d__law_odd_index) rfl
  obtain ⟨fd__law_odd_octets, F__law_odd_octets⟩ := c.def_ 11 (d := d__law_odd_octets) rfl
  obtain ⟨fd__law_is_index, F__law_is_index⟩ := c.def_ 12 (d := d__law_is_index) rfl
  obtain ⟨fd__law_are_octets, F__law_are_octets⟩ := c.def_ 13 (d := d__law_are_octets) rfl
  obtain ⟨fd__law_due_error, F__law_due_error⟩ := c.def_ 14 (d := d__law_due_error) rfl
  obtain ⟨fd_is_list, F_is_list⟩ := c.def_ 15 (d := d_is_list) rfl
  obtain ⟨fd_is_octets, F_is_octets⟩ := c.def_ 16 (d := d_is_octets) rfl
  obtain ⟨fd_is_octets_of, F_is_octets_of⟩ := c.def_ 17 (d := d_is_octets_of) rfl
  obtain ⟨fd_changed, F_changed⟩ := c.def_ 18 (d := d_changed) rfl
  obtain ⟨fd__law_done, F__law_done⟩ := c.def_ 19 (d := d__law_done) rfl
  obtain ⟨fd__law_is_very, F__law_is_very⟩ := c.def_ 20 (d := d__law_is_very) rfl
  obtain ⟨fd__law_followed, F__law_followed⟩ := c.def_ 21 (d := d__law_followed) rfl
  obtain ⟨fd__law_is_page, F__law_is_page⟩ := c.def_ 22 (d := d__law_is_page) rfl
  obtain ⟨fd__law_call_right, F__law_call_right⟩ := c.def_ 23 (d := d__law_call_right) rfl
  obtain ⟨fd__law_pages_right, F__law_pages_right⟩ := c.def_ 24 (d := d__law_pages_right) rfl
  obtain ⟨fd__law_shape_error, F__law_shape_error⟩ := c.def_ 25 (d := d__law_shape_error) rfl
  obtain ⟨fd__law_shapes_right, F__law_shapes_right⟩ := c.def_ 26 (d := d__law_shapes_right) rfl
  obtain ⟨fd__law_right, F__law_right⟩ := c.def_ 27 (d := d__law_right) rfl
  obtain ⟨fd__law_box, F__law_box⟩ := c.def_ 28 (d := d__law_box) rfl
  obtain ⟨fd__law_cell, F__law_cell⟩ := c.def_ 29 (d := d__law_cell) rfl
  obtain ⟨fd_law, F_law⟩ := c.def_ 30 (d := d_law) rfl
  obtain ⟨fd_Chip____init__, F_Chip____init__⟩ := c.def_ 31 (d := d_Chip____init__) rfl
  obtain ⟨fd_Chip___check_block, F_Chip___check_block⟩ := c.def_ 32 (d := d_Chip___check_block) rfl
  obtain ⟨fd_Chip__erases, F_Chip__erases⟩ := c.def_ 33 (d := d_Chip__erases) rfl
  obtain ⟨fd_Chip___check_page, F_Chip___check_page⟩ := c.def_ 34 (d := d_Chip___check_page) rfl
  obtain ⟨fd_Chip__bad_blocks, F_Chip__bad_blocks⟩ := c.def_ 35 (d := d_Chip__bad_blocks) rfl
  obtain ⟨fd_Chip___set_octets, F_Chip___set_octets⟩ := c.def_ 36 (d := d_Chip___set_octets) rfl
  obtain ⟨fd_Chip___do_op, F_Chip___do_op⟩ := c.def_ 37 (d := d_Chip___do_op) rfl
  obtain ⟨fd_Chip__write, F_Chip__write⟩ := c.def_ 38 (d := d_Chip__write) rfl
  obtain ⟨fd_Chip__erase, F_Chip__erase⟩ := c.def_ 39 (d := d_Chip__erase) rfl
  obtain ⟨fd_Chip__read, F_Chip__read⟩ := c.def_ 40 (d := d_Chip__read) rfl
  obtain ⟨fd_InvalidBlock____init__, F_InvalidBlock____init__⟩ := c.def_ 41 (d := d_InvalidBlock____init__) rfl
  obtain ⟨fd_InvalidPage____init__, F_InvalidPage____init__⟩ := c.def_ 42 (d := d_InvalidPage____init__) rfl
  obtain ⟨fd_InvalidOctets____init__, F_InvalidOctets____init__⟩ := c.def_ 43 (d := d_InvalidOctets____init__) rfl
  obtain ⟨fd_InvalidShape____init__, F_InvalidShape____init__⟩ := c.def_ 44 (d := d_InvalidShape____init__) rfl
  have g__law_take := He.glo_ok X G (c.fact 0 (f := .glo "_law_take") rfl)
  have g__law_shape := He.glo_ok X G (c.fact 1 (f := .glo "_law_shape") rfl)
  have g_is_int_from := He.glo_ok X G (c.fact 2 (f := .glo "is_int_from") rfl)
  have g_is_block_count := He.glo_ok X G (c.fact 3 (f := .glo "is_block_count") rfl)
  have g_is_page_count := He.glo_ok X G (c.fact 4 (f := .glo "is_page_count") rfl)
  have g_is_bad_count := He.glo_ok X G (c.fact 5 (f := .glo "is_bad_count") rfl)
  have g__clean_block := He.glo_ok X G (c.fact 6 (f := .glo "_clean_block") rfl)
  have g__law_counts_right := He.glo_ok X G (c.fact 7 (f := .glo "_law_counts_right") rfl)
  have g__law_drawn_octets := He.glo_ok X G (c.fact 8 (f := .glo "_law_drawn_octets") rfl)
  have g__law_page := He.glo_ok X G (c.fact 9 (f := .glo "_law_page") rfl)
  have g__law_odd_index := He.glo_ok X G (c.fact 10 (f := .glo "_law_odd_index") rfl)
  have g__law_odd_octets := He.glo_ok X G (c.fact 11 (f := .glo "_law_odd_octets") rfl)
  have g__law_is_index := He.glo_ok X G (c.fact 12 (f := .glo "_law_is_index") rfl)
  have g__law_are_octets := He.glo_ok X G (c.fact 13 (f := .glo "_law_are_octets") rfl)
  have g__law_due_error := He.glo_ok X G (c.fact 14 (f := .glo "_law_due_error") rfl)
  have g_is_list := He.glo_ok X G (c.fact 15 (f := .glo "is_list") rfl)
  have g_is_octets := He.glo_ok X G (c.fact 16 (f := .glo "is_octets") rfl)
  have g_is_octets_of := He.glo_ok X G (c.fact 17 (f := .glo "is_octets_of") rfl)
  have g_changed := He.glo_ok X G (c.fact 18 (f := .glo "changed") rfl)
  have g__law_done := He.glo_ok X G (c.fact 19 (f := .glo "_law_done") rfl)
  have g__law_is_very := He.glo_ok X G (c.fact 20 (f := .glo "_law_is_very") rfl)
  have g__law_followed := He.glo_ok X G (c.fact 21 (f := .glo "_law_followed") rfl)
  have g__law_is_page := He.glo_ok X G (c.fact 22 (f := .glo "_law_is_page") rfl)
  have g__law_call_right := He.glo_ok X G (c.fact 23 (f := .glo "_law_call_right") rfl)
  have g__law_pages_right := He.glo_ok X G (c.fact 24 (f := .glo "_law_pages_right") rfl)
  have g__law_shape_error := He.glo_ok X G (c.fact 25 (f := .glo "_law_shape_error") rfl)
  have g__law_shapes_right := He.glo_ok X G (c.fact 26 (f := .glo "_law_shapes_right") rfl)
  have g__law_right := He.glo_ok X G (c.fact 27 (f := .glo "_law_right") rfl)
  have g__law_box := He.glo_ok X G (c.fact 28 (f := .glo "_law_box") rfl)
  have g__law_cell := He.glo_ok X G (c.fact 29 (f := .glo "_law_cell") rfl)
  have g_law := He.glo_ok X G (c.fact 30 (f := .glo "law") rfl)
  have T : Txt K mg := ⟨He.free_ok X G (c.fact 31 (f := .free "abs") rfl), He.free_ok X G (c.fact 32 (f := .free "all") rfl), He.free_ok X G (c.fact 33 (f := .free "bool") rfl), He.free_ok X G (c.fact 34 (f := .free "enumerate") rfl), He.free_ok X G (c.fact 35 (f := .free "int") rfl), He.free_ok X G (c.fact 36 (f := .free "isinstance") rfl), He.free_ok X G (c.fact 37 (f := .free "len") rfl), He.free_ok X G (c.fact 38 (f := .free "list") rfl), He.free_ok X G (c.fact 39 (f := .free "max") rfl), He.free_ok X G (c.fact 40 (f := .free "min") rfl), He.free_ok X G (c.fact 41 (f := .free "range") rfl), He.free_ok X G (c.fact 42 (f := .free "repr") rfl), He.free_ok X G (c.fact 43 (f := .free "sum") rfl), He.free_ok X G (c.fact 44 (f := .free "tuple") rfl), He.free_ok X G (c.fact 45 (f := .free "zip") rfl), He.int_ok X G (c.fact 46 (f := .int "LEAST_BLOCKS" 8) rfl), He.int_ok X G (c.fact 47 (f := .int "LEAST_GOOD_BLOCKS" 7) rfl), He.int_ok X G (c.fact 48 (f := .int "LEAST_PAGES" 8) rfl), He.int_ok X G (c.fact 49 (f := .int "MASK_BITS" 4096) rfl), He.int_ok X G (c.fact 50 (f := .int "MOST_BLOCKS" 24) rfl), He.int_ok X G (c.fact 51 (f := .int "MOST_PAGES" 16) rfl), He.int_ok X G (c.fact 52 (f := .int "PAGE_OCTETS" 31) rfl)⟩
  have kc := He.cls_ok (c.fact 59 (f := .cls "Chip") rfl)
  have TC : TxC K := by
    refine ⟨kc, fun x hx => ?_⟩
    simp only [List.mem_cons, List.not_mem_nil, or_false] at hx
    rcases hx with rfl | rfl | rfl | rfl | rfl | rfl | rfl | rfl | rfl | rfl | rfl
    · exact He.noat_ok (c.fact 60 (f := .noat "Chip" "blocks") rfl)
    · exact He.noat_ok (c.fact 61 (f := .noat "Chip" "pages") rfl)
    · exact He.noat_ok (c.fact 62 (f := .noat "Chip" "bad") rfl)
    · exact He.noat_ok (c.fact 63 (f := .noat "Chip" "ops") rfl)
    · exact He.noat_ok (c.fact 64 (f := .noat "Chip" "cuts") rfl)
    · exact He.noat_ok (c.fact 65 (f := .noat "Chip" "_octets") rfl)
    · exact He.noat_ok (c.fact 66 (f := .noat "Chip" "_erased") rfl)
    · exact He.noat_ok (c.fact 67 (f := .noat "Chip" "_turned_bad") rfl)
    · exact He.noat_ok (c.fact 68 (f := .noat "Chip" "_cut_plans") rfl)
    · exact He.noat_ok (c.fact 69 (f := .noat "Chip" "_fail_plans") rfl)
    · exact He.noat_ok (c.fact 70 (f := .noat "Chip" "_reads") rfl)
  have gChip := He.glo_ok X G (c.fact 53 (f := .glo "Chip") rfl)
  have gF := He.glo_ok X G (c.fact 54 (f := .glo "FlashError") rfl)
  have gInvalidBlock := He.glo_ok X G (c.fact 55 (f := .glo "InvalidBlock") rfl)
  obtain ⟨errInvalidBlock, xBB⟩ := errB_ok cj0 gInvalidBlock
  have gInvalidPage := He.glo_ok X G (c.fact 56 (f := .glo "InvalidPage") rfl)
  obtain ⟨errInvalidPage, xPP⟩ := errB_ok cj1 gInvalidPage
  have gInvalidOctets := He.glo_ok X G (c.fact 57 (f := .glo "InvalidOctets") rfl)
  obtain ⟨errInvalidOctets, xOO⟩ := errB_ok cj2 gInvalidOctets
  have gInvalidShape := He.glo_ok X G (c.fact 58 (f := .glo "InvalidShape") rfl)
  obtain ⟨errInvalidShape, xSS⟩ := errB_ok cj3 gInvalidShape
  have xPB := of_decide_eq_true cj4
  have xOB := of_decide_eq_true cj5
  have xOP := of_decide_eq_true cj6
  have iE := isEB_ok cj7
  have BC := cj8
  cases hfa.symm.trans g_law
  have b := FunD.bindsA (ps := ["_law_script"]) F_law fun _ _ _ _ _ _ us hl => match us, hl with | [_], _ => rfl
  refine ⟨fd_law, fun s v => b s [v] rfl, fun base _ _ => ?_⟩
  have E_InvalidBlock : MkE P w K mg base "InvalidBlock" "given" (He.ga K "InvalidBlock") (He.ma K (He.ga K "InvalidBlock") "__init__") := ⟨errInvalidBlock, fd_InvalidBlock____init__, ini_InvalidBlock F_InvalidBlock____init__, F_InvalidBlock____init__.bindsN fun _ _ _ _ _ _ us hl => match us, hl with | [_, _], _ => rfl⟩
  have E_InvalidPage : MkE P w K mg base "InvalidPage" "given" (He.ga K "InvalidPage") (He.ma K (He.ga K "InvalidPage") "__init__") := ⟨errInvalidPage, fd_InvalidPage____init__, ini_InvalidPage F_InvalidPage____init__, F_InvalidPage____init__.bindsN fun _ _ _ _ _ _ us hl => match us, hl with | [_, _], _ => rfl⟩
  have E_InvalidOctets : MkE P w K mg base "InvalidOctets" "given" (He.ga K "InvalidOctets") (He.ma K (He.ga K "InvalidOctets") "__init__") := ⟨errInvalidOctets, fd_InvalidOctets____init__, ini_InvalidOctets F_InvalidOctets____init__, F_InvalidOctets____init__.bindsN fun _ _ _ _ _ _ us hl => match us, hl with | [_, _], _ => rfl⟩
  have E_InvalidShape : MkE P w K mg base "InvalidShape" "given" (He.ga K "InvalidShape") (He.ma K (He.ga K "InvalidShape") "__init__") := ⟨errInvalidShape, fd_InvalidShape____init__, ini_InvalidShape F_InvalidShape____init__, F_InvalidShape____init__.bindsN fun _ _ _ _ _ _ us hl => match us, hl with | [_, _], _ => rfl⟩
  have G__law_take : Fg P w K mg base CX0 1 _ fd__law_take ["_law_box_here", "_law_many"] spTake := ok_take (F := F__law_take) (T := T)
  have C__law_take_1 : Cal P w K mg base CX0 1 "_law_take" ["_law_box_here", "_law_many"] spTake := ⟨_, fd__law_take, G__law_take.le (by omega), g__law_take, F__law_take.kp, F__law_take.bindsN fun _ _ _ _ _ _ us hl => match us, hl with | [_, _], _ => rfl⟩
  have G__law_shape : Fg P w K mg base CX0 2 _ fd__law_shape ["_law_box_here"] spShape := ok_shape (F := F__law_shape) (T := T) (C__law_take := C__law_take_1)
  have G_is_int_from : Fg P w K mg base CX0 2 _ fd_is_int_from ["value", "least", "greatest"] (spIntFrom K) := ok_int_from (F := F_is_int_from) (T := T)
  have C_is_int_from_2 : Cal P w K mg base CX0 2 "is_int_from" ["value", "least", "greatest"] (spIntFrom K) := ⟨_, fd_is_int_from, G_is_int_from.le (by omega), g_is_int_from, F_is_int_from.kp, F_is_int_from.bindsN fun _ _ _ _ _ _ us hl => match us, hl with | [_, _, _], _ => rfl⟩
  have G_is_block_count : Fg P w K mg base CX0 3 _ fd_is_block_count ["value"] (spBC K) := ok_bc (F := F_is_block_count) (T := T) (C_is_int_from := C_is_int_from_2)
  have G_is_page_count : Fg P w K mg base CX0 3 _ fd_is_page_count ["value"] (spPC K) := ok_pc (F := F_is_page_count) (T := T) (C_is_int_from := C_is_int_from_2)
  have G_is_bad_count : Fg P w K mg base CX0 3 _ fd_is_bad_count ["value", "blocks"] (spBdC K) := ok_bdc (F := F_is_bad_count) (T := T) (C_is_int_from := C_is_int_from_2)
  have G__clean_block : Fg P w K mg base CX0 1 _ fd__clean_block ["pages"] spCB := ok_cb (F := F__clean_block) (T := T)
  have C_is_block_count_3 : Cal P w K mg base CX0 3 "is_block_count" ["value"] (spBC K) := ⟨_, fd_is_block_count, G_is_block_count.le (by omega), g_is_block_count, F_is_block_count.kp, F_is_block_count.bindsN fun _ _ _ _ _ _ us hl => match us, hl with | [_], _ => rfl⟩
  have C_is_page_count_3 : Cal P w K mg base CX0 3 "is_page_count" ["value"] (spPC K) := ⟨_, fd_is_page_count, G_is_page_count.le (by omega), g_is_page_count, F_is_page_count.kp, F_is_page_count.bindsN fun _ _ _ _ _ _ us hl => match us, hl with | [_], _ => rfl⟩
  have C_is_bad_count_3 : Cal P w K mg base CX0 3 "is_bad_count" ["value", "blocks"] (spBdC K) := ⟨_, fd_is_bad_count, G_is_bad_count.le (by omega), g_is_bad_count, F_is_bad_count.kp, F_is_bad_count.bindsN fun _ _ _ _ _ _ us hl => match us, hl with | [_, _], _ => rfl⟩
  have C__clean_block_1 : Cal P w K mg base CX0 1 "_clean_block" ["pages"] spCB := ⟨_, fd__clean_block, G__clean_block.le (by omega), g__clean_block, F__clean_block.kp, F__clean_block.bindsN fun _ _ _ _ _ _ us hl => match us, hl with | [_], _ => rfl⟩
  have G_Chip____init__ : Fg P w K mg base (CX P w) 4 _ fd_Chip____init__ ["self", "blocks", "pages", "bad"] (spInitC K) := ok_init (F := F_Chip____init__) (T := T) (TC := TC) (E_InvalidShape := E_InvalidShape) (C_is_block_count := C_is_block_count_3) (C_is_page_count := C_is_page_count_3) (C_is_bad_count := C_is_bad_count_3) (C__clean_block := C__clean_block_1)
  have G_Chip___check_block : Fg P w K mg base (CX P w) 3 _ fd_Chip___check_block ["self", "block"] (spChkB K) := ok_check_block (F := F_Chip___check_block) (T := T) (TC := TC) (E_InvalidBlock := E_InvalidBlock) (C_is_int_from := C_is_int_from_2)
  have M_Chip___check_block_3 : CalM P w K mg base (CX P w) 3 (Ch K) "_check_block" ["self", "block"] (spChkB K) := ⟨_, fd_Chip___check_block, G_Chip___check_block.le (by omega), kc, He.meth_ok (c.fact 71 (f := .meth "Chip" "_check_block") rfl), F_Chip___check_block.bindsN fun _ _ _ _ _ _ us hl => match us, hl with | [_, _], _ => rfl⟩
  have G_Chip__erases : Fg P w K mg base (CX P w) 4 _ fd_Chip__erases ["self", "block"] (spErases K) := ok_erases (F := F_Chip__erases) (T := T) (TC := TC) (M_Chip___check_block := M_Chip___check_block_3)
  have M_Chip__erases_4 : CalM P w K mg base (CX P w) 4 (Ch K) "erases" ["self", "block"] (spErases K) := ⟨_, fd_Chip__erases, G_Chip__erases.le (by omega), kc, He.meth_ok (c.fact 72 (f := .meth "Chip" "erases") rfl), F_Chip__erases.bindsN fun _ _ _ _ _ _ us hl => match us, hl with | [_, _], _ => rfl⟩
  have G__law_counts_right : Fg P w K mg base CX0 5 _ fd__law_counts_right ["_law_chip", "_law_model"] (spCnt K) := ok_counts (F := F__law_counts_right) (T := T) (TC := TC) (M_Chip__erases := M_Chip__erases_4)
  have G__law_drawn_octets : Fg P w K mg base CX0 2 _ fd__law_drawn_octets ["_law_box_here", "_law_old"] (spDrawn K) := ok_drawn (F := F__law_drawn_octets) (T := T) (C__law_take := C__law_take_1)
  have G__law_page : Fg P w K mg base CX0 1 _ fd__law_page ["_law_model", "_law_block", "_law_page_here"] (spPage K) := ok_page (F := F__law_page) (T := T)
  have G__law_odd_index : Fg P w K mg base CX0 2 _ fd__law_odd_index ["_law_box_here", "_law_many"] (spOddIx K) := ok_odd_ix (F := F__law_odd_index) (T := T) (C__law_take := C__law_take_1)
  have G__law_odd_octets : Fg P w K mg base CX0 2 _ fd__law_odd_octets ["_law_box_here"] (spOddOc K) := ok_odd_oc (F := F__law_odd_octets) (T := T) (C__law_take := C__law_take_1)
  have G__law_is_index : Fg P w K mg base CX0 1 _ fd__law_is_index ["_law_value", "_law_many"] (spIsIdx K) := ok_is_idx (F := F__law_is_index) (T := T)
  have C__law_is_index_1 : Cal P w K mg base CX0 1 "_law_is_index" ["_law_value", "_law_many"] (spIsIdx K) := ⟨_, fd__law_is_index, G__law_is_index.le (by omega), g__law_is_index, F__law_is_index.kp, F__law_is_index.bindsN fun _ _ _ _ _ _ us hl => match us, hl with | [_, _], _ => rfl⟩
  have G__law_are_octets : Fg P w K mg base CX0 2 _ fd__law_are_octets ["_law_value", "_law_count"] (spAreOct K) := ok_are_oct (F := F__law_are_octets) (T := T) (C__law_is_index := C__law_is_index_1)
  have C__law_are_octets_2 : Cal P w K mg base CX0 2 "_law_are_octets" ["_law_value", "_law_count"] (spAreOct K) := ⟨_, fd__law_are_octets, G__law_are_octets.le (by omega), g__law_are_octets, F__law_are_octets.kp, F__law_are_octets.bindsN fun _ _ _ _ _ _ us hl => match us, hl with | [_, _], _ => rfl⟩
  have G__law_due_error : Fg P w K mg base CX0 3 _ fd__law_due_error ["_law_shape_here", "_law_kind", "_law_block", "_law_page_here", "_law_octets"] (spDue K) := ok_due (F := F__law_due_error) (T := T) (C__law_is_index := C__law_is_index_1) (C__law_are_octets := C__law_are_octets_2)
  have G_Chip___check_page : Fg P w K mg base (CX P w) 3 _ fd_Chip___check_page ["self", "page"] (spChkP K) := ok_check_page (F := F_Chip___check_page) (T := T) (TC := TC) (E_InvalidPage := E_InvalidPage) (C_is_int_from := C_is_int_from_2)
  have G_is_list : Fg P w K mg base CX0 1 _ fd_is_list ["value"] (spIsList K) := ok_is_list (F := F_is_list) (T := T)
  have C_is_list_1 : Cal P w K mg base CX0 1 "is_list" ["value"] (spIsList K) := ⟨_, fd_is_list, G_is_list.le (by omega), g_is_list, F_is_list.kp, F_is_list.bindsN fun _ _ _ _ _ _ us hl => match us, hl with | [_], _ => rfl⟩
  have G_is_octets : Fg P w K mg base CX0 2 _ fd_is_octets ["value"] (spIsOct K) := ok_is_octets (F := F_is_octets) (T := T) (C_is_list := C_is_list_1)
  have C_is_octets_2 : Cal P w K mg base CX0 2 "is_octets" ["value"] (spIsOct K) := ⟨_, fd_is_octets, G_is_octets.le (by omega), g_is_octets, F_is_octets.kp, F_is_octets.bindsN fun _ _ _ _ _ _ us hl => match us, hl with | [_], _ => rfl⟩
  have G_is_octets_of : Fg P w K mg base CX0 3 _ fd_is_octets_of ["value", "count"] (spOctOf K) := ok_octets_of (F := F_is_octets_of) (T := T) (C_is_list := C_is_list_1) (C_is_octets := C_is_octets_2)
  have G_changed : Fg P w K mg base CX0 6 _ fd_changed ["old", "new", "mask"] spNo := ok_changed (F := F_changed)
  have G_Chip__bad_blocks : Fg P w K mg base CX0 1 _ fd_Chip__bad_blocks ["self"] spNo := ok_bad_blocks (F := F_Chip__bad_blocks)
  have G_Chip___set_octets : Fg P w K mg base CX0 1 _ fd_Chip___set_octets ["self", "block", "octets"] (spSetO K) := ok_set_octets (F := F_Chip___set_octets) (T := T) (TC := TC)
  have C_changed_6 : Cal P w K mg base CX0 6 "changed" ["old", "new", "mask"] spNo := ⟨_, fd_changed, G_changed.le (by omega), g_changed, F_changed.kp, F_changed.bindsN fun _ _ _ _ _ _ us hl => match us, hl with | [_, _, _], _ => rfl⟩
  have M_Chip__bad_blocks_1 : CalM P w K mg base CX0 1 (Ch K) "bad_blocks" ["self"] spNo := ⟨_, fd_Chip__bad_blocks, G_Chip__bad_blocks.le (by omega), kc, He.meth_ok (c.fact 74 (f := .meth "Chip" "bad_blocks") rfl), F_Chip__bad_blocks.bindsN fun _ _ _ _ _ _ us hl => match us, hl with | [_], _ => rfl⟩
  have M_Chip___set_octets_1 : CalM P w K mg base CX0 1 (Ch K) "_set_octets" ["self", "block", "octets"] (spSetO K) := ⟨_, fd_Chip___set_octets, G_Chip___set_octets.le (by omega), kc, He.meth_ok (c.fact 75 (f := .meth "Chip" "_set_octets") rfl), F_Chip___set_octets.bindsN fun _ _ _ _ _ _ us hl => match us, hl with | [_, _, _], _ => rfl⟩
  have G_Chip___do_op : Fg P w K mg base CX0 7 _ fd_Chip___do_op ["self", "block", "new"] (spDo K) := ok_do_op (F := F_Chip___do_op) (T := T) (TC := TC) (C_changed := C_changed_6) (M_Chip__bad_blocks := M_Chip__bad_blocks_1) (M_Chip___set_octets := M_Chip___set_octets_1)
  have M_Chip___check_page_3 : CalM P w K mg base (CX P w) 3 (Ch K) "_check_page" ["self", "page"] (spChkP K) := ⟨_, fd_Chip___check_page, G_Chip___check_page.le (by omega), kc, He.meth_ok (c.fact 73 (f := .meth "Chip" "_check_page") rfl), F_Chip___check_page.bindsN fun _ _ _ _ _ _ us hl => match us, hl with | [_, _], _ => rfl⟩
  have C_is_octets_of_3 : Cal P w K mg base CX0 3 "is_octets_of" ["value", "count"] (spOctOf K) := ⟨_, fd_is_octets_of, G_is_octets_of.le (by omega), g_is_octets_of, F_is_octets_of.kp, F_is_octets_of.bindsN fun _ _ _ _ _ _ us hl => match us, hl with | [_, _], _ => rfl⟩
  have M_Chip___do_op_7 : CalM P w K mg base CX0 7 (Ch K) "_do_op" ["self", "block", "new"] (spDo K) := ⟨_, fd_Chip___do_op, G_Chip___do_op.le (by omega), kc, He.meth_ok (c.fact 76 (f := .meth "Chip" "_do_op") rfl), F_Chip___do_op.bindsN fun _ _ _ _ _ _ us hl => match us, hl with | [_, _, _], _ => rfl⟩
  have G_Chip__write : Fg P w K mg base (CX P w) 8 _ fd_Chip__write ["self", "block", "page", "octets"] (spWr K) := ok_write (F := F_Chip__write) (T := T) (TC := TC) (E_InvalidOctets := E_InvalidOctets) (M_Chip___check_block := M_Chip___check_block_3) (M_Chip___check_page := M_Chip___check_page_3) (C_is_octets_of := C_is_octets_of_3) (M_Chip___do_op := M_Chip___do_op_7)
  have G_Chip__erase : Fg P w K mg base (CX P w) 8 _ fd_Chip__erase ["self", "block"] (spEr K) := ok_erase (F := F_Chip__erase) (T := T) (TC := TC) (M_Chip___check_block := M_Chip___check_block_3) (C__clean_block := C__clean_block_1) (M_Chip___do_op := M_Chip___do_op_7)
  have G_Chip__read : Fg P w K mg base (CX P w) 4 _ fd_Chip__read ["self", "block", "page"] (spRead K) := ok_read (F := F_Chip__read) (T := T) (TC := TC) (M_Chip___check_block := M_Chip___check_block_3) (M_Chip___check_page := M_Chip___check_page_3)
  have M_Chip__write_8 : CalM P w K mg base (CX P w) 8 (Ch K) "write" ["self", "block", "page", "octets"] (spWr K) := ⟨_, fd_Chip__write, G_Chip__write.le (by omega), kc, He.meth_ok (c.fact 77 (f := .meth "Chip" "write") rfl), F_Chip__write.bindsN fun _ _ _ _ _ _ us hl => match us, hl with | [_, _, _, _], _ => rfl⟩
  have M_Chip__erase_8 : CalM P w K mg base (CX P w) 8 (Ch K) "erase" ["self", "block"] (spEr K) := ⟨_, fd_Chip__erase, G_Chip__erase.le (by omega), kc, He.meth_ok (c.fact 78 (f := .meth "Chip" "erase") rfl), F_Chip__erase.bindsN fun _ _ _ _ _ _ us hl => match us, hl with | [_, _], _ => rfl⟩
  have M_Chip__read_4 : CalM P w K mg base (CX P w) 4 (Ch K) "read" ["self", "block", "page"] (spRead K) := ⟨_, fd_Chip__read, G_Chip__read.le (by omega), kc, He.meth_ok (c.fact 79 (f := .meth "Chip" "read") rfl), F_Chip__read.bindsN fun _ _ _ _ _ _ us hl => match us, hl with | [_, _, _], _ => rfl⟩
  have MK_Chip__write_8 : CalMK P w K mg base (CX P w) 8 (Ch K) "write" ["self", "block", "page", "octets"] 1 ["octets", "block", "page"] gW gWV (spWr K) := ⟨_, fd_Chip__write, G_Chip__write.le (by omega), kc, He.meth_ok (c.fact 77 (f := .meth "Chip" "write") rfl), kb_of F_Chip__write (fun q1 q2 => .cons (vals_getD q1 0) (.cons (vals_getD q2 1) (.cons (vals_getD q2 2) (.cons (vals_getD q2 0) (.nil))))) fun _ _ _ _ _ _ us ws l1 l2 => match us, ws, l1, l2 with | [_], [_, _, _], _, _ => rfl⟩
  have MK_Chip__erase_8 : CalMK P w K mg base (CX P w) 8 (Ch K) "erase" ["self", "block"] 1 ["block"] gE gEV (spEr K) := ⟨_, fd_Chip__erase, G_Chip__erase.le (by omega), kc, He.meth_ok (c.fact 78 (f := .meth "Chip" "erase") rfl), kb_of F_Chip__erase (fun q1 q2 => .cons (vals_getD q1 0) (.cons (vals_getD q2 0) (.nil))) fun _ _ _ _ _ _ us ws l1 l2 => match us, ws, l1, l2 with | [_], [_], _, _ => rfl⟩
  have MK_Chip__erases_4 : CalMK P w K mg base (CX P w) 4 (Ch K) "erases" ["self", "block"] 1 ["block"] gE gEV (spErases K) := ⟨_, fd_Chip__erases, G_Chip__erases.le (by omega), kc, He.meth_ok (c.fact 72 (f := .meth "Chip" "erases") rfl), kb_of F_Chip__erases (fun q1 q2 => .cons (vals_getD q1 0) (.cons (vals_getD q2 0) (.nil))) fun _ _ _ _ _ _ us ws l1 l2 => match us, ws, l1, l2 with | [_], [_], _, _ => rfl⟩
  have MK_Chip__read_4 : CalMK P w K mg base (CX P w) 4 (Ch K) "read" ["self", "block", "page"] 1 ["page", "block"] gR gRV (spRead K) := ⟨_, fd_Chip__read, G_Chip__read.le (by omega), kc, He.meth_ok (c.fact 79 (f := .meth "Chip" "read") rfl), kb_of F_Chip__read (fun q1 q2 => .cons (vals_getD q1 0) (.cons (vals_getD q2 1) (.cons (vals_getD q2 0) (.nil)))) fun _ _ _ _ _ _ us ws l1 l2 => match us, ws, l1, l2 with | [_], [_, _], _, _ => rfl⟩
  have G__law_done : Fg P w K mg base CX0 9 _ fd__law_done ["_law_chip", "_law_kind", "_law_block", "_law_page_here", "_law_octets", "_law_named"] (spDone K) := ok_done (F := F__law_done) (T := T) (E_InvalidBlock := E_InvalidBlock) (E_InvalidPage := E_InvalidPage) (E_InvalidOctets := E_InvalidOctets) (xBB := xBB) (xPB := xPB) (xPP := xPP) (xOB := xOB) (xOP := xOP) (xOO := xOO) (M_Chip__write := M_Chip__write_8) (M_Chip__erase := M_Chip__erase_8) (M_Chip__erases := M_Chip__erases_4) (M_Chip__read := M_Chip__read_4) (MK_Chip__write := MK_Chip__write_8) (MK_Chip__erase := MK_Chip__erase_8) (MK_Chip__erases := MK_Chip__erases_4) (MK_Chip__read := MK_Chip__read_4)
  have G__law_is_very : Fg P w K mg base CX0 1 _ fd__law_is_very ["_law_given", "_law_value"] (spVery K) := ok_very (F := F__law_is_very) (T := T)
  have C__law_page_1 : Cal P w K mg base CX0 1 "_law_page" ["_law_model", "_law_block", "_law_page_here"] (spPage K) := ⟨_, fd__law_page, G__law_page.le (by omega), g__law_page, F__law_page.kp, F__law_page.bindsN fun _ _ _ _ _ _ us hl => match us, hl with | [_, _, _], _ => rfl⟩
  have G__law_followed : Fg P w K mg base CX0 2 _ fd__law_followed ["_law_model", "_law_kind", "_law_block", "_law_page_here", "_law_octets"] (spFol K) := ok_followed (F := F__law_followed) (T := T) (C__law_page := C__law_page_1)
  have G__law_is_page : Fg P w K mg base CX0 1 _ fd__law_is_page ["_law_told", "_law_due"] (spIsPage K) := ok_is_page (F := F__law_is_page) (T := T)
  have C__law_drawn_octets_2 : Cal P w K mg base CX0 2 "_law_drawn_octets" ["_law_box_here", "_law_old"] (spDrawn K) := ⟨_, fd__law_drawn_octets, G__law_drawn_octets.le (by omega), g__law_drawn_octets, F__law_drawn_octets.kp, F__law_drawn_octets.bindsN fun _ _ _ _ _ _ us hl => match us, hl with | [_, _], _ => rfl⟩
  have C__law_odd_index_2 : Cal P w K mg base CX0 2 "_law_odd_index" ["_law_box_here", "_law_many"] (spOddIx K) := ⟨_, fd__law_odd_index, G__law_odd_index.le (by omega), g__law_odd_index, F__law_odd_index.kp, F__law_odd_index.bindsN fun _ _ _ _ _ _ us hl => match us, hl with | [_, _], _ => rfl⟩
  have C__law_odd_octets_2 : Cal P w K mg base CX0 2 "_law_odd_octets" ["_law_box_here"] (spOddOc K) := ⟨_, fd__law_odd_octets, G__law_odd_octets.le (by omega), g__law_odd_octets, F__law_odd_octets.kp, F__law_odd_octets.bindsN fun _ _ _ _ _ _ us hl => match us, hl with | [_], _ => rfl⟩
  have C__law_due_error_3 : Cal P w K mg base CX0 3 "_law_due_error" ["_law_shape_here", "_law_kind", "_law_block", "_law_page_here", "_law_octets"] (spDue K) := ⟨_, fd__law_due_error, G__law_due_error.le (by omega), g__law_due_error, F__law_due_error.kp, F__law_due_error.bindsN fun _ _ _ _ _ _ us hl => match us, hl with | [_, _, _, _, _], _ => rfl⟩
  have C__law_done_9 : Cal P w K mg base CX0 9 "_law_done" ["_law_chip", "_law_kind", "_law_block", "_law_page_here", "_law_octets", "_law_named"] (spDone K) := ⟨_, fd__law_done, G__law_done.le (by omega), g__law_done, F__law_done.kp, F__law_done.bindsN fun _ _ _ _ _ _ us hl => match us, hl with | [_, _, _, _, _, _], _ => rfl⟩
  have C__law_is_very_1 : Cal P w K mg base CX0 1 "_law_is_very" ["_law_given", "_law_value"] (spVery K) := ⟨_, fd__law_is_very, G__law_is_very.le (by omega), g__law_is_very, F__law_is_very.kp, F__law_is_very.bindsN fun _ _ _ _ _ _ us hl => match us, hl with | [_, _], _ => rfl⟩
  have C__law_counts_right_5 : Cal P w K mg base CX0 5 "_law_counts_right" ["_law_chip", "_law_model"] (spCnt K) := ⟨_, fd__law_counts_right, G__law_counts_right.le (by omega), g__law_counts_right, F__law_counts_right.kp, F__law_counts_right.bindsN fun _ _ _ _ _ _ us hl => match us, hl with | [_, _], _ => rfl⟩
  have C__law_followed_2 : Cal P w K mg base CX0 2 "_law_followed" ["_law_model", "_law_kind", "_law_block", "_law_page_here", "_law_octets"] (spFol K) := ⟨_, fd__law_followed, G__law_followed.le (by omega), g__law_followed, F__law_followed.kp, F__law_followed.bindsN fun _ _ _ _ _ _ us hl => match us, hl with | [_, _, _, _, _], _ => rfl⟩
  have C__law_is_page_1 : Cal P w K mg base CX0 1 "_law_is_page" ["_law_told", "_law_due"] (spIsPage K) := ⟨_, fd__law_is_page, G__law_is_page.le (by omega), g__law_is_page, F__law_is_page.kp, F__law_is_page.bindsN fun _ _ _ _ _ _ us hl => match us, hl with | [_, _], _ => rfl⟩
  have G__law_call_right : Fg P w K mg base CX0 10 _ fd__law_call_right ["_law_box_here", "_law_chip", "_law_model"] (spCall K) := ok_call (F := F__law_call_right) (T := T) (TC := TC) (C__law_take := C__law_take_1) (C__law_drawn_octets := C__law_drawn_octets_2) (C__law_page := C__law_page_1) (C__law_odd_index := C__law_odd_index_2) (C__law_odd_octets := C__law_odd_octets_2) (C__law_due_error := C__law_due_error_3) (C__law_done := C__law_done_9) (C__law_is_very := C__law_is_very_1) (C__law_counts_right := C__law_counts_right_5) (C__law_followed := C__law_followed_2) (C__law_is_page := C__law_is_page_1) (M_Chip__read := M_Chip__read_4)
  have G__law_pages_right : Fg P w K mg base CX0 6 _ fd__law_pages_right ["_law_chip", "_law_model"] (spPgs K) := ok_pages (F := F__law_pages_right) (T := T) (TC := TC) (C__law_page := C__law_page_1) (C__law_is_page := C__law_is_page_1) (C__law_counts_right := C__law_counts_right_5) (M_Chip__read := M_Chip__read_4)
  have N_Chip_4 : Mak P w K mg base (CX P w) 4 "Chip" (Ch K) ["self", "blocks", "pages", "bad"] (spInitC K) := ⟨_, fd_Chip____init__, G_Chip____init__.le (by omega), He.mkr_ok (c.fact 80 (f := .mkr "Chip") rfl), gChip, F_Chip____init__.bindsN fun _ _ _ _ _ _ us hl => match us, hl with | [_, _, _, _], _ => rfl⟩
  have G__law_shape_error : Fg P w K mg base CX0 6 _ fd__law_shape_error ["_law_blocks", "_law_pages", "_law_bad"] (spSErr K) := ok_serr (F := F__law_shape_error) (T := T) (TC := TC) (E_InvalidShape := E_InvalidShape) (gF := gF) (iE := iE) (xSS := xSS) (N_Chip := N_Chip_4)
  have C__law_shape_2 : Cal P w K mg base CX0 2 "_law_shape" ["_law_box_here"] spShape := ⟨_, fd__law_shape, G__law_shape.le (by omega), g__law_shape, F__law_shape.kp, F__law_shape.bindsN fun _ _ _ _ _ _ us hl => match us, hl with | [_], _ => rfl⟩
  have C__law_shape_error_6 : Cal P w K mg base CX0 6 "_law_shape_error" ["_law_blocks", "_law_pages", "_law_bad"] (spSErr K) := ⟨_, fd__law_shape_error, G__law_shape_error.le (by omega), g__law_shape_error, F__law_shape_error.kp, F__law_shape_error.bindsN fun _ _ _ _ _ _ us hl => match us, hl with | [_, _, _], _ => rfl⟩
  have G__law_shapes_right : Fg P w K mg base CX0 7 _ fd__law_shapes_right ["_law_box_here"] (spShs K) := ok_shapes (F := F__law_shapes_right) (T := T) (TC := TC) (BC := BC) (C__law_take := C__law_take_1) (C__law_shape := C__law_shape_2) (C__law_is_very := C__law_is_very_1) (C__law_shape_error := C__law_shape_error_6) (N_Chip := N_Chip_4)
  have NK_Chip_4 : MakK P w K mg base (CX P w) 4 "Chip" (Ch K) ["self", "blocks", "pages", "bad"] 1 ["bad", "blocks", "pages"] gW gWV (spInitC K) := ⟨_, fd_Chip____init__, G_Chip____init__.le (by omega), He.mkr_ok (c.fact 80 (f := .mkr "Chip") rfl), gChip, kb_of F_Chip____init__ (fun q1 q2 => .cons (vals_getD q1 0) (.cons (vals_getD q2 1) (.cons (vals_getD q2 2) (.cons (vals_getD q2 0) (.nil))))) fun _ _ _ _ _ _ us ws l1 l2 => match us, ws, l1, l2 with | [_], [_, _, _], _, _ => rfl⟩
  have C__law_call_right_10 : Cal P w K mg base CX0 10 "_law_call_right" ["_law_box_here", "_law_chip", "_law_model"] (spCall K) := ⟨_, fd__law_call_right, G__law_call_right.le (by omega), g__law_call_right, F__law_call_right.kp, F__law_call_right.bindsN fun _ _ _ _ _ _ us hl => match us, hl with | [_, _, _], _ => rfl⟩
  have C__law_pages_right_6 : Cal P w K mg base CX0 6 "_law_pages_right" ["_law_chip", "_law_model"] (spPgs K) := ⟨_, fd__law_pages_right, G__law_pages_right.le (by omega), g__law_pages_right, F__law_pages_right.kp, F__law_pages_right.bindsN fun _ _ _ _ _ _ us hl => match us, hl with | [_, _], _ => rfl⟩
  have C__law_shapes_right_7 : Cal P w K mg base CX0 7 "_law_shapes_right" ["_law_box_here"] (spShs K) := ⟨_, fd__law_shapes_right, G__law_shapes_right.le (by omega), g__law_shapes_right, F__law_shapes_right.kp, F__law_shapes_right.bindsN fun _ _ _ _ _ _ us hl => match us, hl with | [_], _ => rfl⟩
  have G__law_right : Fg P w K mg base CX0 11 _ fd__law_right ["_law_box_here"] (spRight K) := ok_right (F := F__law_right) (T := T) (TC := TC) (C__law_take := C__law_take_1) (C__law_shape := C__law_shape_2) (N_Chip := N_Chip_4) (NK_Chip := NK_Chip_4) (C__law_counts_right := C__law_counts_right_5) (C__law_call_right := C__law_call_right_10) (C__law_pages_right := C__law_pages_right_6) (C__law_shapes_right := C__law_shapes_right_7)
  have G__law_box : Fg P w K mg base CX0 1 _ fd__law_box ["_law_great"] spBox := ok_box (F := F__law_box) (T := T)
  have G__law_cell : Fg P w K mg base CX0 1 _ fd__law_cell ["_law_script", "_law_k"] (spCell K) := ok_cell (F := F__law_cell) (T := T)
  have C__law_right_11 : Cal P w K mg base CX0 11 "_law_right" ["_law_box_here"] (spRight K) := ⟨_, fd__law_right, G__law_right.le (by omega), g__law_right, F__law_right.kp, F__law_right.bindsN fun _ _ _ _ _ _ us hl => match us, hl with | [_], _ => rfl⟩
  have C__law_box_1 : Cal P w K mg base CX0 1 "_law_box" ["_law_great"] spBox := ⟨_, fd__law_box, G__law_box.le (by omega), g__law_box, F__law_box.kp, F__law_box.bindsN fun _ _ _ _ _ _ us hl => match us, hl with | [_], _ => rfl⟩
  have C__law_cell_1 : Cal P w K mg base CX0 1 "_law_cell" ["_law_script", "_law_k"] (spCell K) := ⟨_, fd__law_cell, G__law_cell.le (by omega), g__law_cell, F__law_cell.kp, F__law_cell.bindsN fun _ _ _ _ _ _ us hl => match us, hl with | [_, _], _ => rfl⟩
  exact ok_law (F := F_law) (T := T) (C__law_right := C__law_right_11) (C__law_box := C__law_box_1) (C__law_cell := C__law_cell_1)
end K3
open PySem PySem.W PySem.Calls PyProof.Rows
theorem PySem.Challenge.cw_onewaybits_k03_reads_writes_and_erases_holds : PySem.Challenge.rw_onewaybits_k03_reads_writes_and_erases.Holds := by
  w_on; o_law
  refine HandSHeadRun.head_any (r := OpenLaw.row PySem.Challenge.rw_onewaybits_k03_reads_writes_and_erases) (q := view (OpenLaw.row PySem.Challenge.rw_onewaybits_k03_reads_writes_and_erases).prog [58]) (H := K3.hk) (ob := K3.ob) (M := 30000) (loose := K3.lns) (d := HandSHeadRun.topDef (OpenLaw.row PySem.Challenge.rw_onewaybits_k03_reads_writes_and_erases).prog 58) (kwd := []) K3.ob_eq
    (by kernel_rfl) (fun s => by kernel_rfl) K3.run (by kernel_rfl) (by kernel_rfl) (by kernel_rfl) (by rfl) (by first | assumption | decide +kernel) (by decide +kernel) ⟨rfl, rfl, rfl, rfl, rfl, by decide +kernel⟩ ?hw ?hc
  case hw => w_witness2
  case hc =>
    refine VB.law_walk (l := PySem.Challenge.rw_onewaybits_k03_reads_writes_and_erases) (n := 63) (k := 12) (x := "_law_script") (CX := L2.CX0) rfl (by decide) (by kernel_rfl) ⟨⟨rfl, by decide, by decide⟩, rfl⟩ ?F (fun _ _ _ _ z => z)
    intro w mg fa h Y G hmg0
    obtain ⟨K, KX, c⟩ := Y
    have hmg : mg ("law" : PySem.Str) = some (.ref fa) := by
      have e : (HandSHeadRun.topDef (OpenLaw.row PySem.Challenge.rw_onewaybits_k03_reads_writes_and_erases).prog 58).name = ("law" : PySem.Str) := by kernel_rfl
      rw [← e]
      exact hmg0
    obtain ⟨fd, hb, hF⟩ := K3.facts (P := (PySem.Challenge.rw_onewaybits_k03_reads_writes_and_erases).prog) (w := w) KX G hmg c
    exact ⟨K, fd, (K3.spLaw K), KX, hb, fun H a ns hl _ hS => ⟨a, ns, rfl, hS, by omega, fun _ => rfl⟩, hF⟩
