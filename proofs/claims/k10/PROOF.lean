import PyProof.Rows.All
import Wide.All
import OpenK.AllK
import Wide.FinOn
import HandS.ForMost
import HandS.Evl
import HandS.IsInst
import HandS.Walk
import HandS.Conv
import HandS.TupMul
import HandS.WideBits
import HandS.Wide
import HandS.Defaults
import HandS.HeadHook2
import HandS.RaiseMore
import HandS.Zip
import HandS.Style
import HandS.SetFor
import HandS.Text
import PyProof.ReprText
import PyProof.Rows.StrJoinMade
import KE.KxField
import HandS.FStr
import HandS.Zip0
import KE.BitLaws
import HandS.Exc
import HandS.ExcOwn
import HandS.ExcInit
import HandS.ExcField
import HandS.TryMany
import HandS.Small
import HandS.TupAny
import HandS.RevRange
import PyProof.CallFns
import KE.DataMinMax
import PyProof.Rows.RuleB_small
import HandS.TryOnly
import HandS.Head0
import HandS.Head1
import HandS.Head2
import HandS.HeadEnd
import HandS.HeadHook1
import HandS.HeadHook3
import HandS.HeadHook4
import PySem.Challenge.RW_onewaybits_k10_whole_what_cuts_leave
set_option Elab.async false
set_option linter.all false
set_option maxRecDepth 100000
set_option maxHeartbeats 4000000
namespace VB
open PySem PySem.Spec PyProof.Rows L2

/-! ## 1. Room, and no display under way -/
structure Rm (k : Nat) (A : Around) : Prop where
  rm : Room k A
  gd : A.guards = some []
theorem Rm.le {j k : Nat} {A : Around} (r : Rm k A) (h : j ≤ k := by omega) : Rm j A := ⟨r.rm.mono h, r.gd⟩
theorem Rm.down {k : Nat} {A : Around} (r : Rm (k + 1) A) (e : Env) : Rm k (A.deeper e) := ⟨r.rm.deeper e, r.gd⟩

section
variable {P : Program} {w : World} {K : PySem.W.Frag} {mg : Str → Option Value} {base : Heap} {CX : CXT} {k : Nat}

/-- a def's promise, kept wherever there is room and no display is under way -/
structure Fg (P : Program) (w : World) (K : PySem.W.Frag) (mg : Str → Option Value) (base : Heap)
    (CX : CXT) (k : Nat) (f : Addr) (fd : FuncData) (ps : List Str) (sp : Sp) : Prop where
  cnt : ∀ vs H Q E, sp vs H Q E → vs.length = ps.length
  go : ∀ (A : Around) (outer : List Env) (s : Shared) (H : Hp) (args : Args) (us : List Value) (vs : List V)
    (Q : VK) (E : XK), Rm k A → Env0 P w K mg base A outer s H → BindsTo s fd args (ps.zip us) →
    Vals vs us → sp vs H Q E → codeAny (model P w) A (.call (.ref f) args) (CR CX outer P w H s Q E) s

theorem Fg.le {j : Nat} {f : Addr} {fd : FuncData} {ps : List Str} {sp : Sp}
    (F : Fg P w K mg base CX j f fd ps sp) (h : j ≤ k) : Fg P w K mg base CX k f fd ps sp :=
  ⟨F.cnt, fun A o s H a us vs Q E r => F.go A o s H a us vs Q E (r.le h)⟩

/-- a def by its body -/
theorem fg_of {x qual : Str} {params : Arguments} {body : List Stmt} {scope : Scope} {dvs : List V}
    {kws : List (Str × V)} {f : Addr} {fd : FuncData} {N ps : List Str} {sp : Sp}
    (F : FunD K x qual params body scope dvs kws f fd) (S : FnScope N ps scope)
    (cnt : ∀ vs H Q E, sp vs H Q E → vs.length = ps.length)
    (hb : ∀ (cdv : Value) (A : Around) (outer : List Env) (s : Shared) (H : Hp) (vs : List V) (Q : VK) (E : XK),
      Rm k (A.deeper (envOfC qual scope s.heap.objs.size f cdv)) → sp vs H Q E →
      ∃ t, PSs (cxOf CX P w K mg base N qual scope f cdv A outer s H E) body t ∧
        t { nx := fun _ H' => Q .non H', rt := Q } (start N vs) H) :
    Fg P w K mg base CX (k + 1) f fd ps sp := by
  obtain ⟨oc, od, dV, kV, doc, pm, an, cdv, ct, osl, rfl, lk, hcd, _, _⟩ := F.ex
  refine ⟨cnt, ?_⟩
  intro A outer s H args us vs Q E hr e0 hbind hv hsp
  have kin : K.In s.heap := e0.mod.kin.keeps (fun b o e => (e0.bs b o e).1)
  have nol : s.heap.NoLimit := e0.mod.nolimit.keeps (fun b o e => (e0.bs b o e).1)
  have hk : ∀ y ∈ ps.zip us, scope.names.lookup y.1 = some .local ∨
      (scope.names.lookup y.1 = some .cell ∧
        ((cellsFrom (s.heap.objs.size + 1) scope.names []).lookup y.1).isSome = true) := by
    rintro ⟨n, v⟩ hy
    cases S.par n (List.of_mem_zip hy).1 with
    | inl q => exact .inl q
    | inr q => exact .inr ⟨q, PySem.W.cellsFrom_some _ _ _ (.inl q)⟩
  refine codeAny_call_function hr.rm.depth (kin _ _ lk) rfl S.co S.gen rfl
    (PySem.W.codeRec_of kin hcd) (hbind _ _ _ _ (wpAny_newFunctionEnv_cells S.kind hk ?_))
  intro env he s1 x
  subst he
  refine ⟨nol.keeps x.toInCall.keep, codeAny_func ?_⟩
  obtain ⟨t, ht, hq⟩ := hb cdv A outer s H vs Q E (hr.down _) hsp
  have I := inv_start (CX := CX) (E := E) S hr.rm.hd e0 (cnt _ _ _ _ hsp) hv x
  refine wpAny_mono (ht.run [] s1 (start N vs) H _ I hq) ?_ (fun e s' hs => hs)
  intro fl s' hs
  cases fl with
  | ret u =>
    obtain ⟨v, σ', H', J, rv, q⟩ := hs
    exact ⟨v, H', J.os, J.bare, J.base, J.hok, rv, q⟩
  | next =>
    obtain ⟨σ', H', J, q⟩ := hs
    exact ⟨.non, H', J.os, J.bare, J.base, J.hok, rfl, q⟩
  | brk => exact (hs.choose_spec.choose_spec.2 : False).elim
  | cont => exact (hs.choose_spec.choose_spec.2 : False).elim

/-! ## 2. Calls by name -/
/-- a def of the module, told by its name -/
structure Cal (P : Program) (w : World) (K : PySem.W.Frag) (mg : Str → Option Value) (base : Heap)
    (CX : CXT) (k : Nat) (x : Str) (ps : List Str) (sp : Sp) : Prop where
  ex : ∃ (f : Addr) (fd : FuncData), Fg P w K mg base CX k f fd ps sp ∧ mg x = some (.ref f) ∧
    PySem.W.keepIn K (.ref f) = true ∧ Binds K fd ps []
/-- .. called with keywords -/
structure CalK (P : Program) (w : World) (K : PySem.W.Frag) (mg : Str → Option Value) (base : Heap)
    (CX : CXT) (k : Nat) (x : Str) (ps : List Str) (n : Nat) (ks : List Str)
    (g : List Value → List Value → List Value) (gV : List V → List V → List V) (sp : Sp) : Prop where
  ex : ∃ (f : Addr) (fd : FuncData), Fg P w K mg base CX k f fd ps sp ∧ mg x = some (.ref f) ∧
    PySem.W.keepIn K (.ref f) = true ∧ KBn K fd ps n ks g gV
end

section
variable {X : Cx} {CX : CXT} {k n : Nat} {ps ks : List Str} {sp : Sp} {E : XK} {x : Str} {p pos : Pos}
  {e : Expr} {es : List Expr} {kws : List Keyword} {t tk : TA}
  {g : List Value → List Value → List Value} {gV : List V → List V → List V}

/-- the end of a call, where the caller stands -/
theorem back {pins : List (Addr × Obj)} {σ : L2.St} {H : Hp} {s s' : Shared} {Q : VK} {E : XK} {r : Result}
    (hx : Passes CX X E) (I : Inv X pins σ H s) (hq : CR CX X.stack X.prog X.w H s Q E r s') :
    match r with
    | .ok (.ret u) => EP X pins σ Q u s'
    | .ok _ => False
    | .error e => X.xe e s' := by
  cases r with
  | error e => exact hx pins σ H s e s' I hq
  | ok fl =>
    cases fl with
    | ret u => exact I.after hq
    | next => exact hq
    | brk => exact hq
    | cont => exact hq

theorem enter {f : Addr} {fd : FuncData} {pins : List (Addr × Obj)} {σ : L2.St} {H : Hp} {s : Shared} {Q : VK}
    {args : Args} {us : List Value} {vs : List V} (F : Fg X.prog X.w X.K X.mg X.base CX k f fd ps sp)
    (hr : Rm k X.A) (hx : Passes CX X E) (I : Inv X pins σ H s) (hb : BindsTo s fd args (ps.zip us))
    (r : Vals vs us) (h : sp vs H Q E) :
    wpAny (model X.prog X.w) X.A (call (.ref f) args.pos args.kw) (EP X pins σ Q) X.xe s := by
  refine wpAny_call (codeAny_mono (F.go X.A X.stack s H args us vs Q E hr I.env0 hb r h) ?_)
  intro r s' hq
  have z := back hx I hq
  cases r with
  | error e => exact z
  | ok fl =>
    cases fl with
    | ret u => exact z
    | next => exact z.elim
    | brk => exact z.elim
    | cont => exact z.elim

theorem pe_cal (C : Cal X.prog X.w X.K X.mg X.base CX k x ps sp) (hr : Rm k X.A) (hx : Passes CX X E)
    (ha : PA X (e :: es) t) (hg : Gl X x := by rfl) (hdb : (x == ("__debug__" : Str)) = false := by decide)
    (he : starEach (e :: es) X.env = (false, eval e X.env) :: starEach es X.env := by rfl)
    (hpl : (backTo pos (starEach es X.env)).any (·.1) = false := by rfl) :
    PE X (.Call (.Name x p) (e :: es) [] pos) (tCall sp [] E t) := by
  obtain ⟨f, fd, F, hm, hk, hb⟩ := C.ex
  constructor
  intro pins s σ H Q I h
  refine wpAny_Call_Name_kw (ld_glob I hg hm ?_ hdb)
  refine PySem.W.callWith_K (h₀ := X.base) I.ok.mod.kin hk (thn (ha.run pos pins s σ H _ I h) ?_) he hpl
  rintro us s1 ⟨vs, H1, I1, r, q⟩
  have q : sp (vs ++ []) H1 Q E := q
  rw [List.append_nil] at q
  have l : (us ++ []).length = ps.length := by
    rw [List.append_nil, ← r.length]
    exact F.cnt _ _ _ _ q
  have b := hb s1 us I1.kIn l
  rw [List.append_nil] at b
  exact ⟨I1.kIn, enter (args := ⟨us, []⟩) F hr hx I1 b r q⟩

theorem pe_cal0 (C : Cal X.prog X.w X.K X.mg X.base CX k x ps sp) (hr : Rm k X.A) (hx : Passes CX X E)
    (hg : Gl X x := by rfl) (hdb : (x == ("__debug__" : Str)) = false := by decide) :
    PE X (.Call (.Name x p) [] [] pos) (tCall sp [] E tNil) := by
  obtain ⟨f, fd, F, hm, hk, hb⟩ := C.ex
  constructor
  intro pins s σ H Q I h
  have q : sp [] H Q E := h
  refine wpAny_Call_Name_kw (ld_glob I hg hm ?_ hdb)
  refine PySem.W.callWith_K0 I.kIn hk ?_
  have b := hb s [] I.kIn (F.cnt _ _ _ _ q)
  exact enter (args := ⟨[], []⟩) F hr hx I b .nil q

/-- f(k = v, ..): no value by position -/
theorem pe_calk (C : CalK X.prog X.w X.K X.mg X.base CX k x ps 0 ks g gV sp) (hr : Rm k X.A) (hx : Passes CX X E)
    (hkw : PK X kws tk) (hg : Gl X x := by rfl)
    (hall : (backToKw pos (keywordEach kws X.env)).all (·.1.isSome) = true := by rfl)
    (hks : (backToKw pos (keywordEach kws X.env)).filterMap (·.1) = ks := by rfl)
    (hdb : (x == ("__debug__" : Str)) = false := by decide)
    (hpl : ((backTo pos (starEach [] X.env)).any (·.1) || (backToKw pos (keywordEach kws X.env)).any (·.1.isNone)) = false := by rfl) :
    PE X (.Call (.Name x p) [] kws pos) (tCallN 0 ks.length sp gV E tNil tk) := by
  obtain ⟨f, fd, F, hm, hk, hb⟩ := C.ex
  constructor
  intro pins s σ H Q I h
  refine wpAny_Call_Name_kw (ld_glob I hg hm ?_ hdb)
  have h : tk σ H fun zs H2 => ([] : List V).length = 0 ∧ zs.length = ks.length ∧ sp (gV [] zs) H2 Q E := h
  refine PySem.W.callWith_KW0 (h₀ := X.base) I.ok.mod.kin hk hall (thn (hkw.run pos pins s σ H _ I h) ?_) hpl
  rintro ws s2 ⟨zs, H2, I2, rz, _, l2, q2⟩
  refine ⟨I2.kIn, ?_⟩
  rw [hks]
  exact enter (args := ⟨[], ks.zip ws⟩) F hr hx I2
    (hb.to s2 [] ws I2.kIn rfl (rz.length.symm.trans l2)) (hb.rel .nil rz) q2
/-- f(e, .., k = v, ..) -/
theorem pe_calpk (C : CalK X.prog X.w X.K X.mg X.base CX k x ps n ks g gV sp) (hr : Rm k X.A) (hx : Passes CX X E)
    (ha : PA X (e :: es) t) (hkw : PK X kws tk) (hg : Gl X x := by rfl)
    (hall : (backToKw pos (keywordEach kws X.env)).all (·.1.isSome) = true := by rfl)
    (hks : (backToKw pos (keywordEach kws X.env)).filterMap (·.1) = ks := by rfl)
    (hdb : (x == ("__debug__" : Str)) = false := by decide)
    (he : starEach (e :: es) X.env = (false, eval e X.env) :: starEach es X.env := by rfl)
    (hpl : ((backTo pos (starEach (e :: es) X.env)).any (·.1) || (backToKw pos (keywordEach kws X.env)).any (·.1.isNone)) = false := by rfl) :
    PE X (.Call (.Name x p) (e :: es) kws pos) (tCallN n ks.length sp gV E t tk) := by
  obtain ⟨f, fd, F, hm, hk, hb⟩ := C.ex
  constructor
  intro pins s σ H Q I h
  refine wpAny_Call_Name_kw (ld_glob I hg hm ?_ hdb)
  refine PySem.W.callWith_KW (h₀ := X.base) I.ok.mod.kin hk hall (thn (ha.run pos pins s σ H _ I h) ?_) hpl he
  rintro us s1 ⟨vs, H1, I1, r, q⟩
  refine thn (hkw.run pos pins s1 σ H1 _ I1 q) ?_
  rintro ws s2 ⟨zs, H2, I2, rz, l1, l2, q2⟩
  refine ⟨I2.kIn, ?_⟩
  rw [hks]
  exact enter (args := ⟨us, ks.zip ws⟩) F hr hx I2
    (hb.to s2 us ws I2.kIn (r.length.symm.trans l1) (rz.length.symm.trans l2)) (hb.rel r rz) q2
end

/-! ## 3. The law's own call -/
theorem first_call {P : Program} {w : World} {K : PySem.W.Frag} {mg mb : Str → Option Value} {CX : CXT} {k : Nat}
    {fa a : Addr} {fd : FuncData} {x : Str} {sp : Sp} {s : Shared} {vs : List Value} {ns : List Int}
    (KX : K.In s.heap) (hns : s.heap.Ns mainGlobals mg) (hb : s.heap.Ns builtinsNs mb)
    (hbb : ∀ x : Str, x ≠ "__name__" → mb x = bootBuiltins x) (hlim : s.heap.NoLimit) (hg : s.gens = #[])
    (ha : s.heap.get? a = some { cls := .type "list", data := .seq vs.toArray }) (hi : IntsAre vs ns)
    (hl : ns.length ≤ sizeLine) (hr : Rm k callerA)
    (F : ∀ base : Heap, K.In base → base.Ns mainGlobals mg → Fg P w K mg base CX k fa fd [x] sp)
    (hbind : ∀ (s : Shared) (u : Value), BindsTo s fd ⟨[u], []⟩ [(x, u)])
    (hsp : ∀ H : Hp, Only H → SqL K H a (ns.map V.int) → sp [.ref a] H (fun v _ => v = .bl true) fun _ _ _ => False)
    (hCX : ∀ H e s', CX [] H s (fun _ _ _ => False) e s' → False) :
    codeAny (model P w) callerA (.call (.ref fa) ⟨[.ref a], []⟩)
      (fun r s' => r = .ok (.ret (.bool true)) ∧ OldK s.heap s'.heap ∧ s'.os = s.os ∧ AllBare s'.gens) s := by
  -- what is tracked at first: the script at most
  let o : Obj := { cls := .type "list", data := .seq vs.toArray }
  have main : ∀ H : Hp, (∀ b, H b = none ∨ (b = a ∧ H b = some (.frz o (.lst (ns.map V.int))) ∧ K.lookup a = none)) →
      SqL K H a (ns.map V.int) → HOk P w H s.heap → codeAny (model P w) callerA (.call (.ref fa) ⟨[.ref a], []⟩)
      (fun r s' => r = .ok (.ret (.bool true)) ∧ OldK s.heap s'.heap ∧ s'.os = s.os ∧ AllBare s'.gens) s := by
    intro H hH hS hok
    have dictFree : ∀ {b : Addr} {ob : Obj} {es : Array DictEntry} {ep : Nat}, s.heap.get? b = some ob →
        ob.data = .dict es ep → H b = none := by
      intro b ob es ep e d
      rcases hH b with q | ⟨rfl, q, _⟩
      · exact q
      · rw [ha] at e
        cases e
        exact nomatch d
    have nsB : ∀ {b : Addr} {m : Str → Option Value}, s.heap.Ns b m → (hidT s.heap H).Ns b m := by
      rintro b m ⟨ob, es, ep, e, d, r⟩
      exact ⟨ob, es, ep, hidT_get e (dictFree e d), d, r⟩
    have kB : K.In (hidT s.heap H) := by
      intro b ob e
      refine hidT_get (KX b ob e) ?_
      rcases hH b with q | ⟨rfl, _, q⟩
      · exact q
      · rw [e] at q
        cases q
    have lim' : (hidT s.heap H).NoLimit := by
      obtain ⟨mc, h1, h2⟩ := hlim
      exact ⟨mc, nsB h1, h2⟩
    have md : Mod K mg (hidT s.heap H) := ⟨kB, nsB hns, ⟨mb, nsB hb, hbb⟩, lim'⟩
    have nob : ∀ b ∈ frs ([] : List Env), H b = none := fun b hb => by cases hb
    have e0 : Env0 P w K mg (hidT s.heap H) callerA [] s H :=
      ⟨rfl, md, fun b ob e => of_hidT e, Nat.le_of_eq (hidT_size _ _), trivial, nob, hok, .of_eq hg⟩
    have oH : Only H := by
      intro b
      rcases hH b with q | ⟨_, q, _⟩
      · exact .inl q
      · exact .inr ⟨_, _, q⟩
    have run := (F _ kB (nsB hns)).go callerA [] s H ⟨[.ref a], []⟩ [.ref a] [.ref a] _ _ hr e0
      (hbind s (.ref a)) (.cons rfl .nil) (hsp H oH hS)
    refine codeAny_mono run ?_
    intro r s' h
    match r, h with
    | .error e, h => exact (hCX H e s' h).elim
    | .ok .next, h => exact False.elim h
    | .ok .brk, h => exact False.elim h
    | .ok .cont, h => exact False.elim h
    | .ok (.ret u), h =>
      obtain ⟨v, H', os, bare, un, hok', rv, q⟩ := h
      have q : v = .bl true := q
      subst q
      have ru : u = Value.bool true := rv
      subst ru
      refine ⟨rfl, OldK.of_keep ?_, os, bare⟩
      intro b ob e
      rcases hH b with q | ⟨_, q, _⟩
      · exact un.keep b ob e q (fun z => by cases z) (fun z => by cases z)
      · obtain ⟨e1, _⟩ := hok b _ q
        obtain ⟨e2, _⟩ := hok' b _ (un.frzs b o _ q)
        rw [e] at e1
        cases e1
        exact e2
  have rv := vals_ints hi
  cases hk : K.lookup a with
  | some ob =>
    have e := KX a ob hk
    rw [ha] at e
    cases e
    refine main (fun _ => none) (fun b => .inl rfl) (.inr ⟨_, vs.toArray, _, hk, rfl, rfl, rfl, ?_, by simpa using rv⟩) (fun b u z => by cases z)
    rw [List.size_toArray, hi.length]
    exact hl
  | none =>
    let H1 : Hp := fun b => if b = a then some (.frz o (.lst (ns.map V.int))) else none
    have at1 : H1 a = some (.frz o (.lst (ns.map V.int))) := if_pos rfl
    refine main H1 ?_ (.inl (.inr ⟨o, at1⟩)) ?_
    · intro b
      by_cases hb : b = a
      · subst hb
        exact .inr ⟨rfl, at1, hk⟩
      · exact .inl (if_neg hb)
    · intro b u z
      by_cases hb : b = a
      · subst hb
        rw [at1] at z
        cases z
        exact ⟨ha, by rw [List.length_map]; exact hl, vs, _, rv, ha⟩
      · have z' : H1 b = none := if_neg hb
        rw [z'] at z
        cases z

/-- the goal behind the head -/
theorem law_walk {l : PySem.W.OpenLaw} {n k : Nat} {q : Program} {loose : List Str} {XP : (Str → Option Value) → Heap → Prop}
    {YP : World → Heap → Prop} {d : DefRec} {CX : CXT} {x : Str}
    (hn : l.most = some n) (hn2 : n ≤ sizeLine) (hdf : d.params.defaults = []) (hr : Rm k callerA)
    (F : ∀ (w : World) (mg : Str → Option Value) (fa : Addr) (h : Heap), YP w h → h.Ns mainGlobals mg → mg d.name = some (.ref fa) →
      ∃ (K : PySem.W.Frag) (fd : FuncData) (sp : Sp), K.In h ∧ (∀ (s : Shared) (u : Value), BindsTo s fd ⟨[u], []⟩ [(x, u)]) ∧
        (∀ (H : Hp) (a : Addr) (ns : List Int), ns.length ≤ n → Only H → SqL K H a (ns.map V.int) →
          sp [.ref a] H (fun v _ => v = .bl true) fun _ _ _ => False) ∧
        ∀ base : Heap, K.In base → base.Ns mainGlobals mg → Fg l.prog w K mg base CX k fa fd [x] sp)
    (hCX : ∀ (H : Hp) (s : Shared) (e : Value) (s' : Shared), CX [] H s (fun _ _ _ => False) e s' → False) :
    PySem.W.WalkO q loose XP YP l.row.toRowW d [] (fun f vs => PySem.call f vs) := by
  refine Att.attach_call hn hdf ?_
  intro w s₀ s₁ mg mb fa o pm cd doc a vs ns G Y ho hd hcd hmg hobj hints hlen hg
  obtain ⟨K, fd, sp, KX, hb, hsp, hF⟩ := F w mg fa _ Y G.T.g hmg
  exact first_call KX G.T.g G.T.b G.T.builtins G.T.nolimit hg hobj hints (Nat.le_trans hlen hn2) hr hF hb
    (fun H hO hS => hsp H a ns hlen hO hS) (fun H e s' => hCX H s₁ e s')
end VB
namespace VB
open PySem PySem.Spec PyProof.Rows L2
mutual
theorem dp_noDict {K : PySem.W.Frag} {H : Hp} : ∀ {d : PyData} {v : V}, Dp K H v d → d.hasDict = false
  | .none, _, _ => by simp only [PyData.hasDict]
  | .bool _, _, _ => by simp only [PyData.hasDict]
  | .int _, _, _ => by simp only [PyData.hasDict]
  | .str _, _, _ => by simp only [PyData.hasDict]
  | .list ds, _, .lst _ h => by
    simp only [PyData.hasDict]
    exact dpAll_noDict h
  | .tuple ds, _, .tup _ h => by
    simp only [PyData.hasDict]
    exact dpAll_noDict h
  | .dict _, _, h => nomatch h
theorem dpAll_noDict {K : PySem.W.Frag} {H : Hp} : ∀ {ds : List PyData} {vs : List V}, DpAll K H vs ds → PyData.hasDictAll ds = false
  | [], _, _ => by simp only [PyData.hasDictAll]
  | d :: ds, _, .cons h t => by simp only [PyData.hasDictAll, dp_noDict h, dpAll_noDict t, Bool.or_self]
end
section
variable {X : Cx} {k : Nat}
/-- repr(x), x data of any depth without dicts -/
@[irreducible] def rRepr (K : PySem.W.Frag) : List V → Hp → VK → Prop := fun xs H Q => ∃ (a : Addr) (d : PyData), xs = [.ref a] ∧
  Dp K H (.ref a) d ∧ d.showable = true ∧ d.depth ≤ 60 ∧ d.shown.length ≤ sizeLine ∧ Q (.str d.shown) H
theorem call_repr (hr : Rm k X.A) : CallR X (.builtin "repr") (rRepr X.K) := by
  intro pins s σ H xs us Q I r h
  unfold rRepr at h
  obtain ⟨a, d, rfl, hd, hs, hdep, hl, q⟩ := h
  obtain ⟨u, rfl, ru⟩ := vals1 r
  obtain ⟨as, rd⟩ := Dp.reads I d _ u hd ru
  cases (show u = Value.ref a from ru)
  have hu := hr.rm.un
  refine repr_of_reads' rd hs (PyData.noDict_hsm (dp_noDict hd)) hr.gd (by omega) (fun _ _ e => e) ?_ hl
  intro h' u tk kp
  refine ⟨.str d.shown, H, ?_, ⟨u, rfl⟩, q⟩
  exact I.un (Un.kept kp) (I.hok.kept kp)
end
end VB
namespace VB
open PySem PySem.Spec PyProof.Rows L2
section
variable {X : Cx} {K : PySem.W.Frag}
def rAddU (K : PySem.W.Frag) : R2 := fun x y H Q => rI0 (fun i j => .int (i + j)) x y H Q ∨ (rCat x y H Q ∨ rCatT K x y H Q)
theorem u_add (hK : X.K = K := by rfl) : OpR X (binaryOp .Add) (rAddU K) := by
  subst hK
  exact op_add.or (op_cat.or op_catT)
def rMulU (K : PySem.W.Frag) : R2 := fun x y H Q => rI CMulX (fun i j => .int (i * j)) x y H Q ∨ (rRep x y H Q ∨ rRepT K x y H Q)
theorem u_mul (hK : X.K = K := by rfl) : OpR X (binaryOp .Mult) (rMulU K) := by
  subst hK
  exact op_mulX.or (op_rep.or op_repT)
def rEqU (K : PySem.W.Frag) : R2 := fun x y H Q => rEq x y H Q ∨ rEqD K x y H Q
theorem u_eq {k : Nat} (hr : Rm k X.A) (hK : X.K = K := by rfl) : OpR X (compareOp .Eq) (rEqU K) := by
  subst hK
  exact op_eq.or (op_eqD hr.rm.units)
def rNeU (K : PySem.W.Frag) : R2 := fun x y H Q => rNe x y H Q ∨ rNeD K x y H Q
theorem u_ne {k : Nat} (hr : Rm k X.A) (hK : X.K = K := by rfl) : OpR X (compareOp .NotEq) (rNeU K) := by
  subst hK
  exact op_ne.or (op_neD hr.rm.units)
def rSlU (K : PySem.W.Frag) : V → Option Int → Option Int → Hp → VK → Prop := fun x lo hi H Q => rSlL K x lo hi H Q ∨ (rSlT K x lo hi H Q ∨ rSlS x lo hi H Q)
theorem u_sl (hK : X.K = K := by rfl) : SlR X (rSlU K) := by
  subst hK
  exact sl_list.or (sl_tup.or sl_str)
theorem u_ix (hK : X.K = K := by rfl) : IxR X (rIx K) := by
  subst hK
  exact ix_seq
theorem u_in (hK : X.K = K := by rfl) : OpR X (compareOp .In) (rIn K false) := by
  subst hK
  exact op_in_seq
theorem u_notin (hK : X.K = K := by rfl) : OpR X (compareOp .NotIn) (rIn K true) := by
  subst hK
  exact op_notIn_seq
def rLenU (K : PySem.W.Frag) : List V → Hp → VK → Prop := fun xs H Q => ∃ x n, xs = [x] ∧ LenV K x H n ∧ Q (.int n) H
theorem u_len (hK : X.K = K := by rfl) : CallR X (.builtin "len") (rLenU K) := by
  subst hK
  exact call_len
theorem u_isi (hK : X.K = K := by rfl) : CallR X (.builtin "isinstance") (rIsi K) := by
  subst hK
  exact call_isi
theorem u_isiT (hK : X.K = K := by rfl) : CallR X (.builtin "isinstance") (rIsiT K) := by
  subst hK
  exact call_isiT
theorem u_sum (hc : X.calm = true) (hK : X.K = K := by rfl) : CallR X (.builtin "sum") (rSum K) := by
  subst hK
  exact cr_sum hc
theorem u_all (hc : X.calm = true) (hK : X.K = K := by rfl) : CallR X (.builtin "all") (rAll K) := by
  subst hK
  exact cr_all hc
theorem u_any (hc : X.calm = true) (hK : X.K = K := by rfl) : CallR X (.builtin "any") (rAny K) := by
  subst hK
  exact cr_any hc
theorem u_repr {k : Nat} (hr : Rm k X.A) (hK : X.K = K := by rfl) : CallR X (.builtin "repr") (rRepr K) := by
  subst hK
  exact call_repr hr
def rListU (K : PySem.W.Frag) : List V → Hp → VK → Prop := fun xs H Q => ∃ p ys, xs = [.ref p] ∧ (SqL K H p ys ∨ SqT K H p ys) ∧ ∀ l, H l = none → Q (.ref l) (upd H l (.lst ys))
theorem u_list (hK : X.K = K := by rfl) : CallR X (.type "list") (rListU K) := by
  subst hK
  exact call_list_of
def rTupU (K : PySem.W.Frag) : List V → Hp → VK → Prop := fun xs H Q => ∃ p ys, xs = [.ref p] ∧ ((SqL K H p ys ∧ ∀ l, H l = none → Q (.ref l) (upd H l (.tup ys))) ∨ (SqT K H p ys ∧ Q (.ref p) H))
theorem u_tup (hK : X.K = K := by rfl) : CallR X (.type "tuple") (rTupU K) := by
  subst hK
  exact call_tuple_of
theorem u_count (hK : X.K = K := by rfl) : MtR X "list.count" (rCntI K) := by
  subst hK
  exact mt_lcount
def tTru (K : PySem.W.Frag) (ta : TE) : TT := fun σ H Q => ta σ H fun x H' => ∃ k, TruV K x H' k ∧ Q k H'
theorem pt_tru {a : Expr} {ta : TE} (ha : PE X a ta) (he : ∀ whole, isTrue a X.env whole = (do let v ← whole; standAt a.pos; holding [v] (truthy v))) (hK : X.K = K := by rfl) : PT X a (tTru K ta) := by
  subst hK
  exact pt_truth ha he
theorem pi_either {tg iter : Expr} {a b : TI} (h : PI X tg iter a) (h' : PI X tg iter b) : PI X tg iter (fun σ H R => a σ H R ∨ b σ H R) := by
  constructor
  intro pins s σ H R I q
  rcases q with q | q
  · exact h.run pins s σ H R I q
  · exact h'.run pins s σ H R I q
def iSeq (K : PySem.W.Frag) (t : TE) : TI := fun σ H R => iList K t σ H R ∨ iTup K t σ H R
theorem pi_seq {tg e : Expr} {t : TE} (h : PE X e t) (hK : X.K = K := by rfl) : PI X tg e (iSeq K t) := by
  subst hK
  exact pi_either (pi_list h) (pi_tup h)
theorem pi_enu {e : Expr} {ta : TA} {p pos tpos : Pos} {elts : List Expr} {kk : Nat} (hg : Gl X "enumerate") (hm : X.mg "enumerate" = none) (ha : PA X [e] ta) (hK : X.K = K := by rfl)
    (hs : starEach [e] X.env = (false, eval e X.env) :: starEach [] X.env := by rfl) : PI X (.Tuple elts kk tpos) (.Call (.Name "enumerate" p) [e] [] pos) (iEnum K ta) := by
  subst hK
  exact pi_enum hg hm ha hs
theorem pg_tupU {es : List Expr} {k : Nat} {t : TGs} {n : Nat} {pos : Pos} (hc : X.calm = true) (h : PGs X es t) (hK : X.K = K := by rfl)
    (hn : (assignEach es X.env).length = n := by rfl) (hst : (assignEach es X.env).findIdx? (·.1) = none := by rfl) : PG X (.Tuple es k pos) (gTup K n t) := by
  subst hK
  exact pg_tup hc h hn hst
/-- an int's remainder and quotient by a positive one, as they are -/
theorem fmodE {a b : Int} (h : 0 ≤ b := by decide) : a.fmod b = a % b := Int.fmod_eq_emod_of_nonneg a h
theorem fdivE {a b : Int} (h : 0 ≤ b := by decide) : a.fdiv b = a / b := Int.fdiv_eq_ediv_of_nonneg a h
/-- by a positive divisor -/
theorem u_mod : OpR X (binaryOp .Mod) (rI (fun _ j => 0 < j) fun i j => .int (i % j)) := by
  intro pins s σ H x y v u Q I rx ry h
  obtain ⟨i, j, rfl, rfl, hj, q⟩ := h
  refine op_modN pins s σ H _ _ v u Q I rx ry ⟨i, j, rfl, rfl, by omega, ?_⟩
  show Q (.int (i.fmod j)) H
  rw [fmodE (by omega)]
  exact q
theorem u_fdiv : OpR X (binaryOp .FloorDiv) (rI (fun _ j => 0 < j ∧ j < 1073741824) fun i j => .int (i / j)) := by
  intro pins s σ H x y v u Q I rx ry h
  obtain ⟨i, j, rfl, rfl, hj, q⟩ := h
  refine op_fdivN pins s σ H _ _ v u Q I rx ry ⟨i, j, rfl, rfl, ⟨by omega, by omega⟩, ?_⟩
  show Q (.int (i.fdiv j)) H
  rw [fdivE (by omega)]
  exact q
end
end VB
namespace VB
/-- what follows, shown once for several ways -/
theorem once {R G : Prop} (main : R → G) (rest : R) : G := main rest
end VB
/-! sequences: lists and tuples alike -/
namespace VB
open PySem PySem.Spec PyProof.Rows L2
/-- a list (false) or a tuple (true) of the values xs -/
def Sv (t : Bool) (K : PySem.W.Frag) (H : Hp) (a : Addr) (xs : List V) : Prop := match t with
  | false => SqL K H a xs
  | true => SqT K H a xs
section
variable {K : PySem.W.Frag} {H H' : Hp} {a : Addr} {xs : List V} {t : Bool}
theorem Sv.ex (h : Sv t K H a xs) (e : Evl.Ex H H') : Sv t K H' a xs := by
  cases t with
  | false => exact Evl.ex_l e (show SqL K H a xs from h)
  | true => exact Evl.ex_t e (show SqT K H a xs from h)
theorem Sv.lst (h : H a = some (.lst xs)) : Sv false K H a xs := SqL.of h
theorem Sv.tup (h : H a = some (.tup xs)) : Sv true K H a xs := SqT.of h
/-- a walk over what stands in a slot -/
theorem seq_var {i : Nat} {σ : L2.St} {R : It → Hp → Prop} (e : σ[i]? = some (some (.ref a))) (S : Sv t K H a xs)
    (h : ∀ J, Walk J xs.length (fun H => Sv t K H a xs) (YAt xs) → R J H) : iSeq K (tVar i) σ H R := by
  cases t with
  | false => exact .inl ⟨_, e, a, rfl, ⟨xs, S⟩, h _ walk_list⟩
  | true => exact .inr ⟨_, e, a, rfl, ⟨xs, S⟩, h _ walk_tup⟩
theorem Sv.len (S : Sv t K H a xs) : LenV K (.ref a) H xs.length := by
  cases t with
  | false => exact .inl ⟨xs, S, rfl⟩
  | true => exact .inr ⟨xs, S, rfl⟩
theorem Sv.ix {x v : V} {i : Int} {Q : VK} (S : Sv t K H a xs) (h : atI xs i = some v) (q : Q v H) : rIx K (.ref a) (.int i) H Q := by
  cases t with
  | false => exact .inl ⟨a, xs, i, v, rfl, rfl, S, h, q⟩
  | true => exact .inr (.inl ⟨a, xs, i, v, rfl, rfl, S, h, q⟩)
theorem Sv.either (S : Sv t K H a xs) : SqL K H a xs ∨ SqT K H a xs := by
  cases t with
  | false => exact .inl S
  | true => exact .inr S
end
/-- a range by a step upward -/
theorem rg_up {n c : Int} (hn : 0 ≤ n) (hn2 : n < 1000000) (hc : 0 < c) (hc2 : c < 1000000) : RgC 0 n c ((n + c - 1) / c).toNat := by
  refine ⟨by omega, by omega, ?_, ?_⟩
  · have z := PyProof.Rows.rangeSize_pos (len := n) (c := c) (by omega) hn
    have d : 0 ≤ (n + c - 1) / c := Int.ediv_nonneg (by omega) (by omega)
    have d2 : (n + c - 1) / c ≤ n + c - 1 := Int.ediv_le_self _ (by omega)
    have d3 : (n + c - 1) / c * c ≤ n + c - 1 := Int.ediv_mul_le _ (by omega)
    unfold Builtin.Range.small
    rw [z]
    simp only [Builtin.Range.rangeFitsLong, Bool.and_eq_true, Bool.or_eq_true, decide_eq_true_eq, beq_iff_eq, hc, gt_iff_lt, if_true]
    omega
  · have d : 0 ≤ (n + c - 1) / c := Int.ediv_nonneg (by omega) (by omega)
    rw [PyProof.Rows.rangeSize_pos (by omega) hn]
    omega
/-- the promises' shapes: a new list, a new tuple, a value; what stood stands -/
abbrev RL (xs : List V) (H : Hp) (Q : VK) : Prop := ∀ (p : Addr) (H' : Hp), H p = none → Evl.Ex H H' → H' p = some (.lst xs) → Q (.ref p) H'
abbrev RT (xs : List V) (H : Hp) (Q : VK) : Prop := ∀ (p : Addr) (H' : Hp), H p = none → Evl.Ex H H' → H' p = some (.tup xs) → Q (.ref p) H'
abbrev RV (v : V) (H : Hp) (Q : VK) : Prop := ∀ H' : Hp, Evl.Ex H H' → Q v H'
/-- ints as values -/
abbrev IV (ns : List Int) : List V := ns.map V.int
theorem iv_get {ns : List Int} {i : Nat} {x : V} (h : (IV ns)[i]? = some x) : ∃ n, ns[i]? = some n ∧ x = .int n := by
  rw [List.getElem?_map] at h
  cases e : ns[i]? with
  | none => rw [e] at h; cases h
  | some n =>
    rw [e] at h
    exact ⟨n, rfl, (Option.some.inj h).symm⟩
theorem iv_at {ns : List Int} {i : Nat} {n : Int} (h : ns[i]? = some n) : atI (IV ns) (i : Int) = some (.int n) := by
  apply atI_nat
  rw [List.getElem?_map, h]
  rfl
theorem iv_len (ns : List Int) : (IV ns).length = ns.length := List.length_map ..
theorem iv_snoc (ns : List Int) (n : Int) : IV ns ++ [V.int n] = IV (ns ++ [n]) := by simp
theorem take_snoc {α : Type} {l : List α} {i : Nat} {x : α} (h : l[i]? = some x) : l.take (i + 1) = l.take i ++ [x] := by
  rw [List.take_add_one, h]
  rfl
/-- a comprehension over a range that changes nothing: us its items -/
theorem lc_pureR {n j : Nat} {us : List Int} {te : TE} {vs : List Nat} {σ : L2.St} {H1 : Hp} {D : Addr} {Qd : Hp → Prop} (hl : us.length = n) (hz : n ≤ 60000) (hD : H1 D = none)
    (hw : ∀ x, wipe ((wipe σ vs).set j x) vs = wipe σ vs)
    (hs : ∀ (i : Nat) (u : Int) (H : Hp) (Q : VK), us[i]? = some u → Evl.Ex H1 H → (∀ H' : Hp, Evl.Ex H H' → Q (.int u) H') → te ((wipe σ vs).set j (some (.int (i : Int)))) H Q)
    (hd : ∀ H, Evl.Ex H1 H → H D = some (.lst (IV us)) → Qd H) :
    ∃ W : Nat → Nat → Hp → Prop, (∃ m, W 0 m (upd H1 D (.lst []))) ∧ ∀ i m H, W i m H →
      ((Itr 0 n).stop i H ∧ Qd H) ∨ ((Itr 0 n).go i H ∧ ∃ Nx : Hp → Prop, (∀ H', Nx H' → ∃ m', m' < m ∧ W (i + 1) m' H') ∧ ∀ x H', (Itr 0 n).yld i H x H' →
        gName j x (wipe σ vs) H' fun σ2 H2 => wipe σ2 vs = wipe σ vs ∧ tYes σ2 H2 fun b H3 =>
        if b = true then te σ2 H3 fun y H4 => ∃ acc, H4 D = some (.lst acc) ∧ acc.length < sizeLine ∧ Nx (upd H4 D (.lst (acc ++ [y]))) else Nx H3) := by
  refine lc_range (lo := 0) (n := n) (fun i H' => Evl.Ex H1 H' ∧ i ≤ n ∧ H' D = some (.lst (IV (us.take i)))) ⟨Evl.Ex.new hD, Nat.zero_le _, upd_same⟩ ?_ ?_
  · rintro i H hi ⟨e1, hi2, h1⟩
    have e0 : (0 : Int) + (i : Int) = (i : Int) := Int.zero_add _
    rw [e0]
    refine ⟨hw _, ?_⟩
    obtain ⟨u, hu⟩ : ∃ u, us[i]? = some u := ⟨us[i]'(by omega), by simp [show i < us.length by omega]⟩
    show te _ H _
    refine hs i u H _ hu e1 fun H' e2 => ⟨_, e2 D _ h1, ?_, Evl.Ex.mut (e1.trans e2) hD, by omega, ?_⟩
    · rw [iv_len, List.length_take]
      exact Evl.sz_lt (by omega)
    · rw [upd_same, iv_snoc, take_snoc hu]
  · rintro H ⟨e1, _, h1⟩
    refine hd H e1 ?_
    rw [h1, ← hl, List.take_length]
/-- .. over a sequence -/
theorem lc_pureS {J : It} {G : Hp → Prop} {n j : Nat} {us : List Int} {xs : List V} {te : TE} {vs : List Nat} {σ : L2.St} {H1 : Hp} {D : Addr} {Qd : Hp → Prop} (wk : Walk J n G (YAt xs)) (hG : ∀ H, Evl.Ex H1 H → G H)
    (hl : us.length = n) (hz : n ≤ 60000) (hD : H1 D = none) (hw : ∀ x, wipe ((wipe σ vs).set j x) vs = wipe σ vs)
    (hs : ∀ (i : Nat) (x : V) (u : Int) (H : Hp) (Q : VK), xs[i]? = some x → us[i]? = some u → Evl.Ex H1 H → (∀ H' : Hp, Evl.Ex H H' → Q (.int u) H') → te ((wipe σ vs).set j (some x)) H Q)
    (hd : ∀ H, Evl.Ex H1 H → H D = some (.lst (IV us)) → Qd H) :
    ∃ W : Nat → Nat → Hp → Prop, (∃ m, W 0 m (upd H1 D (.lst []))) ∧ ∀ i m H, W i m H →
      (J.stop i H ∧ Qd H) ∨ (J.go i H ∧ ∃ Nx : Hp → Prop, (∀ H', Nx H' → ∃ m', m' < m ∧ W (i + 1) m' H') ∧ ∀ x H', J.yld i H x H' →
        gName j x (wipe σ vs) H' fun σ2 H2 => wipe σ2 vs = wipe σ vs ∧ tYes σ2 H2 fun b H3 =>
        if b = true then te σ2 H3 fun y H4 => ∃ acc, H4 D = some (.lst acc) ∧ acc.length < sizeLine ∧ Nx (upd H4 D (.lst (acc ++ [y]))) else Nx H3) := by
  refine lc_it wk (fun i H' => Evl.Ex H1 H' ∧ i ≤ n ∧ H' D = some (.lst (IV (us.take i)))) ⟨Evl.Ex.new hD, Nat.zero_le _, upd_same⟩ (fun i H _ h => hG H h.1) ?_ ?_
  · rintro i x H H' hi ⟨e1, hi2, h1⟩ ⟨rfl, hx⟩
    refine ⟨hw _, ?_⟩
    obtain ⟨u, hu⟩ : ∃ u, us[i]? = some u := ⟨us[i]'(by omega), by simp [show i < us.length by omega]⟩
    show te _ H' _
    refine hs i x u H' _ hx hu e1 fun H'' e2 => ⟨_, e2 D _ h1, ?_, Evl.Ex.mut (e1.trans e2) hD, by omega, ?_⟩
    · rw [iv_len, List.length_take]
      exact Evl.sz_lt (by omega)
    · rw [upd_same, iv_snoc, take_snoc hu]
  · rintro H ⟨e1, _, h1⟩
    refine hd H e1 ?_
    rw [h1, ← hl, List.take_length]
end VB
/-! data of ints: what stands, what repr shows, what == says -/
namespace VB
open PySem PySem.Spec PyProof.Rows L2
abbrev DL (ns : List Int) : PyData := .list (ns.map .int)
abbrev DT (ns : List Int) : PyData := .tuple (ns.map .int)
section
variable {K : PySem.W.Frag} {H H' : Hp} {a : Addr} {ns : List Int} {t : Bool}
theorem dpAll_ints : ∀ ns : List Int, DpAll K H (IV ns) (ns.map .int)
  | [] => .nil
  | n :: ns => .cons (.int n) (dpAll_ints ns)
theorem dp_l (h : SqL K H a (IV ns)) : Dp K H (.ref a) (DL ns) := .lst h (dpAll_ints ns)
theorem dp_t (h : SqT K H a (IV ns)) : Dp K H (.ref a) (DT ns) := .tup h (dpAll_ints ns)
end
/-- what can be shown, its depth and its text's length bounded -/
structure Sh (d : PyData) (h b : Nat) : Prop where
  ok : d.showable = true
  dep : d.depth ≤ h
  len : d.shown.length ≤ b
theorem Sh.le {d : PyData} {h b h' b' : Nat} (s : Sh d h b) (h1 : h ≤ h' := by omega) (h2 : b ≤ b' := by omega) : Sh d h' b' :=
  ⟨s.ok, Nat.le_trans s.dep h1, Nat.le_trans s.len h2⟩
theorem pow2_lt : ∀ n : Nat, n < 2 ^ n
  | 0 => by decide
  | n + 1 => by
    have := pow2_lt n
    rw [Nat.pow_succ]
    omega
theorem log2_le_self (n : Nat) : n.log2 ≤ n := by
  by_cases h : n = 0
  · subst h
    decide
  · have q := Nat.log2_self_le h
    have p := pow2_lt n.log2
    omega
theorem sh_int {n : Int} (h : 0 ≤ n ∧ n < 10000 ∧ n.natAbs.log2 < 1920) : Sh (.int n) 0 4 := by
  refine ⟨by simp only [PyData.showable, decide_eq_true_eq]; exact h.2.2, by simp only [PyData.depth]; exact Nat.le_refl _, ?_⟩
  rw [PyData.shown_int]
  exact toString_length_le h.1 (by decide) (by omega)
theorem log_small {n : Int} (h : 0 ≤ n) (h2 : n < 10000) : n.natAbs.log2 < 1920 := by
  by_cases z : n.natAbs = 0
  · rw [z]
    decide
  · have q := Nat.log2_lt z (k := 1920)
    refine q.mpr (Nat.lt_of_lt_of_le (m := 2 ^ 14) (by omega) (Nat.pow_le_pow_right (by decide) (by decide)))
theorem piled_le {b : Nat} : ∀ ts : List Str, (∀ t ∈ ts, t.length ≤ b) → piled ts ≤ (b + 2) * ts.length
  | [], _ => Nat.zero_le _
  | t :: ts, h => by
    have a := h t (List.mem_cons_self ..)
    have c := piled_le ts fun u hu => h u (List.mem_cons_of_mem _ hu)
    rw [piled_cons, List.length_cons, Nat.mul_succ]
    omega
theorem join_le {b : Nat} (ts : List Str) (h : ∀ t ∈ ts, t.length ≤ b) : (Str.join ", " ts).length ≤ (b + 2) * ts.length := by
  by_cases z : ts = []
  · subst z
    exact Nat.zero_le _
  · have j := join_length_add ts z
    have p := piled_le ts h
    omega
theorem mem_shown {x : Str} : ∀ {ds : List PyData}, x ∈ PyData.shownAll ds → ∃ d ∈ ds, x = d.shown
  | [], h => by
    rw [PyData.shownAll_nil] at h
    cases h
  | d :: ds, h => by
    rw [PyData.shownAll_cons] at h
    cases h with
    | head => exact ⟨d, List.mem_cons_self .., rfl⟩
    | tail _ h =>
      obtain ⟨e, he, q⟩ := mem_shown h
      exact ⟨e, List.mem_cons_of_mem _ he, q⟩
theorem depAll {h : Nat} : ∀ {ds : List PyData}, (∀ d ∈ ds, d.depth ≤ h) → PyData.depthAll ds ≤ h
  | [], _ => by simp only [PyData.depthAll]; exact Nat.zero_le _
  | d :: ds, q => by
    simp only [PyData.depthAll]
    exact Nat.max_le.mpr ⟨q d (List.mem_cons_self ..), depAll fun e he => q e (List.mem_cons_of_mem _ he)⟩
theorem str_app (a b : Str) : (a ++ b).length = a.length + b.length := by
  exact strLen_append a b
theorem sh_list {ds : List PyData} {h b n : Nat} (q : ∀ d ∈ ds, Sh d h b) (hn : ds.length ≤ n) : Sh (.list ds) (h + 1) ((b + 2) * n + 4) := by
  refine ⟨?_, ?_, ?_⟩
  · simp only [PyData.showable]
    exact PySem.Spec.showableAll_of fun d hd => (q d hd).ok
  · simp only [PyData.depth]
    exact Nat.succ_le_succ (depAll fun d hd => (q d hd).dep)
  · rw [PyData.shown_list, str_app, str_app]
    have j := join_le (b := b) (PyData.shownAll ds) (by
      intro t ht
      obtain ⟨d, hd, rfl⟩ := mem_shown ht
      exact (q d hd).len)
    rw [PyData.shownAll_length] at j
    have l1 : ("[" : Str).length = 1 := by decide
    have l2 : ("]" : Str).length = 1 := by decide
    have m : (b + 2) * ds.length ≤ (b + 2) * n := Nat.mul_le_mul_left _ hn
    omega
theorem sh_tup {ds : List PyData} {h b n : Nat} (q : ∀ d ∈ ds, Sh d h b) (hn : ds.length ≤ n) : Sh (.tuple ds) (h + 1) ((b + 2) * n + 4) := by
  refine ⟨?_, ?_, ?_⟩
  · simp only [PyData.showable]
    exact PySem.Spec.showableAll_of fun d hd => (q d hd).ok
  · simp only [PyData.depth]
    exact Nat.succ_le_succ (depAll fun d hd => (q d hd).dep)
  · rw [PyData.shown_tuple, str_app, str_app]
    have j := join_le (b := b) (PyData.shownAll ds) (by
      intro t ht
      obtain ⟨d, hd, rfl⟩ := mem_shown ht
      exact (q d hd).len)
    rw [PyData.shownAll_length] at j
    have l1 : ("(" : Str).length = 1 := by decide
    have l2 : (if ds.length == 1 then ",)" else ")" : Str).length ≤ 2 := by
      split <;> decide
    have m : (b + 2) * ds.length ≤ (b + 2) * n := Nat.mul_le_mul_left _ hn
    have l3 : (Str.ofString (if ds.length == 1 then ",)" else ")" : String)).length ≤ 2 := by
      split <;> decide
    omega
/-- ints below 10000 -/
def Sm (ns : List Int) : Prop := ∀ n ∈ ns, 0 ≤ n ∧ n < 10000
theorem sm_ds {ns : List Int} (h : Sm ns) : ∀ d ∈ ns.map PyData.int, Sh d 0 4 := by
  intro d hd
  obtain ⟨n, hn, rfl⟩ := List.mem_map.mp hd
  have := h n hn
  exact sh_int ⟨this.1, this.2, log_small this.1 this.2⟩
theorem sh_l {ns : List Int} (h : Sm ns) (hl : ns.length ≤ 6000) : Sh (DL ns) 1 40000 := (sh_list (sm_ds h) (n := 6000) (by simpa using hl)).le
theorem sh_t {ns : List Int} (h : Sm ns) (hl : ns.length ≤ 6000) : Sh (DT ns) 1 40000 := (sh_tup (sm_ds h) (n := 6000) (by simpa using hl)).le
section
variable {K : PySem.W.Frag} {H : Hp} {a b : Addr} {ns ms : List Int} {Q : VK}
theorem rp {d : PyData} {h n : Nat} (e : Dp K H (.ref a) d) (s : Sh d h n) (q : Q (.str d.shown) H) (hh : h ≤ 60 := by decide) (hn : n ≤ 1000000 := by omega) : rRepr K [.ref a] H Q := by
  unfold rRepr
  exact ⟨a, d, rfl, e, s.ok, Nat.le_trans s.dep hh, Nat.le_trans (Nat.le_trans s.len hn) (by decide), q⟩
theorem rp_l (e : SqL K H a (IV ns)) (h : Sm ns) (hl : ns.length ≤ 6000) (q : Q (.str (DL ns).shown) H) : rRepr K [.ref a] H Q := rp (dp_l e) (sh_l h hl) q
theorem rp_t (e : SqT K H a (IV ns)) (h : Sm ns) (hl : ns.length ≤ 6000) (q : Q (.str (DT ns).shown) H) : rRepr K [.ref a] H Q := rp (dp_t e) (sh_t h hl) q
theorem eqvAll_ints : ∀ xs ys : List Int, PyData.eqvAll (xs.map .int) (ys.map .int) = decide (xs = ys)
  | [], [] => by simp [PyData.eqvAll]
  | [], _ :: _ => by simp [PyData.eqvAll]
  | _ :: _, [] => by simp [PyData.eqvAll]
  | x :: xs, y :: ys => by
    simp only [List.map_cons, PyData.eqvAll, PyData.eqv, eqvAll_ints xs ys]
    by_cases h : x = y <;> by_cases h2 : xs = ys <;> simp [h, h2]
theorem canAll : ∀ ns : List Int, PyData.canLayAll0 (ns.map .int) = true
  | [] => by simp [PyData.canLayAll0]
  | n :: ns => by simp [PyData.canLayAll0, PyData.canLay0, canAll ns]
theorem depInts : ∀ ns : List Int, PyData.depthAll (ns.map .int) = 0
  | [] => by simp [PyData.depthAll]
  | n :: ns => by simp [PyData.depthAll, PyData.depth, depInts ns]
theorem shp_l (ns : List Int) : SeqAt.shaped (DL ns) = true := by simp [SeqAt.shaped, PyData.canLay0, PyData.depth, canAll, depInts]
theorem shp_t (ns : List Int) : SeqAt.shaped (DT ns) = true := by simp [SeqAt.shaped, PyData.canLay0, PyData.depth, canAll, depInts]
theorem req_l (e : SqL K H a (IV ns)) (e' : SqL K H b (IV ms)) (q : Q (.bl (decide (ns = ms))) H) : rEqD K (.ref a) (.ref b) H Q := by
  refine ⟨DL ns, DL ms, dp_l e, dp_l e', shp_l _, shp_l _, ?_⟩
  rw [show PyData.eqv (DL ns) (DL ms) = decide (ns = ms) by simp only [DL, PyData.eqv]; exact eqvAll_ints ns ms]
  exact q
theorem req_t (e : SqT K H a (IV ns)) (e' : SqT K H b (IV ms)) (q : Q (.bl (decide (ns = ms))) H) : rEqD K (.ref a) (.ref b) H Q := by
  refine ⟨DT ns, DT ms, dp_t e, dp_t e', shp_t _, shp_t _, ?_⟩
  rw [show PyData.eqv (DT ns) (DT ms) = decide (ns = ms) by simp only [DT, PyData.eqv]; exact eqvAll_ints ns ms]
  exact q
theorem rne_l (e : SqL K H a (IV ns)) (e' : SqL K H b (IV ms)) (q : Q (.bl (!decide (ns = ms))) H) : rNeD K (.ref a) (.ref b) H Q := by
  refine ⟨DL ns, DL ms, dp_l e, dp_l e', shp_l _, shp_l _, ?_⟩
  rw [show PyData.eqv (DL ns) (DL ms) = decide (ns = ms) by simp only [DL, PyData.eqv]; exact eqvAll_ints ns ms]
  exact q
end
end VB
/-! a tuple once is the tuple -/
namespace VB
open PySem PySem.Spec PyProof.Rows L2
theorem tuple_mul1 (l : Addr) (items : Array Value) (n : Nat) (dd : Option Addr) (sl : Array (Option Value)) (x : Int) (u : Tok) (c0 : (decide (x < -(2 ^ 63)) || decide (x ≥ 2 ^ 63)) = false) (c1 : (items.isEmpty || x == 1) = true) :
    Meets (Builtin.«tuple.__mul__» ⟨[.ref l, .int x u], []⟩) (fun _ R s => s.heap.get? l = some { cls := .type "tuple", dict := dd, data := .seq items n, slots := sl } ∧
      R (.ok (.ret (.ref l))) s) :=
  .of_wp fun prog w A R s h => by
    obtain ⟨hp, g, d, tk, os⟩ := s
    obtain ⟨hl, h⟩ := h
    have f1 := AutoSeq1.idx_int
    wp_walk using wpAny_loadPart' hl
    repeat (first
      | (refine wpAny_ite_false (decide_eq_false (by rw [c0]; exact Bool.false_ne_true)) ?_; wp_walk using wpAny_loadPart' hl)
      | (refine wpAny_ite_true (decide_eq_true c1) ?_; wp_walk using wpAny_loadPart' hl))
    exact ⟨_, rfl, h⟩
def rRepT1 (K : PySem.W.Frag) : R2 := fun x y H Q => ∃ l xs, x = .ref l ∧ y = .int 1 ∧ SqT K H l xs ∧ Q (.ref l) H
section
variable {X : Cx} {K : PySem.W.Frag}
theorem op_repT1 : OpR X (binaryOp .Mult) (rRepT1 X.K) := by
  intro pins s σ H x y v u Q I rx ry h
  obtain ⟨l, xs, rfl, rfl, hT, q⟩ := h
  cases rx
  obtain ⟨t, rfl⟩ := ry
  obtain ⟨its, r, ⟨⟨cls, dd, data, sl⟩, ho, hc, n, hd⟩, hs⟩ := I.tuple hT
  simp only at hc hd
  subst hc hd
  have c0 : (decide ((1 : Int) < -(2 ^ 63)) || decide ((1 : Int) ≥ 2 ^ 63)) = false := by decide
  have c1 : (its.toArray.isEmpty || (1 : Int) == 1) = true := by simp
  refine wpAny_binaryOp_repeat_ref (T := "tuple") (U := "int") (by decide) ⟨_, ho, rfl⟩ (fun s' => typeIs_int s' 1 t) noFill_tuple_mul F.fills_int_mul F.slot_int_rmul repeat_tuple F.slot_int_index.lookup
    (call_meets F.slot_int_rmul (typeIs_int s 1 t) F.entry_int_rmul (F.args_int_rmul_2 _ _) (int_rmul_tuple 1 t l its.toArray n dd sl)
      ⟨ho, rfl, ⟨_, ho, rfl⟩, call_meets F.slot_tuple_mul ⟨_, ho, rfl⟩ F.entry_tuple_mul (F.args_tuple_mul_2 _ _) (tuple_mul1 l its.toArray n dd sl 1 t c0 c1) ⟨ho, ?_⟩⟩)
  exact ⟨.ref l, H, I, rfl, q⟩
/-- +, * of this law: tuples once, too -/
@[irreducible] def rMulU1 (K : PySem.W.Frag) : R2 := fun x y H Q => rMulU K x y H Q ∨ rRepT1 K x y H Q
theorem u_mul1 (hK : X.K = K := by rfl) : OpR X (binaryOp .Mult) (rMulU1 K) := by
  subst hK
  unfold rMulU1
  exact (u_mul rfl).or op_repT1
end
end VB
/-! readings that are never unfolded -/
namespace VB
open PySem PySem.Spec PyProof.Rows L2
section
variable {X : Cx} {K : PySem.W.Frag}
@[irreducible] def rTupI (K : PySem.W.Frag) : List V → Hp → VK → Prop := rTupU K
@[irreducible] def rListI (K : PySem.W.Frag) : List V → Hp → VK → Prop := rListU K
theorem u_tupI (hK : X.K = K := by rfl) : CallR X (.type "tuple") (rTupI K) := by
  unfold rTupI
  exact u_tup hK
theorem u_listI (hK : X.K = K := by rfl) : CallR X (.type "list") (rListI K) := by
  unfold rListI
  exact u_list hK
@[irreducible] def tIfI (c : TT) (t u : TS) : TS := tIfS c t u
theorem ps_ifI {test : Expr} {body orelse : List Stmt} {pos : Pos} {c : TT} {t u : TS} (hc : PT X test c) (ht : PSs X body t) (hu : PSs X orelse u) : PS X (.If test body orelse pos) (tIfI c t u) := by
  unfold tIfI
  exact ps_if hc ht hu
end
end VB
/-! bits of octets: plain mathematics -/
namespace BM
def bitsOf (o : Int) : List Int := [o / 128 % 2, o / 64 % 2, o / 32 % 2, o / 16 % 2, o / 8 % 2, o / 4 % 2, o / 2 % 2, o / 1 % 2]
def bitsL (os : List Int) : List Int := os.flatMap bitsOf
def octOf (bs : List Int) : Int := bs.foldl (fun n b => 2 * n + b) 0
def octetsN : Nat → List Int → List Int
  | 0, _ => []
  | n + 1, bs => octOf (bs.take 8) :: octetsN n (bs.drop 8)
def octetsL (bs : List Int) : List Int := octetsN ((bs.length + 7) / 8) bs
def Oct (os : List Int) : Prop := ∀ o ∈ os, 0 ≤ o ∧ o ≤ 255
def Bit (bs : List Int) : Prop := ∀ b ∈ bs, b = 0 ∨ b = 1
/-- the indices at which the first is 1 and the second 0 -/
def fallenL : Int → List Int → List Int → List Int
  | k, a :: as, b :: bs => if a = 1 ∧ b = 0 then k :: fallenL (k + 1) as bs else fallenL (k + 1) as bs
  | _, _, _ => []
/-- what a mask leaves on the way -/
def turned : List Int → List Int → Int → List Int
  | a :: as, b :: bs, m => if a = b then a :: turned as bs m else (if m % 2 = 1 then b else a) :: turned as bs (m / 2)
  | _, _, _ => []
def unlike : List Int → List Int → Nat
  | a :: as, b :: bs => (if a = b then 0 else 1) + unlike as bs
  | _, _ => 0

theorem bitsOf_bit {o b : Int} (h : b ∈ bitsOf o) : b = 0 ∨ b = 1 := by
  simp only [bitsOf, List.mem_cons, List.not_mem_nil, or_false] at h
  omega
theorem bitsL_bit (os : List Int) : Bit (bitsL os) := by
  intro b h
  obtain ⟨o, _, ho⟩ := List.mem_flatMap.mp h
  exact bitsOf_bit ho
theorem bitsL_nil : bitsL [] = [] := rfl
theorem bitsL_cons (o : Int) (os : List Int) : bitsL (o :: os) = bitsOf o ++ bitsL os := by simp [bitsL]
theorem bitsOf_len (o : Int) : (bitsOf o).length = 8 := rfl
theorem bitsL_len : ∀ os : List Int, (bitsL os).length = 8 * os.length
  | [] => rfl
  | o :: os => by
    rw [bitsL_cons, List.length_append, bitsL_len os, bitsOf_len, List.length_cons]
    omega
theorem bitsL_append (a b : List Int) : bitsL (a ++ b) = bitsL a ++ bitsL b := by simp [bitsL]
theorem octOf_bitsOf {o : Int} (h : 0 ≤ o ∧ o ≤ 255) : octOf (bitsOf o) = o := by
  have key : ∀ n : Fin 256, octOf (bitsOf ((n : Nat) : Int)) = ((n : Nat) : Int) := by decide +kernel
  have e := key ⟨o.toNat, by omega⟩
  have e2 : ((o.toNat : Nat) : Int) = o := Int.toNat_of_nonneg h.1
  simp only [e2] at e
  exact e
theorem eight {bs : List Int} (h : 8 ≤ bs.length) : ∃ a b c d e f g i r, bs = a :: b :: c :: d :: e :: f :: g :: i :: r := by
  match bs, h with
  | a :: b :: c :: d :: e :: f :: g :: i :: r, _ => exact ⟨a, b, c, d, e, f, g, i, r, rfl⟩
theorem octOf8 (a b c d e f g i : Int) : octOf [a, b, c, d, e, f, g, i] = 128 * a + 64 * b + 32 * c + 16 * d + 8 * e + 4 * f + 2 * g + i := by
  simp only [octOf, List.foldl_cons, List.foldl_nil]
  omega
theorem bit_le {x : Int} (h : x = 0 ∨ x = 1) : 0 ≤ x ∧ x ≤ 1 := by omega
theorem bitsOf_octOf {a b c d e f g i : Int} (h : Bit [a, b, c, d, e, f, g, i]) : bitsOf (octOf [a, b, c, d, e, f, g, i]) = [a, b, c, d, e, f, g, i] := by
  obtain ⟨a0, a1⟩ := bit_le (h a (by simp))
  obtain ⟨b0, b1⟩ := bit_le (h b (by simp))
  obtain ⟨c0, c1⟩ := bit_le (h c (by simp))
  obtain ⟨d0, d1⟩ := bit_le (h d (by simp))
  obtain ⟨e0, e1⟩ := bit_le (h e (by simp))
  obtain ⟨f0, f1⟩ := bit_le (h f (by simp))
  obtain ⟨g0, g1⟩ := bit_le (h g (by simp))
  obtain ⟨i0, i1⟩ := bit_le (h i (by simp))
  clear h
  rw [octOf8]
  simp only [bitsOf, List.cons.injEq, and_true]
  refine ⟨?_, ?_, ?_, ?_, ?_, ?_, ?_, ?_⟩ <;> omega
theorem octOf_range {a b c d e f g i : Int} (h : Bit [a, b, c, d, e, f, g, i]) : 0 ≤ octOf [a, b, c, d, e, f, g, i] ∧ octOf [a, b, c, d, e, f, g, i] ≤ 255 := by
  have ha := h a (by simp)
  have hb := h b (by simp)
  have hc := h c (by simp)
  have hd := h d (by simp)
  have he := h e (by simp)
  have hf := h f (by simp)
  have hg := h g (by simp)
  have hi := h i (by simp)
  rw [octOf8]
  omega
theorem Bit.split8 {a b c d e f g i : Int} {r : List Int} (h : Bit (a :: b :: c :: d :: e :: f :: g :: i :: r)) : Bit [a, b, c, d, e, f, g, i] ∧ Bit r := by
  constructor
  · intro x hx
    refine h x ?_
    simp only [List.mem_cons, List.not_mem_nil, or_false] at hx
    simp only [List.mem_cons]
    rcases hx with q | q | q | q | q | q | q | q <;> simp [q]
  · intro x hx
    exact h x (by simp [hx])
/-- bits of octets of bits -/
theorem octetsN_spec : ∀ (n : Nat) (bs : List Int), bs.length = 8 * n → Bit bs → bitsL (octetsN n bs) = bs ∧ Oct (octetsN n bs) ∧ (octetsN n bs).length = n
  | 0, bs, hl, _ => by
    have e : bs = [] := List.eq_nil_of_length_eq_zero (by omega)
    subst e
    exact ⟨rfl, fun _ h => (by cases h), rfl⟩
  | n + 1, bs, hl, hb => by
    obtain ⟨a, b, c, d, e, f, g, i, r, rfl⟩ := eight (bs := bs) (by omega)
    obtain ⟨h1, h2⟩ := hb.split8
    have hr : r.length = 8 * n := by
      simp only [List.length_cons] at hl
      omega
    obtain ⟨i1, i2, i3⟩ := octetsN_spec n r hr h2
    refine ⟨?_, ?_, ?_⟩
    · show bitsL (octOf [a, b, c, d, e, f, g, i] :: octetsN n r) = _
      rw [bitsL_cons, bitsOf_octOf h1, i1]
      rfl
    · intro o ho
      rcases List.mem_cons.mp ho with q | q
      · rw [q]
        exact octOf_range h1
      · exact i2 o q
    · show (octetsN n r).length + 1 = n + 1
      rw [i3]
theorem octetsL_spec {bs : List Int} {n : Nat} (hl : bs.length = 8 * n) (hb : Bit bs) : bitsL (octetsL bs) = bs ∧ Oct (octetsL bs) ∧ (octetsL bs).length = n := by
  have e : (bs.length + 7) / 8 = n := by omega
  unfold octetsL
  rw [e]
  exact octetsN_spec n bs hl hb
theorem octetsL_bitsL : ∀ {os : List Int}, Oct os → octetsL (bitsL os) = os := by
  intro os
  induction os with
  | nil => intro _; rfl
  | cons o os ih =>
    intro h
    have h1 := h o List.mem_cons_self
    have h2 : Oct os := fun x hx => h x (List.mem_cons_of_mem _ hx)
    have i := ih h2
    have l := bitsL_len os
    have l2 := bitsL_len (o :: os)
    unfold octetsL at i ⊢
    have e1 : ((bitsL os).length + 7) / 8 = os.length := by omega
    have e2 : ((bitsL (o :: os)).length + 7) / 8 = os.length + 1 := by
      rw [l2, List.length_cons]
      omega
    rw [e1] at i
    rw [e2, bitsL_cons]
    show octOf ((bitsOf o ++ bitsL os).take 8) :: octetsN os.length ((bitsOf o ++ bitsL os).drop 8) = _
    have t : (bitsOf o ++ bitsL os).take 8 = bitsOf o := by rw [List.take_append_of_le_length (by rw [bitsOf_len]; omega)]; rfl
    have d : (bitsOf o ++ bitsL os).drop 8 = bitsL os := rfl
    rw [t, d, octOf_bitsOf h1, i]
theorem turned_len : ∀ (as bs : List Int) (m : Int), as.length = bs.length → (turned as bs m).length = as.length
  | [], [], _, _ => rfl
  | a :: as, b :: bs, m, h => by
    unfold turned
    have h' : as.length = bs.length := by simpa using h
    split
    · rw [List.length_cons, turned_len as bs m h', List.length_cons]
    · rw [List.length_cons, turned_len as bs _ h', List.length_cons]
  | [], _ :: _, _, h => by simp at h
  | _ :: _, [], _, h => by simp at h
theorem turned_bit : ∀ (as bs : List Int) (m : Int), Bit as → Bit bs → Bit (turned as bs m)
  | [], _, _, _, _ => by
    unfold turned
    intro x h
    cases h
  | _ :: _, [], _, _, _ => by
    unfold turned
    intro x h
    cases h
  | a :: as, b :: bs, m, ha, hb => by
    have h1 := ha a List.mem_cons_self
    have h2 := hb b List.mem_cons_self
    have h3 : Bit as := fun x hx => ha x (List.mem_cons_of_mem _ hx)
    have h4 : Bit bs := fun x hx => hb x (List.mem_cons_of_mem _ hx)
    unfold turned
    split
    · intro x hx
      rcases List.mem_cons.mp hx with q | q
      · rw [q]; exact h1
      · exact turned_bit as bs m h3 h4 x q
    · intro x hx
      rcases List.mem_cons.mp hx with q | q
      · rw [q]
        split
        · exact h2
        · exact h1
      · exact turned_bit as bs _ h3 h4 x q
/-- below at each place -/
def Le : List Int → List Int → Prop
  | a :: as, b :: bs => a ≤ b ∧ Le as bs
  | [], [] => True
  | _, _ => False
theorem Le.refl : ∀ as : List Int, Le as as
  | [] => True.intro
  | a :: as => ⟨Int.le_refl a, Le.refl as⟩
theorem Le.len : ∀ {as bs : List Int}, Le as bs → as.length = bs.length
  | [], [], _ => rfl
  | _ :: as, _ :: bs, h => by rw [List.length_cons, List.length_cons, Le.len h.2]
  | [], _ :: _, h => h.elim
  | _ :: _, [], h => h.elim
/-- where nothing rises from as to bs, what is left lies between -/
theorem turned_down : ∀ {as bs : List Int} (m : Int), Le bs as → Le bs (turned as bs m) ∧ Le (turned as bs m) as
  | [], [], _, _ => ⟨True.intro, True.intro⟩
  | a :: as, b :: bs, m, h => by
    have i1 := turned_down (as := as) (bs := bs) m h.2
    have i2 := turned_down (as := as) (bs := bs) (m / 2) h.2
    have h1 := h.1
    unfold turned
    split
    · rename_i e
      exact ⟨⟨by omega, i1.1⟩, ⟨Int.le_refl a, i1.2⟩⟩
    · refine ⟨⟨?_, i2.1⟩, ⟨?_, i2.2⟩⟩ <;> split <;> omega
  | [], _ :: _, _, h => h.elim
  | _ :: _, [], _, h => h.elim
theorem turned_up : ∀ {as bs : List Int} (m : Int), Le as bs → Le as (turned as bs m) ∧ Le (turned as bs m) bs
  | [], [], _, _ => ⟨True.intro, True.intro⟩
  | a :: as, b :: bs, m, h => by
    have i1 := turned_up (as := as) (bs := bs) m h.2
    have i2 := turned_up (as := as) (bs := bs) (m / 2) h.2
    have h1 := h.1
    unfold turned
    split
    · rename_i e
      exact ⟨⟨Int.le_refl a, i1.1⟩, ⟨by omega, i1.2⟩⟩
    · refine ⟨⟨?_, i2.1⟩, ⟨?_, i2.2⟩⟩ <;> split <;> omega
  | [], _ :: _, _, h => h.elim
  | _ :: _, [], _, h => h.elim
theorem Le.trans : ∀ {as bs cs : List Int}, Le as bs → Le bs cs → Le as cs
  | [], [], [], _, _ => True.intro
  | _ :: _, _ :: _, _ :: _, h, h' => ⟨Int.le_trans h.1 h'.1, h.2.trans h'.2⟩
  | [], _ :: _, _, h, _ => h.elim
  | _ :: _, [], _, h, _ => h.elim
  | [], [], _ :: _, _, h => h.elim
  | _ :: _, _ :: _, [], _, h => h.elim
/-- nothing falls upward -/
theorem fallen_none : ∀ {as bs : List Int} (k : Int), Le as bs → fallenL k as bs = []
  | [], [], _, _ => rfl
  | a :: as, b :: bs, k, h => by
    have h1 := h.1
    unfold fallenL
    rw [if_neg (by omega)]
    exact fallen_none _ h.2
  | [], _ :: _, _, h => h.elim
  | _ :: _, [], _, h => h.elim
def zc (bs : List Int) : Int := ((bs.count 0 : Nat) : Int)
theorem zc_nil : zc [] = 0 := rfl
theorem zc_cons (b : Int) (bs : List Int) : zc (b :: bs) = (if b = 0 then 1 else 0) + zc bs := by
  unfold zc
  rw [List.count_cons]
  by_cases h : b = 0
  · simp [h]
    omega
  · simp [h]
/-- more zeros below, as many only if equal -/
theorem zc_le : ∀ {as bs : List Int}, Bit as → Bit bs → Le as bs → zc bs ≤ zc as ∧ (zc bs = zc as → as = bs)
  | [], [], _, _, _ => ⟨Int.le_refl _, fun _ => rfl⟩
  | a :: as, b :: bs, ha, hb, h => by
    have h1 := ha a List.mem_cons_self
    have h2 := hb b List.mem_cons_self
    have h3 : Bit as := fun x hx => ha x (List.mem_cons_of_mem _ hx)
    have h4 : Bit bs := fun x hx => hb x (List.mem_cons_of_mem _ hx)
    have h5 := h.1
    obtain ⟨i1, i2⟩ := zc_le h3 h4 h.2
    rw [zc_cons, zc_cons]
    rcases h1 with rfl | rfl <;> rcases h2 with rfl | rfl
    · refine ⟨by simp; omega, fun e => ?_⟩
      rw [i2 (by simp at e; omega)]
    · refine ⟨by simp; omega, fun e => ?_⟩
      simp at e
      omega
    · omega
    · refine ⟨by simp; omega, fun e => ?_⟩
      rw [i2 (by simp at e; omega)]
  | [], _ :: _, _, _, h => h.elim
  | _ :: _, [], _, _, h => h.elim
/-- zeros: what falls more, what rises less -/
theorem zc_diff : ∀ (as bs : List Int) (k l : Int), Bit as → Bit bs → as.length = bs.length → zc bs = zc as + ((fallenL k as bs).length : Int) - ((fallenL l bs as).length : Int)
  | [], [], _, _, _, _, _ => rfl
  | a :: as, b :: bs, k, l, ha, hb, hl => by
    have h1 := ha a List.mem_cons_self
    have h2 := hb b List.mem_cons_self
    have h3 : Bit as := fun x hx => ha x (List.mem_cons_of_mem _ hx)
    have h4 : Bit bs := fun x hx => hb x (List.mem_cons_of_mem _ hx)
    have i := zc_diff as bs (k + 1) (l + 1) h3 h4 (by simpa using hl)
    unfold fallenL
    rw [zc_cons, zc_cons]
    rcases h1 with rfl | rfl <;> rcases h2 with rfl | rfl <;> simp <;> omega
  | [], _ :: _, _, _, _, _, hl => by simp at hl
  | _ :: _, [], _, _, _, _, hl => by simp at hl
/-- both sets empty: equal -/
theorem fallen_both : ∀ (as bs : List Int) (k l : Int), Bit as → Bit bs → as.length = bs.length → fallenL k as bs = [] → fallenL l bs as = [] → as = bs
  | [], [], _, _, _, _, _, _, _ => rfl
  | a :: as, b :: bs, k, l, ha, hb, hl, e1, e2 => by
    have h1 := ha a List.mem_cons_self
    have h2 := hb b List.mem_cons_self
    have h3 : Bit as := fun x hx => ha x (List.mem_cons_of_mem _ hx)
    have h4 : Bit bs := fun x hx => hb x (List.mem_cons_of_mem _ hx)
    unfold fallenL at e1 e2
    rcases h1 with rfl | rfl <;> rcases h2 with rfl | rfl
    · simp at e1 e2
      rw [fallen_both as bs _ _ h3 h4 (by simpa using hl) e1 e2]
    · simp at e2
    · simp at e1
    · simp at e1 e2
      rw [fallen_both as bs _ _ h3 h4 (by simpa using hl) e1 e2]
  | [], _ :: _, _, _, _, _, hl, _, _ => by simp at hl
  | _ :: _, [], _, _, _, _, hl, _, _ => by simp at hl
theorem fallen_self : ∀ (as : List Int) (k : Int), fallenL k as as = []
  | [], _ => rfl
  | a :: as, k => by
    unfold fallenL
    rw [if_neg (by omega)]
    exact fallen_self as _
theorem fallen_len : ∀ (as bs : List Int) (k : Int), (fallenL k as bs).length ≤ as.length
  | [], _, _ => by simp [fallenL]
  | _ :: _, [], _ => by simp [fallenL]
  | a :: as, b :: bs, k => by
    unfold fallenL
    have i := fallen_len as bs (k + 1)
    split <;> simp only [List.length_cons] <;> omega
/-- the mask of no bit, and one that reaches beyond all -/
theorem turned_zero : ∀ (as bs : List Int), as.length = bs.length → turned as bs 0 = as
  | [], [], _ => rfl
  | a :: as, b :: bs, h => by
    have h' : as.length = bs.length := by simpa using h
    unfold turned
    split
    · rw [turned_zero as bs h']
    · have e : (0 : Int) / 2 = 0 := rfl
      rw [if_neg (by decide), e, turned_zero as bs h']
  | [], _ :: _, h => by simp at h
  | _ :: _, [], h => by simp at h
theorem unlike_eq : ∀ (as bs : List Int) (k l : Int), Bit as → Bit bs → as.length = bs.length → unlike as bs = (fallenL k as bs).length + (fallenL l bs as).length
  | [], [], _, _, _, _, _ => rfl
  | a :: as, b :: bs, k, l, ha, hb, hl => by
    have h1 := ha a List.mem_cons_self
    have h2 := hb b List.mem_cons_self
    have h3 : Bit as := fun x hx => ha x (List.mem_cons_of_mem _ hx)
    have h4 : Bit bs := fun x hx => hb x (List.mem_cons_of_mem _ hx)
    have i := unlike_eq as bs (k + 1) (l + 1) h3 h4 (by simpa using hl)
    unfold fallenL unlike
    rcases h1 with rfl | rfl <;> rcases h2 with rfl | rfl <;> simp <;> omega
  | [], _ :: _, _, _, _, _, hl => by simp at hl
  | _ :: _, [], _, _, _, _, hl => by simp at hl
theorem pow2_odd (n : Nat) : ((2 : Int) ^ (n + 1) - 1) % 2 = 1 ∧ ((2 : Int) ^ (n + 1) - 1) / 2 = 2 ^ n - 1 := by
  have e : (2 : Int) ^ (n + 1) = 2 * 2 ^ n := by rw [Int.pow_succ]; omega
  omega
/-- all ones up to the last unlike bit: the new ones -/
theorem turned_ones : ∀ (as bs : List Int) (n : Nat), as.length = bs.length → unlike as bs ≤ n → turned as bs (2 ^ n - 1) = bs
  | [], [], _, _, _ => rfl
  | a :: as, b :: bs, n, h, hu => by
    have h' : as.length = bs.length := by simpa using h
    unfold unlike at hu
    unfold turned
    split
    · rename_i e
      rw [if_pos e] at hu
      rw [turned_ones as bs n h' (by omega), e]
    · rename_i e
      rw [if_neg e] at hu
      obtain ⟨k, rfl⟩ : ∃ k, n = k + 1 := ⟨n - 1, by omega⟩
      obtain ⟨o1, o2⟩ := pow2_odd k
      rw [if_pos o1, o2, turned_ones as bs k h' (by omega)]
  | [], _ :: _, _, h, _ => by simp at h
  | _ :: _, [], _, h, _ => by simp at h
/-- a mask whose first n bits are 0, where at most n bits are unlike: nothing turns -/
theorem turned_beyond : ∀ (as bs : List Int) (n : Nat), as.length = bs.length → unlike as bs ≤ n → turned as bs (2 ^ n) = as
  | [], [], _, _, _ => rfl
  | a :: as, b :: bs, n, h, hu => by
    have h' : as.length = bs.length := by simpa using h
    unfold unlike at hu
    unfold turned
    split
    · rename_i e
      rw [if_pos e] at hu
      rw [turned_beyond as bs n h' (by omega)]
    · rename_i e
      rw [if_neg e] at hu
      obtain ⟨k, rfl⟩ : ∃ k, n = k + 1 := ⟨n - 1, by omega⟩
      have e1 : (2 : Int) ^ (k + 1) = 2 * 2 ^ k := by rw [Int.pow_succ]; omega
      have e2 : ((2 : Int) ^ (k + 1)) % 2 = 0 := by omega
      have e3 : ((2 : Int) ^ (k + 1)) / 2 = 2 ^ k := by omega
      rw [if_neg (by omega), e3, turned_beyond as bs k h' (by omega)]
  | [], _ :: _, _, h, _ => by simp at h
  | _ :: _, [], _, h, _ => by simp at h
/-- 4096 ones: the first 4096 unlike bits turn, the others stay -/
theorem turned_first : ∀ (n m : Nat), turned (List.replicate (n + m) 1) (List.replicate (n + m) 0) (2 ^ n - 1) = List.replicate n 0 ++ List.replicate m 1
  | 0, m => by
    have e : ((2 : Int) ^ 0 - 1) = 0 := rfl
    rw [e, Nat.zero_add, turned_zero _ _ (by simp)]
    simp
  | n + 1, m => by
    have e : n + 1 + m = (n + m) + 1 := by omega
    rw [e, List.replicate_succ, List.replicate_succ, List.replicate_succ]
    unfold turned
    obtain ⟨o1, o2⟩ := pow2_odd n
    rw [if_neg (by decide), if_pos o1, o2, turned_first n m]
    rfl
theorem fold_bound : ∀ (l : List Int) (n : Int), Bit l → 0 ≤ n → 0 ≤ l.foldl (fun n b => 2 * n + b) n ∧ l.foldl (fun n b => 2 * n + b) n + 1 ≤ (n + 1) * 2 ^ l.length
  | [], n, _, h => by simp [h]
  | b :: l, n, hb, h => by
    have h1 := hb b List.mem_cons_self
    have h2 : Bit l := fun x hx => hb x (List.mem_cons_of_mem _ hx)
    obtain ⟨i1, i2⟩ := fold_bound l (2 * n + b) h2 (by omega)
    refine ⟨i1, ?_⟩
    rw [List.foldl_cons, List.length_cons, Int.pow_succ]
    have p : (0 : Int) ≤ 2 ^ l.length := Int.pow_nonneg (by decide)
    have m : (2 * n + b + 1) * 2 ^ l.length ≤ (2 * (n + 1)) * 2 ^ l.length := Int.mul_le_mul_of_nonneg_right (by omega) p
    have e : (2 * (n + 1)) * 2 ^ l.length = (n + 1) * (2 ^ l.length * 2) := by
      rw [Int.mul_comm 2 (n + 1), Int.mul_assoc, Int.mul_comm 2]
    omega
theorem octOf_bound {l : List Int} (h : Bit l) (hl : l.length ≤ 8) : 0 ≤ octOf l ∧ octOf l < 256 := by
  obtain ⟨h1, h2⟩ := fold_bound l 0 h (Int.le_refl 0)
  have p : (2 : Int) ^ l.length ≤ 2 ^ 8 := by
    have q : (2 : Nat) ^ l.length ≤ 2 ^ 8 := Nat.pow_le_pow_right (by decide) hl
    exact_mod_cast q
  have e : (2 : Int) ^ 8 = 256 := rfl
  unfold octOf
  omega
theorem Bit.take {l : List Int} (h : Bit l) (n : Nat) : Bit (l.take n) := fun x hx => h x (List.mem_of_mem_take hx)
theorem Bit.drop {l : List Int} (h : Bit l) (n : Nat) : Bit (l.drop n) := fun x hx => h x (List.mem_of_mem_drop hx)
end BM
/-! bits of octets and the operators on bits -/
namespace BM
/-- bit k of a number, as an int -/
def tb (n k : Nat) : Int := if n.testBit k then 1 else 0
theorem tb_div (n k : Nat) : ((n : Int) / ((2 ^ k : Nat) : Int)) % 2 = tb n k := by
  unfold tb
  rw [Nat.testBit_eq_decide_div_mod_eq]
  have e : ((n : Int) / ((2 ^ k : Nat) : Int)) % 2 = ((n / 2 ^ k % 2 : Nat) : Int) := by simp
  rw [e]
  by_cases h : n / 2 ^ k % 2 = 1
  · rw [h]
    simp
  · have h0 : n / 2 ^ k % 2 = 0 := by omega
    rw [h0]
    simp
theorem bitsOf_tb (n : Nat) : bitsOf (n : Int) = [tb n 7, tb n 6, tb n 5, tb n 4, tb n 3, tb n 2, tb n 1, tb n 0] := by
  have h7 := tb_div n 7
  have h6 := tb_div n 6
  have h5 := tb_div n 5
  have h4 := tb_div n 4
  have h3 := tb_div n 3
  have h2 := tb_div n 2
  have h1 := tb_div n 1
  have h0 := tb_div n 0
  unfold bitsOf
  rw [← h7, ← h6, ← h5, ← h4, ← h3, ← h2, ← h1, ← h0]
  rfl
theorem tb_bit (n k : Nat) : tb n k = 0 ∨ tb n k = 1 := by
  unfold tb
  split
  · exact .inr rfl
  · exact .inl rfl
theorem tb_and (a b k : Nat) : tb (a &&& b) k = if tb a k = 1 ∧ tb b k = 1 then 1 else 0 := by
  unfold tb
  rw [Nat.testBit_and]
  cases a.testBit k <;> cases b.testBit k <;> simp
theorem tb_or (a b k : Nat) : tb (a ||| b) k = if tb a k = 1 ∨ tb b k = 1 then 1 else 0 := by
  unfold tb
  rw [Nat.testBit_or]
  cases a.testBit k <;> cases b.testBit k <;> simp
theorem tb_xor (a b k : Nat) : tb (a ^^^ b) k = if tb a k = tb b k then 0 else 1 := by
  unfold tb
  rw [Nat.testBit_xor]
  cases a.testBit k <;> cases b.testBit k <;> simp
theorem le_app : ∀ {a b c d : List Int}, Le a b → Le c d → Le (a ++ c) (b ++ d)
  | [], [], _, _, _, h => h
  | _ :: _, _ :: _, _, _, h, h' => ⟨h.1, le_app h.2 h'⟩
  | [], _ :: _, _, _, h, _ => h.elim
  | _ :: _, [], _, _, h, _ => h.elim
theorem and_le (a b : Nat) : Le (bitsOf ((a &&& b : Nat) : Int)) (bitsOf (a : Int)) := by
  have key : ∀ k, tb (a &&& b) k ≤ tb a k := by
    intro k
    rw [tb_and]
    have := tb_bit a k
    split <;> omega
  rw [bitsOf_tb, bitsOf_tb]
  exact ⟨key 7, key 6, key 5, key 4, key 3, key 2, key 1, key 0, True.intro⟩
theorem le_or (a b : Nat) : Le (bitsOf (a : Int)) (bitsOf ((a ||| b : Nat) : Int)) := by
  have key : ∀ k, tb a k ≤ tb (a ||| b) k := by
    intro k
    rw [tb_or]
    have := tb_bit a k
    split <;> omega
  rw [bitsOf_tb, bitsOf_tb]
  exact ⟨key 7, key 6, key 5, key 4, key 3, key 2, key 1, key 0, True.intro⟩
theorem bits255 : bitsOf 255 = [1, 1, 1, 1, 1, 1, 1, 1] := by decide
theorem le_255 (o : Int) : Le (bitsOf o) (bitsOf 255) := by
  have key : ∀ b ∈ bitsOf o, b ≤ 1 := fun b hb => by
    have := bitsOf_bit hb
    omega
  rw [bits255]
  unfold bitsOf at key ⊢
  exact ⟨key _ (by simp), key _ (by simp), key _ (by simp), key _ (by simp), key _ (by simp), key _ (by simp), key _ (by simp), key _ (by simp), True.intro⟩
/-- lists of octets, pair by pair -/
theorem bitsL_le : ∀ {xs ys : List Int}, xs.length = ys.length → (∀ p ∈ xs.zip ys, Le (bitsOf p.1) (bitsOf p.2)) → Le (bitsL xs) (bitsL ys)
  | [], [], _, _ => True.intro
  | x :: xs, y :: ys, hl, h => by
    rw [bitsL_cons, bitsL_cons]
    exact le_app (h (x, y) (by simp)) (bitsL_le (by simpa using hl) fun p hp => h p (by simp [hp]))
  | [], _ :: _, hl, _ => by simp at hl
  | _ :: _, [], hl, _ => by simp at hl
theorem nat_of {o : Int} (h : 0 ≤ o) : ∃ n : Nat, o = n := ⟨o.toNat, by omega⟩
theorem and_oct {a b : Nat} (ha : a ≤ 255) : (a &&& b) ≤ 255 := Nat.le_trans Nat.and_le_left ha
theorem or_oct {a b : Nat} (ha : a ≤ 255) (hb : b ≤ 255) : (a ||| b) ≤ 255 := by
  have h : (a ||| b) < 2 ^ 8 := Nat.or_lt_two_pow (by omega) (by omega)
  omega
theorem xor_oct {a b : Nat} (ha : a ≤ 255) (hb : b ≤ 255) : (a ^^^ b) ≤ 255 := by
  have h : (a ^^^ b) < 2 ^ 8 := Nat.xor_lt_two_pow (by omega) (by omega)
  omega
/-- one more bit -/
theorem fallen_snoc : ∀ (as bs : List Int) (k x y : Int), as.length = bs.length → fallenL k (as ++ [x]) (bs ++ [y]) = fallenL k as bs ++ (if x = 1 ∧ y = 0 then [k + (as.length : Int)] else [])
  | [], [], k, x, y, _ => by
    simp [fallenL]
  | a :: as, b :: bs, k, x, y, h => by
    have i := fallen_snoc as bs (k + 1) x y (by simpa using h)
    rw [List.cons_append, List.cons_append]
    unfold fallenL
    have e : k + 1 + (as.length : Int) = k + ((a :: as).length : Int) := by
      rw [List.length_cons]
      omega
    rw [e] at i
    split <;> simp [i]
  | [], _ :: _, _, _, _, h => by simp at h
  | _ :: _, [], _, _, _, h => by simp at h
end BM
/-! bits that are 1, bits that are unlike, one bit turned -/
namespace BM
/-- the indices of the ones, from k on -/
def onesL : Int → List Int → List Int
  | _, [] => []
  | k, b :: r => if b = 1 then k :: onesL (k + 1) r else onesL (k + 1) r
/-- the indices of the unlike ones -/
def diffL : Int → List Int → List Int → List Int
  | k, a :: as, b :: bs => if a = b then diffL (k + 1) as bs else k :: diffL (k + 1) as bs
  | _, _, _ => []
theorem onesL_app : ∀ (a b : List Int) (k : Int), onesL k (a ++ b) = onesL k a ++ onesL (k + (a.length : Int)) b
  | [], b, k => by simp [onesL]
  | x :: a, b, k => by
    have e : k + ((x :: a).length : Int) = k + 1 + (a.length : Int) := by simp; omega
    rw [List.cons_append, onesL, onesL, onesL_app a b (k + 1), e]
    split <;> simp
theorem onesL_snoc (a : List Int) (x : Int) : onesL 0 (a ++ [x]) = onesL 0 a ++ (if x = 1 then [(a.length : Int)] else []) := by
  rw [onesL_app]
  simp [onesL]
theorem onesL_len : ∀ (a : List Int) (k : Int), (onesL k a).length ≤ a.length
  | [], k => by simp [onesL]
  | x :: a, k => by
    have := onesL_len a (k + 1)
    rw [onesL]
    split <;> simp <;> omega
/-- of two bits -/
theorem ones_of {f : Int → Int → Int} (P : List Int → List Int → Int → List Int) (c : Int → Int → Prop) [∀ a b, Decidable (c a b)] (h0 : ∀ k, P [] [] k = []) (h1 : ∀ a as b bs k, P (a :: as) (b :: bs) k = if c a b then k :: P as bs (k + 1) else P as bs (k + 1))
    (h : ∀ a b, (a = 0 ∨ a = 1) → (b = 0 ∨ b = 1) → (f a b = 1 ↔ c a b)) : ∀ (as bs : List Int) (k : Int), as.length = bs.length → Bit as → Bit bs → onesL k (List.zipWith f as bs) = P as bs k
  | [], [], k, _, _, _ => by simp [onesL, h0]
  | [], _ :: _, k, e, _, _ => by simp at e
  | _ :: _, [], k, e, _, _ => by simp at e
  | a :: as, b :: bs, k, e, ha, hb => by
    have r := ones_of P c h0 h1 h as bs (k + 1) (by simpa using e) (fun x hx => ha x (List.mem_cons_of_mem _ hx)) (fun x hx => hb x (List.mem_cons_of_mem _ hx))
    have q := h a b (ha a (List.mem_cons_self ..)) (hb b (List.mem_cons_self ..))
    rw [List.zipWith_cons_cons, onesL, h1, r]
    by_cases z : c a b
    · rw [if_pos z, if_pos (q.mpr z)]
    · rw [if_neg z, if_neg (fun y => z (q.mp y))]
/-- the bits of two lists of octets, put together -/
theorem bitsL_both {g : Int → Int → Int} {f : Int → Int → Int} (h : ∀ x y, 0 ≤ x ∧ x ≤ 255 → 0 ≤ y ∧ y ≤ 255 → bitsOf (g x y) = List.zipWith f (bitsOf x) (bitsOf y)) :
    ∀ xs ys : List Int, Oct xs → Oct ys → bitsL ((xs.zip ys).map fun p => g p.1 p.2) = List.zipWith f (bitsL xs) (bitsL ys)
  | [], ys, _, _ => by simp [bitsL]
  | x :: xs, [], _, _ => by simp [bitsL]
  | x :: xs, y :: ys, hx, hy => by
    have r := bitsL_both h xs ys (fun o ho => hx o (List.mem_cons_of_mem _ ho)) (fun o ho => hy o (List.mem_cons_of_mem _ ho))
    have q := h x y (hx x (List.mem_cons_self ..)) (hy y (List.mem_cons_self ..))
    rw [List.zip_cons_cons, List.map_cons, bitsL_cons, bitsL_cons, bitsL_cons, r, q, List.zipWith_append (by rw [bitsOf_len, bitsOf_len])]
/-- where lists part -/
theorem diff_at : ∀ (as bs : List Int) (k p : Int) (rest : List Int), as.length = bs.length → diffL k as bs = p :: rest →
    ∃ (pre : List Int) (x y : Int) (as' bs' : List Int), as = pre ++ x :: as' ∧ bs = pre ++ y :: bs' ∧ x ≠ y ∧ p = k + (pre.length : Int) ∧ rest = diffL (p + 1) as' bs' ∧ as'.length = bs'.length ∧
      ∀ m, turned as bs m = pre ++ (if m % 2 = 1 then y else x) :: turned as' bs' (m / 2)
  | [], _, k, p, rest, _, h => by simp [diffL] at h
  | _ :: _, [], k, p, rest, e, h => by simp at e
  | a :: as, b :: bs, k, p, rest, e, h => by
    rw [diffL] at h
    by_cases z : a = b
    · rw [if_pos z] at h
      obtain ⟨pre, x, y, as', bs', h1, h2, h3, h4, h5, h6, h7⟩ := diff_at as bs (k + 1) p rest (by simpa using e) h
      refine ⟨a :: pre, x, y, as', bs', by rw [h1]; rfl, by rw [h2, z]; rfl, h3, by simp; omega, h5, h6, fun m => ?_⟩
      rw [turned, if_pos z, h7 m]
      rfl
    · rw [if_neg z] at h
      obtain ⟨rfl, rfl⟩ := List.cons.inj h
      refine ⟨[], a, b, as, bs, rfl, rfl, z, by simp, rfl, by simpa using e, fun m => ?_⟩
      rw [turned, if_neg z]
      rfl
theorem diff_nil : ∀ (as bs : List Int) (k : Int), as.length = bs.length → diffL k as bs = [] → as = bs
  | [], [], k, _, _ => rfl
  | [], _ :: _, k, e, h => by simp at e
  | _ :: _, [], k, e, h => by simp at e
  | a :: as, b :: bs, k, e, h => by
    rw [diffL] at h
    by_cases z : a = b
    · rw [if_pos z] at h
      rw [z, diff_nil as bs (k + 1) (by simpa using e) h]
    · rw [if_neg z] at h
      cases h
theorem turned_same : ∀ (as : List Int) (m : Int), turned as as m = as
  | [], m => by simp [turned]
  | a :: as, m => by rw [turned, if_pos rfl, turned_same as m]
/-- the j-th bit of an octet -/
theorem bit_at : ∀ o : Nat, o < 256 → ∀ j : Nat, j < 8 → (bitsOf (o : Int))[j]? = some (((o &&& (128 / 2 ^ j)) / (128 / 2 ^ j) : Nat) : Int) := by decide +kernel
theorem bit_on : ∀ o : Nat, o < 256 → ∀ j : Nat, j < 8 → (o &&& (128 / 2 ^ j) ≠ 0 ↔ (bitsOf (o : Int))[j]? = some 1) := by decide +kernel
theorem bit_turn : ∀ o : Nat, o < 256 → ∀ j : Nat, j < 8 → o ^^^ (128 / 2 ^ j) < 256 ∧ bitsOf ((o ^^^ (128 / 2 ^ j) : Nat) : Int) = (bitsOf (o : Int)).set j (1 - (bitsOf (o : Int)).getD j 0) := by decide +kernel
theorem bitsL_get : ∀ (os : List Int) (i j : Nat), j < 8 → (bitsL os)[8 * i + j]? = (os[i]?).bind fun o => (bitsOf o)[j]?
  | [], i, j, _ => by simp [bitsL]
  | o :: os, 0, j, h => by
    rw [bitsL_cons, Nat.mul_zero, Nat.zero_add, List.getElem?_append_left (by rw [bitsOf_len]; exact h)]
    simp
  | o :: os, i + 1, j, h => by
    have e : 8 * (i + 1) + j = 8 + (8 * i + j) := by omega
    rw [bitsL_cons, e, List.getElem?_append_right (by rw [bitsOf_len]; omega), bitsOf_len, Nat.add_sub_cancel_left, bitsL_get os i j h]
    simp
theorem bitsL_set : ∀ (os : List Int) (i j : Nat) (o o' : Int) (b : Int), j < 8 → os[i]? = some o → bitsOf o' = (bitsOf o).set j b → bitsL (os.set i o') = (bitsL os).set (8 * i + j) b
  | [], i, j, o, o', b, _, h, _ => by simp at h
  | x :: os, 0, j, o, o', b, hj, h, q => by
    have e : x = o := by simpa using h
    subst e
    rw [List.set_cons_zero, bitsL_cons, bitsL_cons, q, Nat.mul_zero, Nat.zero_add, List.set_append_left _ _ (by rw [bitsOf_len]; exact hj)]
  | x :: os, i + 1, j, o, o', b, hj, h, q => by
    have e : 8 * (i + 1) + j = 8 + (8 * i + j) := by omega
    have h' : os[i]? = some o := by simpa using h
    rw [List.set_cons_succ, bitsL_cons, bitsL_cons, bitsL_set os i j o o' b hj h' q, e, List.set_append_right _ _ (by rw [bitsOf_len]; omega), bitsOf_len, Nat.add_sub_cancel_left]
end BM
/-! f'{n:b}', n an octet -/
namespace PySem.W
open PySem PySem.Calls PyProof.Rows
open Builtin Builtin.Str Builtin.Int Builtin.Float
/-- the binary text of n -/
def binT (n : Nat) : PySem.Str := ⟨((Nat.toDigits 2 n).map Char.toNat).toArray⟩
theorem binT_len : ∀ n : Nat, n < 256 → (binT n).length ≤ 8 := by decide +kernel
theorem meets_bin' {spec : PySem.Str} {f : FormatSpec} (n : Nat) (hn : n < 256) (t u : Tok) (hne : (spec.length == 0) = false)
    (hasc : ((spec.cps.toList.drop 1).any (· ≥ 128) || (spec.cps.getD 0 0 ≥ 128 && !([60, 62, 61, 94] : List Nat).contains (spec.cps.getD 1 0))) = false)
    (hp : parseFormatSpec spec.cps.toList "int" 62 = .ok f) (hf : f = { align := 62, type := some 98 }) :
    Meets (Builtin.«int.__format__» ⟨[.int (n : Int) t, .str spec u], []⟩) (fun _ R s => ∀ t' k, R (.ok (.ret (.str (binT n) t'))) { s with toks := k }) := by
  apply KPc.meets_of
  intro prog w A s Q E h
  unfold Builtin.«int.__format__»
  simp only [selfAndOne, noKeywords, Int.intOfSelf, asInt?, asStr?, List.isEmpty_nil, if_true, pure_bind, bind_pure, bind_assoc, hne, hasc, Bool.false_eq_true, if_false,
    show (Value.str spec u == Value.none) = false from rfl]
  refine wpAny_bind (wpAny_typeNameOf (T := "str") (typeIs_str _ _ _) (by decide) fun _ => ?_)
  refine wpAny_bind (wpAny_typeNameOfCut_int ?_)
  simp only [hp]
  have hty : f.type = some 98 := by rw [hf]
  simp only [hty, Option.getD_some]
  rw [if_pos (by decide)]
  have hpr : f.precision = none := by rw [hf]
  have hz : f.noNeg0 = false := by rw [hf]
  have hal : f.alt = false := by rw [hf]
  have hw : f.width.getD 0 = 0 := by rw [hf]; rfl
  clear hp hasc hne
  show wpAny _ _ (if _ then _ else _) _ _ _
  rw [if_neg (by simp [hpr])]
  show wpAny _ _ (if _ then _ else _) _ _ _
  rw [if_neg (by simp [hz])]
  show wpAny _ _ (if _ then _ else _) _ _ _
  rw [if_neg (by decide)]
  show wpAny _ _ (if _ then _ else _) _ _ _
  rw [if_neg (by decide)]
  show wpAny _ _ (if _ then _ else _) _ _ _
  rw [if_neg (by omega)]
  refine KXf.ret_text (T := binT n) ?_ ?_ h
  · clear h
    subst hf
    clear hty hpr hz hal hw
    revert n
    decide +kernel
  · clear h
    subst hf
    clear hty hpr hz hal hw
    revert n
    decide +kernel
/-- {e:b}, a field of an octet -/
theorem bin_field {prog : Program} {w : World} {A : Around} {E : Value → Shared → Prop} {s : Shared} {n : Nat} {t : Tok} {Q : Value → Shared → Prop} (hn : n < 256) (h : ∀ t' k, Q (.str (binT n) t') { s with toks := k }) :
    wpAny (model prog w) A (formatField (.int (n : Int) t) "b") Q E s :=
  KXf.field_meets (by decide) (fun s' => typeIs_int s' n t) F.slot_int_format F.entry_int_format F.args_int_format_2 (by decide) (fun u => meets_bin' n hn t u (by decide) (by decide) (by rfl) rfl) h
theorem bin_count : ∀ n : Nat, n < 256 → PySem.Txt.count (binT n) "1" = (([n / 128 % 2, n / 64 % 2, n / 32 % 2, n / 16 % 2, n / 8 % 2, n / 4 % 2, n / 2 % 2, n / 1 % 2].count 1 : Nat) : Int) := by decide +kernel
end PySem.W
namespace VB
open PySem PySem.Spec PyProof.Rows L2
section
variable {X : Cx} {e : Expr} {te : TE} {p1 p2 p3 p4 : Pos} {j : Nat}
/-- f'{e:b}', e an octet -/
def tBin (te : TE) : TE := fun σ H Q => te σ H fun x H1 => ∃ n : Nat, x = .int (n : Int) ∧ n < 256 ∧ Q (.str (PySem.W.binT n)) H1
theorem pe_bin (he : PE X e te) : PE X (.JoinedStr [.FormattedValue e (-1) (some (.JoinedStr [.Constant (.str "b") j p1] p2)) p3] p4) (tBin te) := by
  refine pe_joined1 ⟨fun pins s σ H Q I h => wpAny_FormattedValue_spec (thn (he.run pins s σ H _ I h) fun v s1 hv => ?_)⟩
  obtain ⟨x, H1, I1, r1, n, rfl, hn, q⟩ := hv
  obtain ⟨t, rfl⟩ := r1
  refine thn ((pe_joined1 (pos := p2) (pe_str (x := "b") (j := j) (pos := p1))).run pins s1 σ H1 (fun y H2 => y = .str "b" ∧ H2 = H1) I1 ⟨rfl, rfl⟩) fun w s2 hw => ?_
  obtain ⟨y, H2, I2, r2, rfl, rfl⟩ := hw
  obtain ⟨t2, rfl⟩ := r2
  exact ⟨_, _, rfl, PySem.W.bin_field hn fun t' k => ⟨.str (PySem.W.binT n), H2, I2.tok _, ⟨_, rfl⟩, q⟩⟩
end
end VB
/-! zip of two sequences, each a list or a tuple -/
namespace VB
open PySem PySem.Spec PyProof.Rows L2
/-- a list (false) or a tuple (true) at l -/
def Sq (t : Bool) (h : Heap) (l : Addr) (xs : Array Value) : Prop := match t with
  | false => h.IsList l xs
  | true => h.IsTuple l xs
/-- its iterator at i, at the k-th place -/
def Si (t : Bool) (h : Heap) (i l : Addr) (k : Nat) : Prop := match t with
  | false => h.IsListIter i l k
  | true => h.IsTupleIter i l k
section
variable {t u : Bool} {h h' : Heap} {i l b : Addr} {k : Nat} {xs ys : Array Value}
theorem Sq.ext (x : Sq t h l xs) (e : Heap.ExtBut b h h') (n : l ≠ b) : Sq t h' l xs := by
  cases t with
  | false => exact Heap.IsList.extBut (show h.IsList l xs from x) e n
  | true => exact Heap.IsTuple.extBut (show h.IsTuple l xs from x) e n
theorem Si.ext (x : Si t h i l k) (e : Heap.ExtBut b h h') (n : i ≠ b) : Si t h' i l k := by
  cases t with
  | false => exact Heap.IsListIter.extBut (show h.IsListIter i l k from x) e n
  | true => exact Heap.IsTupleIter.extBut (show h.IsTupleIter i l k from x) e n
theorem Sq.psh (x : Sq t h l xs) (o : Obj) : Sq t (h.push o) l xs := by
  cases t with
  | false => exact Heap.IsList.push (show h.IsList l xs from x) o
  | true => exact Heap.IsTuple.push (show h.IsTuple l xs from x) o
theorem Si.stay (x : Si t h i l k) (e : ∀ o, h.get? i = some o → h'.get? i = some o) : Si t h' i l k := by
  cases t with
  | false => exact Heap.IsListIter.at (show h.IsListIter i l k from x) e
  | true => exact Heap.IsTupleIter.at (show h.IsTupleIter i l k from x) e
theorem Si.obj (x : Si t h i l k) : ∃ o, h.get? i = some o ∧ ∀ v, o.data ≠ .cell v := by
  cases t with
  | false =>
    obtain ⟨o, e, _, d⟩ := (show h.IsListIter i l k from x)
    exact ⟨o, e, fun v q => by rw [d] at q; cases q⟩
  | true =>
    obtain ⟨o, e, _, d⟩ := (show h.IsTupleIter i l k from x)
    exact ⟨o, e, fun v q => by rw [d] at q; cases q⟩
end
section
variable {prog : Program} {w : World} {A : Around} {E : Value → Shared → Prop} {s : Shared} {t u : Bool}
  {z T1 T2 i1 i2 l1 l2 : Addr} {k1 k2 : Nat} {xs ys : Array Value} {x y c d : Value}
theorem draw_item {it l : Addr} {k : Nat} {Q : Value → Shared → Prop} (hi : Si t s.heap it l k) (hl : Sq t s.heap l xs)
    (hx : xs[k]? = some x) (hq : ∀ h', Si t h' it l (k + 1) → Heap.SameBut it s.heap h' → Q x { s with heap := h' }) :
    wpAny (model prog w) A (Builtin.SmallTypes.nextOf (.ref it)) Q E s := by
  cases t with
  | false => exact wpAny_nextOf_list_item (show s.heap.IsListIter it l k from hi) (show s.heap.IsList l xs from hl) hx hq
  | true => exact RZ.nextOf_tuple_item (show s.heap.IsTupleIter it l k from hi) (show s.heap.IsTuple l xs from hl) hx hq
theorem draw_end {it l : Addr} {k : Nat} {Q : Value → Shared → Prop} (hh : A.handled = none) (hi : Si t s.heap it l k)
    (hl : Sq t s.heap l xs) (hx : xs[k]? = none)
    (he : ∀ h' e, Heap.ExtBut it s.heap h' → (∃ o, h'.get? e = some o ∧ o.cls = .type "StopIteration") → E (.ref e) { s with heap := h' }) :
    wpAny (model prog w) A (Builtin.SmallTypes.nextOf (.ref it)) Q E s := by
  cases t with
  | false => exact wpAny_nextOf_list_end hh (show s.heap.IsListIter it l k from hi) (show s.heap.IsList l xs from hl) hx he
  | true => exact RZ.nextOf_tuple_end hh (show s.heap.IsTupleIter it l k from hi) (show s.heap.IsTuple l xs from hl) hx he

/-- what a turn of the zip object leaves -/
structure ZTurn (t u : Bool) (h h' : Heap) (z T1 T2 i1 i2 l1 l2 : Addr) (k1 k2 : Nat) (x y : Value) : Prop where
  zip : IsZip h' z T1 T2 (rawInt h.objs.size)
  out : IsPair h' T2 x y
  it1 : Si t h' i1 l1 (k1 + 1)
  it2 : Si u h' i2 l2 (k2 + 1)
  new : IsPair h' h.objs.size x y
  size : h'.objs.size = h.objs.size + 1
  keep : ∀ b o, b ≠ z → b ≠ T2 → b ≠ i1 → b ≠ i2 → h.get? b = some o → h'.get? b = some o

theorem zmix_item {Q : Value → Shared → Prop} (D : ZipApart z T1 T2 i1 i2 l1 l2) (hz : IsZip s.heap z T1 T2 .none)
    (h1 : IsPair s.heap T1 (.ref i1) (.ref i2)) (h2 : IsPair s.heap T2 c d) (a1 : Si t s.heap i1 l1 k1) (a2 : Si u s.heap i2 l2 k2)
    (b1 : Sq t s.heap l1 xs) (b2 : Sq u s.heap l2 ys) (hx : xs[k1]? = some x) (hy : ys[k2]? = some y)
    (hq : ∀ h', ZTurn t u s.heap h' z T1 T2 i1 i2 l1 l2 k1 k2 x y → Q (.ref s.heap.objs.size) { s with heap := h' }) :
    wpAny (model prog w) A (Builtin.«zip.__next__» ⟨[.ref z], []⟩) (fun fin s' => ∃ v, fin = .done (.ret v) ∧ Q v s') E s := by
  show wpAny _ _ (field (.ref z) 2 >>= _) _ _ _
  refine wpAny_bind (wpAny_field hz rfl (x := .bool false) rfl ?_)
  show wpAny _ _ (field (.ref z) 3 >>= _) _ _ _
  refine wpAny_bind (wpAny_field hz rfl (x := .ref T1) rfl ?_)
  refine wpAny_bind (wpAny_seqItems h1 rfl ?_)
  show wpAny _ _ (Builtin.SmallTypes.ownedTupleIsFree (.ref z) >>= _) _ _ _
  refine wpAny_bind ?_
  unfold Builtin.SmallTypes.ownedTupleIsFree
  refine wpAny_bind (wpAny_field hz rfl (x := .none) rfl (wpAny_pure ?_))
  simp only [if_true]
  refine wpAny_bind (wpAny_rule ?_)
  refine wpAny_bind (wpAny_field hz rfl (x := .ref T2) rfl ?_)
  refine wpAny_bind (wpAny_setField_rec hz (by simp) ?_)
  intro g1 zg1 s1
  replace zg1 : IsZip g1 z T1 T2 .ellipsis := zg1
  refine wpAny_bind ?_
  simp only [List.zipIdx_cons, List.zipIdx_nil, List.forIn_cons, List.forIn_nil]
  -- the first one's item
  refine wpAny_bind (wpAny_bind (wpAny_onRaise ?_))
  show wpAny _ _ (Builtin.SmallTypes.nextOf (.ref i1) >>= _) _ _ _
  refine wpAny_bind (draw_item (a1.ext s1.extBut D.i1z) (b1.ext s1.extBut D.l1z) hx ?_)
  intro g2 n1 s2
  refine wpAny_pure ?_
  have o2 : IsPair g2 T2 c d := s2.extBut _ _ D.TOi1 (s1.extBut _ _ D.TOz h2)
  refine wpAny_bind (wpAny_seqItems o2 rfl ?_)
  refine wpAny_bind (wpAny_updateSeq_pair o2 ?_)
  intro g3 o3 s3
  replace o3 : IsPair g3 T2 x d := o3
  refine wpAny_bind (wpAny_letGo (wpAny_pure ?_))
  -- the second one's
  refine wpAny_bind (wpAny_bind (wpAny_onRaise ?_))
  show wpAny _ _ (Builtin.SmallTypes.nextOf (.ref i2) >>= _) _ _ _
  refine wpAny_bind (draw_item (((a2.ext s1.extBut D.i2z).ext s2.extBut D.i12.symm).ext s3.extBut D.TOi2.symm)
    (((b2.ext s1.extBut D.l2z).ext s2.extBut D.l2i1).ext s3.extBut D.l2TO) hy ?_)
  intro g4 n2 s4
  refine wpAny_pure ?_
  have o4 : IsPair g4 T2 x d := s4.extBut _ _ D.TOi2 o3
  refine wpAny_bind (wpAny_seqItems o4 rfl ?_)
  refine wpAny_bind (wpAny_updateSeq_pair o4 ?_)
  intro g5 o5 s5
  replace o5 : IsPair g5 T2 x y := o5
  refine wpAny_bind (wpAny_letGo (wpAny_pure (wpAny_pure ?_)))
  -- the pair
  refine wpAny_bind (wpAny_seqItems o5 rfl ?_)
  refine wpAny_bind (wpAny_newTuple ?_)
  have sz : g5.objs.size = s.heap.objs.size := by rw [s5.1, s4.1, s3.1, s2.1, s1.1]
  have z5 : IsZip g5 z T1 T2 .ellipsis :=
    s5.extBut _ _ D.TOz.symm (s4.extBut _ _ D.i2z.symm (s3.extBut _ _ D.TOz.symm (s2.extBut _ _ D.i1z.symm zg1)))
  have kp : ∀ b o, b ≠ z → b ≠ T2 → b ≠ i1 → b ≠ i2 → s.heap.get? b = some o → g5.get? b = some o := by
    intro b o e1 e2 e3 e4 e
    exact s5.extBut _ _ e2 (s4.extBut _ _ e4 (s3.extBut _ _ e2 (s2.extBut _ _ e3 (s1.extBut _ _ e1 e))))
  have m1 : Si t g5 i1 l1 (k1 + 1) := ((n1.ext s3.extBut D.TOi1.symm).ext s4.extBut D.i12).ext s5.extBut D.TOi1.symm
  have m2 : Si u g5 i2 l2 (k2 + 1) := n2.ext s5.extBut D.TOi2.symm
  have zlt : z < g5.objs.size := Heap.lt_size z5
  show wpAny _ _ (Builtin.SmallTypes.ownedTupleHandOut (.ref z) (.ref g5.objs.size) >>= _) _ _ _
  refine wpAny_bind ?_
  unfold Builtin.SmallTypes.ownedTupleHandOut
  have z6 : IsZip (g5.push { cls := .type "tuple", data := .seq #[x, y] }) z T1 T2 .ellipsis := Heap.get?_push_of_some _ z5
  refine wpAny_bind (wpAny_setField_rec z6 (by simp) ?_)
  intro g7 z7 s7
  replace z7 : IsZip g7 z T1 T2 (rawInt g5.objs.size) := z7
  refine wpAny_setField_rec z7 (by simp) ?_
  intro g8 z8 s8
  replace z8 : IsZip g8 z T1 T2 (rawInt g5.objs.size) := z8
  have up : ∀ b o, b ≠ z → g5.get? b = some o → g8.get? b = some o := fun b o n e =>
    s8.extBut _ _ n (s7.extBut _ _ n (Heap.get?_push_of_some _ e))
  have nz : g5.objs.size ≠ z := Nat.ne_of_gt zlt
  have p8 : IsPair g8 g5.objs.size x y := s8.extBut _ _ nz (s7.extBut _ _ nz (Heap.get?_push_size _ rfl))
  have l8 : g8.objs.size = g5.objs.size + 1 := by rw [s8.1, s7.1, Heap.size_push]
  rw [sz] at z8 p8 l8
  refine wpAny_pure ⟨_, rfl, ?_⟩
  show Q (.ref g5.objs.size) _
  rw [sz]
  exact hq g8 ⟨z8, up _ _ D.TOz o5, m1.stay (fun o => up _ o D.i1z), m2.stay (fun o => up _ o D.i2z), p8, l8,
    fun b o e1 e2 e3 e4 e => up b o e1 (kp b o e1 e2 e3 e4 e)⟩

theorem zmix_end {Q : Fin → Shared → Prop} (hh : A.handled = none) (D : ZipApart z T1 T2 i1 i2 l1 l2) (hz : IsZip s.heap z T1 T2 .none)
    (h1 : IsPair s.heap T1 (.ref i1) (.ref i2)) (h2 : IsPair s.heap T2 c d) (a1 : Si t s.heap i1 l1 k1) (a2 : Si u s.heap i2 l2 k2)
    (b1 : Sq t s.heap l1 xs) (b2 : Sq u s.heap l2 ys) (hend : xs[k1]? = none ∨ ys[k2]? = none)
    (he : ∀ h' e, (∀ b o, b ≠ z → b ≠ T2 → b ≠ i1 → b ≠ i2 → s.heap.get? b = some o → h'.get? b = some o) →
      (∃ o, h'.get? e = some o ∧ o.cls = .type "StopIteration") → E (.ref e) { s with heap := h' }) :
    wpAny (model prog w) A (Builtin.«zip.__next__» ⟨[.ref z], []⟩) Q E s := by
  show wpAny _ _ (field (.ref z) 2 >>= _) _ _ _
  refine wpAny_bind (wpAny_field hz rfl (x := .bool false) rfl ?_)
  show wpAny _ _ (field (.ref z) 3 >>= _) _ _ _
  refine wpAny_bind (wpAny_field hz rfl (x := .ref T1) rfl ?_)
  refine wpAny_bind (wpAny_seqItems h1 rfl ?_)
  show wpAny _ _ (Builtin.SmallTypes.ownedTupleIsFree (.ref z) >>= _) _ _ _
  refine wpAny_bind ?_
  unfold Builtin.SmallTypes.ownedTupleIsFree
  refine wpAny_bind (wpAny_field hz rfl (x := .none) rfl (wpAny_pure ?_))
  simp only [if_true]
  refine wpAny_bind (wpAny_rule ?_)
  refine wpAny_bind (wpAny_field hz rfl (x := .ref T2) rfl ?_)
  refine wpAny_bind (wpAny_setField_rec hz (by simp) ?_)
  intro g1 zg1 s1
  replace zg1 : IsZip g1 z T1 T2 .ellipsis := zg1
  refine wpAny_bind ?_
  simp only [List.zipIdx_cons, List.zipIdx_nil, List.forIn_cons, List.forIn_nil]
  refine wpAny_bind (wpAny_bind (wpAny_onRaise ?_))
  show wpAny _ _ (Builtin.SmallTypes.nextOf (.ref i1) >>= _) _ _ _
  cases hx : xs[k1]? with
  | none =>
    refine wpAny_bind (draw_end hh (a1.ext s1.extBut D.i1z) (b1.ext s1.extBut D.l1z) hx ?_)
    rintro g2 e s2 ⟨oe, he1, he2⟩
    have zg2 : IsZip g2 z T1 T2 .ellipsis := s2 _ _ D.i1z.symm zg1
    have ez : e ≠ z := by
      rintro rfl
      rw [zg2] at he1
      cases he1
      simp at he2
    refine wpAny_setField_rec zg2 (by simp) ?_
    intro g3 _ s3
    exact he g3 e (fun b o e1 _ e3 _ q => s3.extBut _ _ e1 (s2 _ _ e3 (s1.extBut _ _ e1 q))) ⟨oe, s3.extBut _ _ ez he1, he2⟩
  | some x =>
    have hy : ys[k2]? = none := by
      rcases hend with q | q
      · rw [hx] at q
        cases q
      · exact q
    refine wpAny_bind (draw_item (a1.ext s1.extBut D.i1z) (b1.ext s1.extBut D.l1z) hx ?_)
    intro g2 n1 s2
    refine wpAny_pure ?_
    have o2 : IsPair g2 T2 c d := s2.extBut _ _ D.TOi1 (s1.extBut _ _ D.TOz h2)
    refine wpAny_bind (wpAny_seqItems o2 rfl ?_)
    refine wpAny_bind (wpAny_updateSeq_pair o2 ?_)
    intro g3 o3 s3
    refine wpAny_bind (wpAny_letGo (wpAny_pure ?_))
    refine wpAny_bind (wpAny_bind (wpAny_onRaise ?_))
    show wpAny _ _ (Builtin.SmallTypes.nextOf (.ref i2) >>= _) _ _ _
    refine wpAny_bind (draw_end hh (((a2.ext s1.extBut D.i2z).ext s2.extBut D.i12.symm).ext s3.extBut D.TOi2.symm)
      (((b2.ext s1.extBut D.l2z).ext s2.extBut D.l2i1).ext s3.extBut D.l2TO) hy ?_)
    rintro g4 e s4 ⟨oe, he1, he2⟩
    have zg4 : IsZip g4 z T1 T2 .ellipsis := s4 _ _ D.i2z.symm (s3.extBut _ _ D.TOz.symm (s2.extBut _ _ D.i1z.symm zg1))
    have ez : e ≠ z := by
      rintro rfl
      rw [zg4] at he1
      cases he1
      simp at he2
    refine wpAny_setField_rec zg4 (by simp) ?_
    intro g5 _ s5
    exact he g5 e (fun b o e1 e2 e3 e4 q => s5.extBut _ _ e1 (s4 _ _ e4 (s3.extBut _ _ e2 (s2.extBut _ _ e3 (s1.extBut _ _ e1 q)))))
      ⟨oe, s5.extBut _ _ ez he1, he2⟩
end
end VB
/-! zip of two sequences, each a list or a tuple: its making, its walk -/
namespace VB
open PySem PySem.Spec PyProof.Rows L2
theorem Sv.inj {X : Cx} {pins : List (Addr × Obj)} {σ : L2.St} {H : Hp} {s : Shared} {t : Bool} {a : Addr} {xs ys : List V}
    (I : Inv X pins σ H s) (h : Sv t X.K H a xs) (h' : Sv t X.K H a ys) : xs = ys := by
  cases t with
  | false => exact I.list_inj (show SqL X.K H a xs from h) (show SqL X.K H a ys from h')
  | true => exact I.tuple_inj (show SqT X.K H a xs from h) (show SqT X.K H a ys from h')
theorem Sv.real {X : Cx} {pins : List (Addr × Obj)} {σ : L2.St} {H : Hp} {s : Shared} {t : Bool} {a : Addr} {xs : List V}
    (I : Inv X pins σ H s) (h : Sv t X.K H a xs) : ∃ its : List Value, Vals xs its ∧ Sq t s.heap a its.toArray ∧ a < s.heap.objs.size := by
  cases t with
  | false =>
    obtain ⟨its, r, p, _⟩ := I.list (show SqL X.K H a xs from h)
    exact ⟨its, r, p.isList, p.lt⟩
  | true =>
    obtain ⟨its, r, p, _⟩ := I.tuple (show SqT X.K H a xs from h)
    obtain ⟨o, ho, _⟩ := id p
    exact ⟨its, r, p, Heap.lt_size ho⟩
section
variable {prog : Program} {w : World} {A : Around} {E : Value → Shared → Prop} {s : Shared} {t u : Bool}
  {z T1 T2 i1 i2 l1 l2 : Addr} {k1 k2 : Nat} {xs ys : Array Value} {x y c d : Value}
theorem zmix_next {Q : Option Value → Shared → Prop} (D : ZipApart z T1 T2 i1 i2 l1 l2) (hz : IsZip s.heap z T1 T2 .none)
    (h1 : IsPair s.heap T1 (.ref i1) (.ref i2)) (h2 : IsPair s.heap T2 c d) (a1 : Si t s.heap i1 l1 k1) (a2 : Si u s.heap i2 l2 k2)
    (b1 : Sq t s.heap l1 xs) (b2 : Sq u s.heap l2 ys) (hx : xs[k1]? = some x) (hy : ys[k2]? = some y)
    (hq : ∀ h', ZTurn t u s.heap h' z T1 T2 i1 i2 l1 l2 k1 k2 x y → Q (some (.ref s.heap.objs.size)) { s with heap := h' }) :
    wpAny (model prog w) A (pyNext (.ref z)) Q E s := by
  have ty : s.TypeIs (.ref z) "zip" := ⟨_, hz, rfl⟩
  unfold pyNext
  refine wpAny_bind (wpAny_attempt ?_)
  refine wpAny_callSpecial?_slot (name := Str.ofString "__next__") ty F.slot_zip_next ?_
  refine wpAny_call_entry F.slot_zip_next ty F.entry_zip_next ?_ (F.args_zip_next_1 _)
  exact zmix_item D hz h1 h2 a1 a2 b1 b2 hx hy fun h' q => wpAny_pure (hq h' q)
theorem zmix_stop {Q : Option Value → Shared → Prop} (hh : A.handled = none) (D : ZipApart z T1 T2 i1 i2 l1 l2) (hz : IsZip s.heap z T1 T2 .none)
    (h1 : IsPair s.heap T1 (.ref i1) (.ref i2)) (h2 : IsPair s.heap T2 c d) (a1 : Si t s.heap i1 l1 k1) (a2 : Si u s.heap i2 l2 k2)
    (b1 : Sq t s.heap l1 xs) (b2 : Sq u s.heap l2 ys) (hend : xs[k1]? = none ∨ ys[k2]? = none)
    (hq : ∀ h', (∀ b o, b ≠ z → b ≠ T2 → b ≠ i1 → b ≠ i2 → s.heap.get? b = some o → h'.get? b = some o) → Q none { s with heap := h' }) :
    wpAny (model prog w) A (pyNext (.ref z)) Q E s := by
  have ty : s.TypeIs (.ref z) "zip" := ⟨_, hz, rfl⟩
  unfold pyNext
  refine wpAny_bind (wpAny_attempt ?_)
  refine wpAny_callSpecial?_slot (name := Str.ofString "__next__") ty F.slot_zip_next ?_
  refine wpAny_call_entry F.slot_zip_next ty F.entry_zip_next ?_ (F.args_zip_next_1 _)
  refine zmix_end hh D hz h1 h2 a1 a2 b1 b2 hend ?_
  rintro h' e kp ⟨o, ho, hc⟩
  refine wpAny_bind (wpAny_isInstance (T := "StopIteration") (b := true) ⟨o, ho, hc⟩ isSubtype_stop ?_)
  exact wpAny_pure (hq _ kp)
end
/-- an iterator over l, new -/
def itO (t : Bool) (l : Addr) : Obj := match t with
  | false => { cls := .type "list_iterator", data := .fields #[.ref l, .int 0 0] }
  | true => { cls := .type "tuple_iterator", data := .fields #[.ref l, .int 0 0] }
section
variable (t u : Bool) (h : Heap) (l1 l2 : Addr)
abbrev zm1 : Heap := h.push (itO t l1)
abbrev zm2 : Heap := (zm1 t h l1).push (itO u l2)
abbrev zm3 : Heap := (zm2 t u h l1 l2).push { cls := .type "tuple", data := .seq #[.ref h.objs.size, .ref (zm1 t h l1).objs.size] }
abbrev zm4 : Heap := (zm3 t u h l1 l2).push { cls := .type "tuple", data := .seq #[.none, .none] }
abbrev zm5 : Heap := (zm4 t u h l1 l2).push { cls := .type "zip", data := .fields #[.none, .bool false, .bool false, .ref (zm2 t u h l1 l2).objs.size, .ref (zm3 t u h l1 l2).objs.size] }
end
theorem meets_zmix (t u : Bool) (l1 l2 : Addr) (xs ys : Array Value) :
    Meets (Builtin.«zip.__new__» ⟨[.type "zip", .ref l1, .ref l2], []⟩) (fun _ R s => Sq t s.heap l1 xs ∧ Sq u s.heap l2 ys ∧
      R (.ok (.ret (.ref (zm4 t u s.heap l1 l2).objs.size))) { s with heap := zm5 t u s.heap l1 l2 }) := by
  refine .of_wp ?_
  rintro prog w A R ⟨hp, g, d, tk, os⟩ ⟨b1, b2, h⟩
  have sub := sub_zip
  have c2 : Sq u (hp.push (itO t l1)) l2 ys := b2.psh _
  cases t with
  | false =>
    have e1 : Heap.IsList (Shared.heap ⟨hp, g, d, tk, os⟩) l1 xs := b1
    cases u with
    | false =>
      have e2 : Heap.IsList (Shared.heap ⟨hp.push { cls := .type "list_iterator", data := .fields #[.ref l1, .int 0 0] }, g, d, tk, os⟩) l2 ys := c2
      wp_walk using wpAny_pyIter_list e1, wpAny_pyIter_list e2
      exact ⟨_, rfl, h⟩
    | true =>
      have e2 : Heap.IsTuple (Shared.heap ⟨hp.push { cls := .type "list_iterator", data := .fields #[.ref l1, .int 0 0] }, g, d, tk, os⟩) l2 ys := c2
      wp_walk using wpAny_pyIter_list e1, wpAny_pyIter_tuple e2
      exact ⟨_, rfl, h⟩
  | true =>
    have e1 : Heap.IsTuple (Shared.heap ⟨hp, g, d, tk, os⟩) l1 xs := b1
    cases u with
    | false =>
      have e2 : Heap.IsList (Shared.heap ⟨hp.push { cls := .type "tuple_iterator", data := .fields #[.ref l1, .int 0 0] }, g, d, tk, os⟩) l2 ys := c2
      wp_walk using wpAny_pyIter_tuple e1, wpAny_pyIter_list e2
      exact ⟨_, rfl, h⟩
    | true =>
      have e2 : Heap.IsTuple (Shared.heap ⟨hp.push { cls := .type "tuple_iterator", data := .fields #[.ref l1, .int 0 0] }, g, d, tk, os⟩) l2 ys := c2
      wp_walk using wpAny_pyIter_tuple e1, wpAny_pyIter_tuple e2
      exact ⟨_, rfl, h⟩
theorem si_new {t : Bool} {h : Heap} {i l : Addr} (e : h.get? i = some (itO t l)) : Si t h i l 0 := by
  cases t with
  | false => exact ⟨_, e, rfl, rfl⟩
  | true => exact ⟨_, e, rfl, rfl⟩
section
variable {prog : Program} {w : World} {A : Around} {E : Value → Shared → Prop} {s : Shared} {t u : Bool}
/-- what zip's call leaves -/
structure ZNew (t u : Bool) (h h' : Heap) (l1 l2 : Addr) : Prop where
  zip : IsZip h' (h.objs.size + 4) (h.objs.size + 2) (h.objs.size + 3) .none
  its : IsPair h' (h.objs.size + 2) (.ref h.objs.size) (.ref (h.objs.size + 1))
  out : IsPair h' (h.objs.size + 3) .none .none
  it1 : Si t h' h.objs.size l1 0
  it2 : Si u h' (h.objs.size + 1) l2 0
  keep : ∀ b o, h.get? b = some o → h'.get? b = some o
theorem call_zmix {l1 l2 : Addr} {xs ys : Array Value} {Q : Value → Shared → Prop} (b1 : Sq t s.heap l1 xs) (b2 : Sq u s.heap l2 ys)
    (hq : ∀ h', ZNew t u s.heap h' l1 l2 → Q (.ref (s.heap.objs.size + 4)) { s with heap := h' }) :
    wpAny (model prog w) A (call (.type "zip") [.ref l1, .ref l2]) Q E s := by
  refine callType_new F.called_zip (by decide) (F.typeCall_zip_2 _ _) (F.newCall_zip_2 _ _) (fun obj => F.args_object_init_3 obj _ _)
    F.entry_zip_new (meets_zmix t u l1 l2 xs ys) ⟨b1, b2, ?_⟩
  have n1 : (zm1 t s.heap l1).objs.size = s.heap.objs.size + 1 := Heap.size_push ..
  have n2 : (zm2 t u s.heap l1 l2).objs.size = s.heap.objs.size + 2 := by rw [Heap.size_push, n1]
  have n3 : (zm3 t u s.heap l1 l2).objs.size = s.heap.objs.size + 3 := by rw [Heap.size_push, n2]
  have n4 : (zm4 t u s.heap l1 l2).objs.size = s.heap.objs.size + 4 := by rw [Heap.size_push, n3]
  have f5 : itO t l1 = itO t l1 := rfl
  have nf : ∀ (b : Bool) (l : Addr), (itO b l).isFreed = false := fun b l => by cases b <;> rfl
  have g5 : (zm5 t u s.heap l1 l2).get? (zm4 t u s.heap l1 l2).objs.size = some _ := Heap.get?_push_size _ rfl
  have g4 : (zm5 t u s.heap l1 l2).get? (zm3 t u s.heap l1 l2).objs.size = some _ := Heap.get?_push_of_some _ (Heap.get?_push_size _ rfl)
  have g3 : (zm5 t u s.heap l1 l2).get? (zm2 t u s.heap l1 l2).objs.size = some _ := Heap.get?_push_of_some _ (Heap.get?_push_of_some _ (Heap.get?_push_size _ rfl))
  have g2 : (zm5 t u s.heap l1 l2).get? (zm1 t s.heap l1).objs.size = some (itO u l2) :=
    Heap.get?_push_of_some _ (Heap.get?_push_of_some _ (Heap.get?_push_of_some _ (Heap.get?_push_size _ (nf u l2))))
  have g1 : (zm5 t u s.heap l1 l2).get? s.heap.objs.size = some (itO t l1) :=
    Heap.get?_push_of_some _ (Heap.get?_push_of_some _ (Heap.get?_push_of_some _ (Heap.get?_push_of_some _ (Heap.get?_push_size _ (nf t l1)))))
  show _ ∧ _
  rw [n2, n3, n4] at g5
  rw [n1, n2] at g3
  rw [n3] at g4
  rw [n1] at g2
  rw [n4]
  refine ⟨⟨_, g5, rfl⟩, hq _ ⟨g5, g3, g4, si_new g1, si_new g2, ?_⟩⟩
  intro b o e
  exact Heap.get?_push_of_some _ (Heap.get?_push_of_some _ (Heap.get?_push_of_some _ (Heap.get?_push_of_some _ (Heap.get?_push_of_some _ e))))
end
/-- two sequences as they stand at each turn, the items in new pairs -/
def Itm (t u : Bool) (K : PySem.W.Frag) (a b : Addr) : It :=
  ⟨fun i H => ∃ (xs ys : List V) (x y : V), Sv t K H a xs ∧ Sv u K H b ys ∧ xs[i]? = some x ∧ ys[i]? = some y,
    fun i H v H' => ∃ N x y, v = .ref N ∧ H N = none ∧ H' = upd H N (.tup [x, y]) ∧ (∀ xs, Sv t K H a xs → xs[i]? = some x) ∧ ∀ ys, Sv u K H b ys → ys[i]? = some y,
    fun i H => ∃ xs ys : List V, Sv t K H a xs ∧ Sv u K H b ys ∧ (xs.length ≤ i ∨ ys.length ≤ i)⟩
theorem in5 {a b c d e x : Addr} (h : x ∈ [a, b, c, d, e]) : x = a ∨ x = b ∨ x = c ∨ x = d ∨ x = e := by simpa using h
theorem turn_zmix {P : Program} {w : World} {K : PySem.W.Frag} {t u : Bool} {elts : List Expr} {kk : Nat} {tpos : Pos} {a b z T1 T2 i1 i2 : Addr}
    (D : ZipApart z T1 T2 i1 i2 a b) : Turn P w K (.Tuple elts kk tpos) (Itm t u K a b) [z, T1, T2, i1, i2] z
      (fun i h => IsZip h z T1 T2 .none ∧ IsPair h T1 (.ref i1) (.ref i2) ∧ (∃ x y, IsPair h T2 x y) ∧ Si t h i1 a i ∧ Si u h i2 b i) := by
  refine ⟨by simp, ?_, ?_, ?_, ?_, ?_⟩
  · rintro i h ⟨hz, h1, ⟨x, y, h2⟩, a1, a2⟩ c hc
    rcases in5 hc with rfl | rfl | rfl | rfl | rfl
    · exact ⟨_, hz, fun v q => nomatch q⟩
    · exact ⟨_, h1, fun v q => nomatch q⟩
    · exact ⟨_, h2, fun v q => nomatch q⟩
    · exact a1.obj
    · exact a2.obj
  · rintro i h h' ⟨hz, h1, ⟨x, y, h2⟩, a1, a2⟩ k
    exact ⟨k z (by simp) _ hz, k T1 (by simp) _ h1, ⟨x, y, k T2 (by simp) _ h2⟩, a1.stay fun o q => k i1 (by simp) o q, a2.stay fun o q => k i2 (by simp) o q⟩
  · intro X hP hw hK hc i pins s σ H E I hf st hg
    subst hP hw hK
    obtain ⟨hz, h1, ⟨x0, y0, h2⟩, a1, a2⟩ := st
    obtain ⟨xs, ys, x, y, qx, qy, hx, hy⟩ := hg
    obtain ⟨its, rv, p, _⟩ := qx.real I
    obtain ⟨its2, rv2, p2, _⟩ := qy.real I
    obtain ⟨v1, hv1, r1⟩ := rv.get hx
    obtain ⟨v2, hv2, r2⟩ := rv2.get hy
    have zl : z < s.heap.objs.size := Heap.lt_size hz
    refine zmix_next D hz h1 h2 a1 a2 p p2 (x := v1) (y := v2) (by simpa using hv1) (by simpa using hv2) ?_
    intro g T
    refine ⟨_, rfl, wpAny_letOwnedTupleGo_zip (s := { s with heap := g }) T.zip ?_⟩
    intro g2 z2 sb
    have nN : s.heap.objs.size ≠ z := Nat.ne_of_gt zl
    have pN : g2.get? s.heap.objs.size = some { cls := .type "tuple", data := .seq #[v1, v2] } := (sb.2 _ nN).trans T.new
    have ok : ObjOk X.prog X.w (upd H s.heap.objs.size (.tup [x, y])) g2 s.heap.objs.size (.tup [x, y]) :=
      ⟨by show 2 ≤ sizeLine; decide, [v1, v2], .cons r1 (.cons r2 .nil), ⟨_, pN, rfl, _, rfl⟩⟩
    have J : Inv X pins σ (upd H s.heap.objs.size (.tup [x, y])) { s with heap := g2 } := by
      refine I.turnedNew (t' := s.toks) (ch := [z, T1, T2, i1, i2]) ?_ hf (Nat.le_refl _) ok
      intro c o hb q
      have n : c ≠ z ∧ c ≠ T2 ∧ c ≠ i1 ∧ c ≠ i2 := ⟨fun e => hb (by simp [e]), fun e => hb (by simp [e]), fun e => hb (by simp [e]), fun e => hb (by simp [e])⟩
      exact (sb.2 c n.1).trans (T.keep c o n.1 n.2.1 n.2.2.1 n.2.2.2 q)
    refine ⟨.ref s.heap.objs.size, _, J, rfl, ⟨_, x, y, rfl, I.hok.fresh (Nat.le_refl _), rfl, ?_, ?_⟩, ⟨z2, ?_, ⟨v1, v2, ?_⟩, ?_, ?_⟩, ?_⟩
    · intro l hl
      rw [hl.inj I qx]
      exact hx
    · intro l hl
      rw [hl.inj I qy]
      exact hy
    · exact (sb.2 _ D.TIz).trans (T.keep _ _ D.TIz D.TITO D.TIi1 D.TIi2 h1)
    · exact (sb.2 _ D.TOz).trans T.out
    · exact T.it1.stay fun o q => (sb.2 _ D.i1z).trans q
    · exact T.it2.stay fun o q => (sb.2 _ D.i2z).trans q
    · intro c hcm
      have lt : c < s.heap.objs.size := by
        rcases in5 hcm with rfl | rfl | rfl | rfl | rfl
        · exact zl
        · exact Heap.lt_size h1
        · exact Heap.lt_size h2
        · obtain ⟨_, e, _⟩ := a1.obj
          exact Heap.lt_size e
        · obtain ⟨_, e, _⟩ := a2.obj
          exact Heap.lt_size e
      rw [upd_ne (Nat.ne_of_lt lt)]
      exact (hf c hcm).1
  · intro X hP hw hK hc i pins s σ H E I hf st hg
    subst hP hw hK
    obtain ⟨hz, h1, ⟨x0, y0, h2⟩, a1, a2⟩ := st
    obtain ⟨xs, ys, qx, qy, hend⟩ := hg
    obtain ⟨its, rv, p, _⟩ := qx.real I
    obtain ⟨its2, rv2, p2, _⟩ := qy.real I
    have e1 := rv.length
    have e2 := rv2.length
    have he : its.toArray[i]? = none ∨ its2.toArray[i]? = none := by
      rcases hend with q | q
      · exact .inl (by simp; omega)
      · exact .inr (by simp; omega)
    refine zmix_stop (I.ok.hd hc) D hz h1 h2 a1 a2 p p2 he ?_
    intro g kp
    refine ⟨rfl, I.turnedL (t' := s.toks) (ch := [z, T1, T2, i1, i2]) ?_ hf⟩
    intro c o hb q
    exact kp c o (fun e => hb (by simp [e])) (fun e => hb (by simp [e])) (fun e => hb (by simp [e])) (fun e => hb (by simp [e])) q
  · intro A i s Q E st h
    exact wpAny_pyIter_zip st.1 h
/-- zip(e, e2): lists and tuples, in any mixture -/
def iZm (K : PySem.W.Frag) (ta : TA) : TI := fun σ H R => ta σ H fun vs H1 => ∃ (t u : Bool) (a b : Addr) (xs ys : List V), vs = [.ref a, .ref b] ∧
  Sv t K H1 a xs ∧ Sv u K H1 b ys ∧ R (Itm t u K a b) H1
theorem pi_zm {X : Cx} {K : PySem.W.Frag} {e e2 : Expr} {ta : TA} {p pos tpos : Pos} {elts : List Expr} {kk : Nat} (hg : Gl X "zip") (hm : X.mg "zip" = none) (ha : PA X [e, e2] ta) (hK : X.K = K := by rfl)
    (hs : starEach [e, e2] X.env = (false, eval e X.env) :: starEach [e2] X.env := by rfl) (hpl : (backTo pos (starEach [e2] X.env)).any (·.1) = false := by rfl) :
    PI X (.Tuple elts kk tpos) (.Call (.Name "zip" p) [e, e2] [] pos) (iZm K ta) := by
  subst hK
  constructor
  intro pins s σ H R I h
  refine Call_ (ld_blt I hg hm PyProof.Rows.boot_zip (PyProof.Rows.callWith_type1 (thn (ha.run pos pins s σ H _ I h) ?_) hs hpl))
  rintro us s1 ⟨vs, H1, I1, r1, t, u, a, b, xs, ys, rfl, qx, qy, q⟩
  obtain ⟨w1, w2, rfl, ra, rb⟩ := vals2 r1
  cases (show w1 = Value.ref a from ra)
  cases (show w2 = Value.ref b from rb)
  obtain ⟨its, rv, p1, lt1⟩ := qx.real I1
  obtain ⟨its2, rv2, p2, lt2⟩ := qy.real I1
  refine call_zmix p1 p2 ?_
  intro h' Z
  refine wpAny_pyIter_zip Z.zip ?_
  have I2 : Inv X pins σ H1 { s1 with heap := h' } := I1.kept (t' := s1.toks) Z.keep
  let n := s1.heap.objs.size
  refine ⟨n + 4, [n + 4, n + 2, n + 3, n, n + 1], _, _, H1, rfl, I2, turn_zmix (PySem.W.ktu_apart n a b lt1 lt2), ⟨Z.zip, Z.its, ⟨_, _, Z.out⟩, Z.it1, Z.it2⟩, ?_, q⟩
  intro c hc
  have le : n ≤ c := by
    show s1.heap.objs.size ≤ c
    rcases in5 hc with e | e | e | e | e
    · have e' : @Eq Nat c (s1.heap.objs.size + 4) := e
      omega
    · have e' : @Eq Nat c (s1.heap.objs.size + 2) := e
      omega
    · have e' : @Eq Nat c (s1.heap.objs.size + 3) := e
      omega
    · have e' : @Eq Nat c (s1.heap.objs.size) := e
      omega
    · have e' : @Eq Nat c (s1.heap.objs.size + 1) := e
      omega
  exact I1.fpOk le (I1.hok.fresh le)
/-- the walk -/
theorem walk_zm {t u : Bool} {K : PySem.W.Frag} {a b : Addr} {xs ys : List V} {n : Nat} (hn : n = min xs.length ys.length) :
    Walk (Itm t u K a b) n (fun H => Sv t K H a xs ∧ Sv u K H b ys) (YPair (fun i => xs[i]?) (fun i => ys[i]?)) := by
  subst hn
  refine ⟨?_, ?_, ?_⟩
  · intro i H hi q
    have h1 : i < xs.length := by omega
    have h2 : i < ys.length := by omega
    exact ⟨xs, ys, xs[i], ys[i], q.1, q.2, by simp [h1], by simp [h2]⟩
  · intro H q
    exact ⟨xs, ys, q.1, q.2, by omega⟩
  · rintro i H x H' _ q ⟨N, v, v', h1, h2, h3, h4, h5⟩
    exact ⟨N, v, v', h1, h2, h3, h4 xs q.1, h5 ys q.2⟩
end VB
/-! comprehensions that change nothing, of any values -/
namespace VB
open PySem PySem.Spec PyProof.Rows L2
theorem lc_pureVS {J : It} {G : Hp → Prop} {n j : Nat} {us : List V} {xs : List V} {te : TE} {vs : List Nat} {σ : L2.St} {H1 : Hp} {D : Addr} {Qd : Hp → Prop} (wk : Walk J n G (YAt xs)) (hG : ∀ H, Evl.Ex H1 H → G H)
    (hl : us.length = n) (hz : n ≤ 60000) (hD : H1 D = none) (hw : ∀ x, wipe ((wipe σ vs).set j x) vs = wipe σ vs)
    (hs : ∀ (i : Nat) (x : V) (u : V) (H : Hp) (Q : VK), xs[i]? = some x → us[i]? = some u → Evl.Ex H1 H → (∀ H' : Hp, Evl.Ex H H' → Q u H') → te ((wipe σ vs).set j (some x)) H Q)
    (hd : ∀ H, Evl.Ex H1 H → H D = some (.lst us) → Qd H) :
    ∃ W : Nat → Nat → Hp → Prop, (∃ m, W 0 m (upd H1 D (.lst []))) ∧ ∀ i m H, W i m H →
      (J.stop i H ∧ Qd H) ∨ (J.go i H ∧ ∃ Nx : Hp → Prop, (∀ H', Nx H' → ∃ m', m' < m ∧ W (i + 1) m' H') ∧ ∀ x H', J.yld i H x H' →
        gName j x (wipe σ vs) H' fun σ2 H2 => wipe σ2 vs = wipe σ vs ∧ tYes σ2 H2 fun b H3 =>
        if b = true then te σ2 H3 fun y H4 => ∃ acc, H4 D = some (.lst acc) ∧ acc.length < sizeLine ∧ Nx (upd H4 D (.lst (acc ++ [y]))) else Nx H3) := by
  refine lc_it wk (fun i H' => Evl.Ex H1 H' ∧ i ≤ n ∧ H' D = some (.lst (us.take i))) ⟨Evl.Ex.new hD, Nat.zero_le _, upd_same⟩ (fun i H _ h => hG H h.1) ?_ ?_
  · rintro i x H H' hi ⟨e1, hi2, h1⟩ ⟨rfl, hx⟩
    refine ⟨hw _, ?_⟩
    obtain ⟨u, hu⟩ : ∃ u, us[i]? = some u := ⟨us[i]'(by omega), by simp [show i < us.length by omega]⟩
    show te _ H' _
    refine hs i x u H' _ hx hu e1 fun H'' e2 => ⟨_, e2 D _ h1, ?_, Evl.Ex.mut (e1.trans e2) hD, by omega, ?_⟩
    · rw [List.length_take]
      exact Evl.sz_lt (by omega)
    · rw [upd_same, take_snoc hu]
  · rintro H ⟨e1, _, h1⟩
    refine hd H e1 ?_
    rw [h1, ← hl, List.take_length]
/-- .. over pairs -/
theorem lc_pureVZ {K : PySem.W.Frag} {J : It} {G : Hp → Prop} {n j1 j2 : Nat} {us : List V} {xs ys : Nat → Option V} {te : TE} {vs : List Nat} {σ : L2.St} {H1 : Hp} {D : Addr} {Qd : Hp → Prop} (wk : Walk J n G (YPair xs ys)) (hG : ∀ H, Evl.Ex H1 H → G H)
    (hl : us.length = n) (hz : n ≤ 60000) (hD : H1 D = none) (hw : ∀ x y, wipe (((wipe σ vs).set j1 x).set j2 y) vs = wipe σ vs)
    (hs : ∀ (i : Nat) (x y : V) (u : V) (H : Hp) (Q : VK), xs i = some x → ys i = some y → us[i]? = some u → Evl.Ex H1 H → (∀ H' : Hp, Evl.Ex H H' → Q u H') → te (((wipe σ vs).set j1 (some x)).set j2 (some y)) H Q)
    (hd : ∀ H, Evl.Ex H1 H → H D = some (.lst us) → Qd H) :
    ∃ W : Nat → Nat → Hp → Prop, (∃ m, W 0 m (upd H1 D (.lst []))) ∧ ∀ i m H, W i m H →
      (J.stop i H ∧ Qd H) ∨ (J.go i H ∧ ∃ Nx : Hp → Prop, (∀ H', Nx H' → ∃ m', m' < m ∧ W (i + 1) m' H') ∧ ∀ x H', J.yld i H x H' →
        gTup K 2 (gCons (gName j1) (gCons (gName j2) gNil)) x (wipe σ vs) H' fun σ2 H2 => wipe σ2 vs = wipe σ vs ∧ tYes σ2 H2 fun b H3 =>
        if b = true then te σ2 H3 fun y H4 => ∃ acc, H4 D = some (.lst acc) ∧ acc.length < sizeLine ∧ Nx (upd H4 D (.lst (acc ++ [y]))) else Nx H3) := by
  refine lc_it wk (fun i H' => Evl.Ex H1 H' ∧ i ≤ n ∧ H' D = some (.lst (us.take i))) ⟨Evl.Ex.new hD, Nat.zero_le _, upd_same⟩ (fun i H _ h => hG H h.1) ?_ ?_
  · rintro i v H H' hi ⟨e1, hi2, h1⟩ ⟨T, x, y, rfl, hT, rfl, hx, hy⟩
    have eT := Evl.Ex.new (o := .tup [x, y]) hT
    refine ⟨T, _, rfl, SqT.of upd_same, rfl, x, _, rfl, ⟨y, _, rfl, ?_⟩⟩
    refine ⟨rfl, hw _ _, ?_⟩
    obtain ⟨u, hu⟩ : ∃ u, us[i]? = some u := ⟨us[i]'(by omega), by simp [show i < us.length by omega]⟩
    show te _ _ _
    refine hs i x y u _ _ hx hy hu (e1.trans eT) fun H'' e2 => ⟨_, e2 D _ (eT D _ h1), ?_, Evl.Ex.mut ((e1.trans eT).trans e2) hD, by omega, ?_⟩
    · rw [List.length_take]
      exact Evl.sz_lt (by omega)
    · rw [upd_same, take_snoc hu]
  · rintro H ⟨e1, _, h1⟩
    refine hd H e1 ?_
    rw [h1, ← hl, List.take_length]
/-- a sequence's type -/
theorem Sv.ty {t : Bool} {K : PySem.W.Frag} {H : Hp} {a : Addr} {xs : List V} (h : Sv t K H a xs) : TyX K H (.ref a) (.type (if t then "tuple" else "list")) := by
  cases t with
  | false =>
    have h : SqL K H a xs := h
    rcases h with (h | ⟨o, h⟩) | ⟨o, its, n, h, c, _⟩
    · exact .base (.lst h)
    · exact .base (.frz h)
    · exact .kList h c
  | true =>
    have h : SqT K H a xs := h
    rcases h with (h | ⟨o, h⟩) | ⟨o, its, n, h, c, _⟩
    · exact .base (.tup h)
    · exact .fTuple h
    · exact .kTuple h c
theorem kit_seq (K : PySem.W.Frag) (t : Bool) : PySem.W.kitAny K (.type (if t then "tuple" else "list")) [.type "list", .type "tuple"] = some true := by
  cases t with
  | false => exact kitAny_cons (b := true) (kit_ty (by decide +kernel)) (fun z => nomatch z) (fun _ => rfl)
  | true => exact kitAny_cons (b := false) (kit_ty (by decide +kernel)) (fun _ => kitAny_cons (b := true) (kit_ty (by decide +kernel)) (fun z => nomatch z) (fun _ => rfl)) (fun z => nomatch z)
/-- an int of the module -/
theorem pe_globI {X : Cx} {x : Str} {i : Int} {pos : Pos} (hg : Gl X x) (h : ∃ t, X.mg x = some (.int i t)) (hd : (x == ("__debug__" : Str)) = false := by decide) : PE X (.Name x pos) (tC (.int i)) := by
  obtain ⟨t, h⟩ := h
  exact pe_glob hg h ⟨_, rfl⟩ hd
end VB
/-! what the laws share -/
namespace VB
open PySem PySem.Spec PyProof.Rows L2 BM
section
variable {P : Program} {w : World} {K : PySem.W.Frag} {mg : Str → Option Value} {base : Heap} {f : Addr} {fd : FuncData}
/-- at a: a box: what is left of the digits, whether they count, the seed, the draws so far (below n) -/
def Box (H : Hp) (a : Addr) (n : Int) : Prop := ∃ (d m c : Int) (b : Bool), H a = some (.lst [.int d, .bl b, .int m, .int c]) ∧ 0 ≤ d ∧ 0 ≤ m ∧ m < 2147483629 ∧ 0 ≤ c ∧ c ≤ n
/-- all but what stands at a is as it was -/
def Exb (a : Addr) (H H' : Hp) : Prop := ∀ b o, b ≠ a → H b = some o → H' b = some o
theorem Exb.upd {a : Addr} {H : Hp} {o : HO} : Exb a H (upd H a o) := fun b u n e => by rw [upd_ne n]; exact e
theorem Exb.trans {a : Addr} {H H1 H2 : Hp} (x : Exb a H H1) (y : Exb a H1 H2) : Exb a H H2 := fun b o n e => y b o n (x b o n e)
theorem Exb.of {a : Addr} {H H' : Hp} (x : Evl.Ex H H') : Exb a H H' := fun b o _ e => x b o e
theorem Exb.new {a p : Addr} {H : Hp} {o : HO} (h : H p = none) : Exb a H (L2.upd H p o) := Exb.of (Evl.Ex.new h)
theorem Box.ex {H H' : Hp} {a : Addr} {n : Int} (b : Box H a n) (e : Evl.Ex H H') : Box H' a n := by
  obtain ⟨d, m, c, k, h, r⟩ := b
  exact ⟨d, m, c, k, e _ _ h, r⟩
theorem Box.at {H : Hp} {a p : Addr} {n : Int} (b : Box H a n) (h : H p = none) : p ≠ a := by
  obtain ⟨d, m, c, k, e, r⟩ := b
  rintro rfl
  rw [h] at e
  cases e
theorem Box.le {H : Hp} {a : Addr} {n m : Int} (b : Box H a n) (h : n ≤ m) : Box H a m := by
  obtain ⟨d, m', c, k, e, r1, r2, r3, r4, r5⟩ := b
  exact ⟨d, m', c, k, e, r1, r2, r3, r4, by omega⟩
abbrev ws8 : List Int := [128, 64, 32, 16, 8, 4, 2, 1]
theorem ws8_get {j : Nat} {u : Int} (h : ws8[j]? = some u) : 0 < u ∧ u ≤ 128 := by
  have m := List.mem_of_getElem? h
  simp only [ws8, List.mem_cons, List.not_mem_nil, or_false] at m
  omega
theorem bitsOf_ws (o : Int) : bitsOf o = ws8.map fun u => o / u % 2 := rfl
theorem octetsN_snoc : ∀ (n : Nat) (bs : List Int), octetsN (n + 1) bs = octetsN n bs ++ [octOf ((bs.drop (8 * n)).take 8)]
  | 0, bs => rfl
  | n + 1, bs => by
    show octOf (bs.take 8) :: octetsN (n + 1) (bs.drop 8) = octOf (bs.take 8) :: octetsN n (bs.drop 8) ++ _
    rw [octetsN_snoc n (bs.drop 8), List.drop_drop]
    have e : 8 + 8 * n = 8 * (n + 1) := by omega
    rw [e]
    rfl
theorem octetsN_len : ∀ (n : Nat) (bs : List Int), (octetsN n bs).length = n
  | 0, _ => rfl
  | n + 1, bs => by
    show (octetsN n (bs.drop 8)).length + 1 = _
    rw [octetsN_len n]
theorem cut8 (bs : List Int) (i : Nat) (hi : 8 * i ≤ bs.length) : cutV (IV bs) (some (0 + (i : Int) * 8)) (some (0 + (i : Int) * 8 + 8)) = IV ((bs.drop (8 * i)).take 8) := by
  have e1 : (0 : Int) + (i : Int) * 8 = ((8 * i : Nat) : Int) := by omega
  have e2 : ((8 * i : Nat) : Int) + 8 = ((8 * i + 8 : Nat) : Int) := by omega
  unfold cutV
  rw [e1, e2, HT.sIx_nat, HT.sIx_nat, iv_len, ← List.map_drop, ← List.map_take]
  have e3 : min (8 * i) bs.length = 8 * i := by omega
  rw [e3]
  congr 1
  rw [List.take_eq_take_iff, List.length_drop]
  omega
theorem octOf_snoc (bs : List Int) (b : Int) : octOf (bs ++ [b]) = 2 * octOf bs + b := by
  unfold octOf
  rw [List.foldl_append]
  rfl
theorem if_ne {x y : Int} {A B : Prop} (h1 : x ≠ y → A) (h2 : x = y → B) : if (!decide (V.int x = V.int y)) = true then A else B := by
  by_cases e : x = y
  · rw [decide_eq_true (congrArg V.int e)]
    exact iteF (h2 e)
  · rw [decide_eq_false (fun z => e (V.int.inj z))]
    exact iteT (h1 e)
theorem if_eq {x y : Int} {A B : Prop} (h1 : x = y → A) (h2 : x ≠ y → B) : if decide (V.int x = V.int y) = true then A else B := by
  by_cases e : x = y
  · rw [decide_eq_true (congrArg V.int e)]
    exact iteT (h1 e)
  · rw [decide_eq_false (fun z => e (V.int.inj z))]
    exact iteF (h2 e)
theorem drop_get {α : Type} {l : List α} {i : Nat} {x : α} (h : l[i]? = some x) : l.drop i = x :: l.drop (i + 1) := by
  obtain ⟨hi, e⟩ := List.getElem?_eq_some_iff.mp h
  rw [List.drop_eq_getElem_cons hi, e]
theorem get_lt {α : Type} {l : List α} {i : Nat} (h : i < l.length) : ∃ x, l[i]? = some x := ⟨l[i], by simp [h]⟩
theorem iv_set (pre post : List Int) (x y : Int) : (IV (pre ++ x :: post)).set pre.length (V.int y) = IV (pre ++ y :: post) := by
  rw [← List.map_set, List.set_append_right _ _ (Nat.le_refl _)]
  simp
theorem turned_cons (x y m : Int) (as bs : List Int) : turned (x :: as) (y :: bs) m = if x = y then x :: turned as bs m else (if m % 2 = 1 then y else x) :: turned as bs (m / 2) := by
  rw [turned]
/-- beyond all masks -/
def MM : Int := 2 ^ 4096
theorem MM_eq : (1 : Int) * 2 ^ (4096 : Int).toNat = MM := by
  have e : (4096 : Int).toNat = 4096 := rfl
  rw [e, Int.one_mul]
  rfl
theorem pow_nn (k : Nat) : (0 : Int) < 2 ^ k := Int.pow_pos (by decide)
theorem pow_mono {a b : Nat} (h : a ≤ b) : (2 : Int) ^ a ≤ 2 ^ b := by
  have q : (2 : Nat) ^ a ≤ 2 ^ b := Nat.pow_le_pow_right (by decide) h
  have q2 : (((2 : Nat) ^ a : Nat) : Int) ≤ ((2 ^ b : Nat) : Int) := Int.ofNat_le.mpr q
  simpa using q2
theorem MM_half {k : Nat} (h : k ≤ 4095) : 2 * (2 : Int) ^ k ≤ MM := by
  have q := pow_mono (a := k + 1) (b := 4096) (by omega)
  rw [Int.pow_succ] at q
  unfold MM
  omega
theorem lt_natAbs {x : Int} {n : Nat} (h0 : 0 ≤ x) (h : x < 2 ^ n) : x.natAbs < 2 ^ n := by
  have e : (x.natAbs : Int) = x := Int.natAbs_of_nonneg h0
  have q : (x.natAbs : Int) < ((2 ^ n : Nat) : Int) := by
    rw [e]
    simpa using h
  exact Int.ofNat_lt.mp q
theorem more_bits {x w : Int} {n : Nat} (h0 : 0 ≤ x) (h : x < 2 ^ n) (w0 : 0 ≤ w) (w1 : w < 2 ^ 48) : 0 ≤ x * 2 ^ 48 + w ∧ x * 2 ^ 48 + w < 2 ^ (n + 48) := by
  rw [Int.pow_add]
  have p : (0 : Int) < 2 ^ 48 := pow_nn 48
  have m : (x + 1) * 2 ^ 48 ≤ 2 ^ n * 2 ^ 48 := Int.mul_le_mul_of_nonneg_right (by omega) (Int.le_of_lt p)
  rw [Int.add_mul, Int.one_mul] at m
  have m0 : 0 ≤ x * 2 ^ 48 := Int.mul_nonneg h0 (Int.le_of_lt p)
  omega
theorem oct_snoc {xs : List Int} {r : Int} (h : Oct xs) (h0 : 0 ≤ r) (h1 : r ≤ 255) : Oct (xs ++ [r]) := by
  intro o ho
  rcases List.mem_append.mp ho with q | q
  · exact h o q
  · have e : o = r := by simpa using q
    omega
theorem zip_get {xs ys : List Int} {p : Int × Int} (h : p ∈ xs.zip ys) : ∃ i : Nat, xs[i]? = some p.1 ∧ ys[i]? = some p.2 := by
  obtain ⟨i, hi⟩ := List.mem_iff_getElem?.mp h
  obtain ⟨q1, q2⟩ := List.getElem?_zip_eq_some.mp hi
  exact ⟨i, q1, q2⟩
theorem bitAnd_pp {x y : Int} (hx : 0 ≤ x) (hy : 0 ≤ y) : Builtin.bitAnd x y = ((x.toNat &&& y.toNat : Nat) : Int) := by
  obtain ⟨a, rfl⟩ := nat_of hx
  obtain ⟨b, rfl⟩ := nat_of hy
  rfl
/-- two lists of octets, item by item -/
def both (f : Int → Int → Int) (xs ys : List Int) : List Int := (xs.zip ys).map fun p => f p.1 p.2
theorem both_len {f : Int → Int → Int} {xs ys : List Int} (h : xs.length = ys.length) : (both f xs ys).length = xs.length := by
  unfold both
  rw [List.length_map, List.length_zip]
  omega
theorem both_get {f : Int → Int → Int} {xs ys : List Int} {i : Nat} {u : Int} (h : (both f xs ys)[i]? = some u) : ∃ x y, xs[i]? = some x ∧ ys[i]? = some y ∧ u = f x y := by
  unfold both at h
  rw [List.getElem?_map] at h
  cases e : (xs.zip ys)[i]? with
  | none => rw [e] at h; cases h
  | some p =>
    rw [e] at h
    obtain ⟨q1, q2⟩ := List.getElem?_zip_eq_some.mp e
    exact ⟨p.1, p.2, q1, q2, (Option.some.inj h).symm⟩
theorem both_oct {f : Int → Int → Int} {xs ys : List Int} (ox : Oct xs) (oy : Oct ys) (h : ∀ x y, 0 ≤ x ∧ x ≤ 255 → 0 ≤ y ∧ y ≤ 255 → 0 ≤ f x y ∧ f x y ≤ 255) : Oct (both f xs ys) := by
  intro o ho
  obtain ⟨i, hi⟩ := List.mem_iff_getElem?.mp ho
  obtain ⟨x, y, hx, hy, rfl⟩ := both_get hi
  exact h x y (ox x (List.mem_of_getElem? hx)) (oy y (List.mem_of_getElem? hy))
theorem oct_and {x y : Int} (hx : 0 ≤ x ∧ x ≤ 255) (hy : 0 ≤ y ∧ y ≤ 255) : (0 ≤ Builtin.bitAnd x y ∧ Builtin.bitAnd x y ≤ 255) ∧ Le (bitsOf (Builtin.bitAnd x y)) (bitsOf x) := by
  rw [bitAnd_pp hx.1 hy.1]
  have e : ((x.toNat : Nat) : Int) = x := by omega
  have h := and_oct (a := x.toNat) (b := y.toNat) (by omega)
  refine ⟨by omega, ?_⟩
  have q := and_le x.toNat y.toNat
  rw [e] at q
  exact q
theorem oct_or {x y : Int} (hx : 0 ≤ x ∧ x ≤ 255) (hy : 0 ≤ y ∧ y ≤ 255) : (0 ≤ Builtin.bitOr x y ∧ Builtin.bitOr x y ≤ 255) ∧ Le (bitsOf x) (bitsOf (Builtin.bitOr x y)) := by
  rw [Bits.bitOr_pp hx.1 hy.1]
  have e : ((x.toNat : Nat) : Int) = x := by omega
  have h := or_oct (a := x.toNat) (b := y.toNat) (by omega) (by omega)
  refine ⟨by omega, ?_⟩
  have q := le_or x.toNat y.toNat
  rw [e] at q
  exact q
theorem bitsL_le' {xs ys : List Int} (hl : xs.length = ys.length) (h : ∀ (i : Nat) x y, xs[i]? = some x → ys[i]? = some y → Le (bitsOf x) (bitsOf y)) : Le (bitsL xs) (bitsL ys) :=
  bitsL_le hl fun p hp => by
    obtain ⟨i, h1, h2⟩ := zip_get hp
    exact h i _ _ h1 h2
theorem oct_255 (c : Nat) : Oct (List.replicate c 255) := fun o ho => by
  have e := List.eq_of_mem_replicate ho
  omega
theorem iv_rep (c : Nat) (o : Int) : IV (List.replicate c o) = List.replicate c (V.int o) := List.map_replicate ..
/-- one more octet of a comprehension over a box -/
def Grown (a D : Addr) (H0 : Hp) (m : Int) (i : Nat) (H' : Hp) : Prop := Exb a H0 H' ∧ Box H' a (m + 3 * i) ∧ ∃ xs : List Int, xs.length = i ∧ Oct xs ∧ H' D = some (.lst (IV xs))
theorem Grown.start {a D : Addr} {H : Hp} {m : Int} (B : Box H a m) (hD : H D = none) : Grown a D H m 0 (upd H D (.lst [])) :=
  ⟨Exb.new hD, (B.ex (Evl.Ex.new hD)).le (by omega), [], rfl, fun _ h => (by cases h), upd_same⟩
theorem Grown.more {a D : Addr} {H0 H1 H2 : Hp} {m r : Int} {i : Nat} (g : Grown a D H0 m i H1) (hD : D ≠ a) (hn : H0 D = none) (hi : i ≤ 1000) (e : Exb a H1 H2) (B : Box H2 a (m + 3 * i + 3)) (r0 : 0 ≤ r) (r1 : r ≤ 255) :
    ∃ acc, H2 D = some (.lst acc) ∧ acc.length < sizeLine ∧ Grown a D H0 m (i + 1) (upd H2 D (.lst (acc ++ [V.int r]))) := by
  obtain ⟨e1, B1, xs, hl, ho, h⟩ := g
  have B2 : Box (upd H2 D (.lst (IV xs ++ [V.int r]))) a (m + 3 * i + 3) := by
    obtain ⟨d, m', c, k, hb, q⟩ := B
    exact ⟨d, m', c, k, by rw [upd_ne (Ne.symm hD)]; exact hb, q⟩
  refine ⟨IV xs, e D _ hD h, by rw [iv_len, hl]; exact Evl.sz_lt (by omega), ?_, B2.le (by omega), xs ++ [r], by simp [hl], oct_snoc ho r0 r1, by rw [upd_same, iv_snoc]⟩
  intro b o n q
  have hb : b ≠ D := by
    rintro rfl
    rw [hn] at q
    cases q
  rw [upd_ne hb]
  exact e b o n (e1 b o n q)
/-- keywords in other orders than the parameters' -/
abbrev g1 : List Value → List Value → List Value := fun _ ws => [ws.getD 0 .none]
abbrev g1V : List V → List V → List V := fun _ ws => [ws.getD 0 .non]
abbrev g21 : List Value → List Value → List Value := fun _ ws => [ws.getD 1 .none, ws.getD 0 .none]
abbrev g21V : List V → List V → List V := fun _ ws => [ws.getD 1 .non, ws.getD 0 .non]
abbrev g321 : List Value → List Value → List Value := fun _ ws => [ws.getD 2 .none, ws.getD 1 .none, ws.getD 0 .none]
abbrev g321V : List V → List V → List V := fun _ ws => [ws.getD 2 .non, ws.getD 1 .non, ws.getD 0 .non]
theorem same_ne {x : V} {A B : Prop} (h : B) : if (!decide (x = x)) = true then A else B := by
  rw [decide_eq_true rfl]
  exact iteF h
theorem same_int {x y : Int} {A B : Prop} (e : x = y) (h : B) : if (!decide (V.int x = V.int y)) = true then A else B := by
  subst e
  exact same_ne h
theorem same_bl {x y : Bool} {A B : Prop} (e : x = y) (h : B) : if (!decide (V.bl x = V.bl y)) = true then A else B := by
  subst e
  exact same_ne h
theorem if_dec {p : Prop} [Decidable p] {A B : Prop} (h1 : p → A) (h2 : ¬ p → B) : if decide p = true then A else B := by
  by_cases z : p
  · rw [decide_eq_true z]
    exact iteT (h1 z)
  · rw [decide_eq_false z]
    exact iteF (h2 z)
theorem two_ways {x y : Int} {ta tb : TE} {σ : L2.St} {H : Hp} {Q : VK} (S : V → Hp → Prop) (ha : x = y → ∀ Q' : VK, (∀ v H', S v H' → Q' v H') → ta σ H Q')
    (hb : x ≠ y → ∀ Q' : VK, (∀ v H', S v H' → Q' v H') → tb σ H Q') (hQ : ∀ v H', S v H' → Q v H') : if decide (V.int x = V.int y) = true then ta σ H Q else tb σ H Q :=
  if_eq (fun z => ha z Q hQ) (fun z => hb z Q hQ)
theorem sm_fallen (n : Nat) (as bs : List Int) : ∀ (k : Int), 0 ≤ k → k + (as.length : Int) ≤ 10000 → Sm (fallenL k as bs) := by
  induction as generalizing bs with
  | nil =>
    intro k _ _
    cases bs <;> exact fun n hn => by cases hn
  | cons a as ih =>
    intro k hk hl
    cases bs with
    | nil => exact fun n hn => by cases hn
    | cons b bs =>
      have r := ih bs (k + 1) (by omega) (by simp at hl; omega)
      rw [fallenL]
      split
      · intro n hn
        cases hn with
        | head => simp at hl; omega
        | tail _ hn => exact r n hn
      · exact r
theorem zip8 {f : Int → Int → Int} {a0 a1 a2 a3 a4 a5 a6 a7 b0 b1 b2 b3 b4 b5 b6 b7 : Int} : List.zipWith f [a7, a6, a5, a4, a3, a2, a1, a0] [b7, b6, b5, b4, b3, b2, b1, b0] = [f a7 b7, f a6 b6, f a5 b5, f a4 b4, f a3 b3, f a2 b2, f a1 b1, f a0 b0] := rfl
theorem xor_bits {x y : Int} (hx : 0 ≤ x ∧ x ≤ 255) (hy : 0 ≤ y ∧ y ≤ 255) : bitsOf (Builtin.bitXor x y) = List.zipWith (fun a b => if a = b then 0 else 1) (bitsOf x) (bitsOf y) := by
  obtain ⟨a, rfl⟩ := nat_of hx.1
  obtain ⟨b, rfl⟩ := nat_of hy.1
  rw [Bits.bitXor_pp hx.1 hy.1, Int.toNat_natCast, Int.toNat_natCast, bitsOf_tb, bitsOf_tb, bitsOf_tb, zip8]
  simp only [tb_xor]
theorem and_bits {x y : Int} (hx : 0 ≤ x ∧ x ≤ 255) (hy : 0 ≤ y ∧ y ≤ 255) : bitsOf (Builtin.bitAnd x y) = List.zipWith (fun a b => if a = 1 ∧ b = 1 then 1 else 0) (bitsOf x) (bitsOf y) := by
  obtain ⟨a, rfl⟩ := nat_of hx.1
  obtain ⟨b, rfl⟩ := nat_of hy.1
  rw [bitAnd_pp hx.1 hy.1, Int.toNat_natCast, Int.toNat_natCast, bitsOf_tb, bitsOf_tb, bitsOf_tb, zip8]
  simp only [tb_and]
theorem xor_range {x y : Int} (hx : 0 ≤ x ∧ x ≤ 255) (hy : 0 ≤ y ∧ y ≤ 255) : 0 ≤ Builtin.bitXor x y ∧ Builtin.bitXor x y ≤ 255 := by
  rw [Bits.bitXor_pp hx.1 hy.1]
  have h := xor_oct (a := x.toNat) (b := y.toNat) (by omega) (by omega)
  omega
/-- what falls, octet by octet -/
def fallO (x y : Int) : Int := Builtin.bitAnd x (Builtin.bitXor x y)
def riseO (x y : Int) : Int := Builtin.bitAnd y (Builtin.bitXor x y)
theorem fallO_range {x y : Int} (hx : 0 ≤ x ∧ x ≤ 255) (hy : 0 ≤ y ∧ y ≤ 255) : 0 ≤ fallO x y ∧ fallO x y ≤ 255 := (oct_and hx (xor_range hx hy)).1
theorem riseO_range {x y : Int} (hx : 0 ≤ x ∧ x ≤ 255) (hy : 0 ≤ y ∧ y ≤ 255) : 0 ≤ riseO x y ∧ riseO x y ≤ 255 := (oct_and hy (xor_range hx hy)).1
theorem zw_self {f g : Int → Int → Int} (h : ∀ a b : Int, f a (g a b) = (fun a b => f a (g a b)) a b) : ∀ as bs : List Int, List.zipWith f as (List.zipWith g as bs) = List.zipWith (fun a b => f a (g a b)) as bs
  | [], _ => by simp
  | _ :: _, [] => by simp
  | a :: as, b :: bs => by simp [zw_self h as bs]
theorem zw_other {f g : Int → Int → Int} : ∀ as bs : List Int, List.zipWith f bs (List.zipWith g as bs) = List.zipWith (fun a b => f b (g a b)) as bs
  | [], _ => by simp
  | _ :: _, [] => by simp
  | a :: as, b :: bs => by simp [zw_other as bs]
theorem ones_fall {xs ys : List Int} (ox : Oct xs) (oy : Oct ys) (hl : xs.length = ys.length) : onesL 0 (bitsL (both fallO xs ys)) = fallenL 0 (bitsL xs) (bitsL ys) := by
  have e : bitsL (both fallO xs ys) = List.zipWith (fun a b => if a = 1 ∧ (if a = b then (0 : Int) else 1) = 1 then (1 : Int) else 0) (bitsL xs) (bitsL ys) := by
    refine bitsL_both (fun x y hx hy => ?_) xs ys ox oy
    unfold fallO
    rw [and_bits hx (xor_range hx hy), xor_bits hx hy, zw_self fun _ _ => rfl]
  rw [e]
  refine ones_of (fun as bs k => fallenL k as bs) (fun a b => a = 1 ∧ b = 0) (fun _ => by simp [fallenL]) (fun a as b bs k => by rw [fallenL]) ?_ _ _ 0 (by rw [bitsL_len, bitsL_len, hl]) (bitsL_bit xs) (bitsL_bit ys)
  intro a b ha hb
  rcases ha with rfl | rfl <;> rcases hb with rfl | rfl <;> decide
theorem fallen_swap : ∀ (as bs : List Int) (k : Int) , fallenL k bs as = (fun (as bs : List Int) (k : Int) => fallenL k bs as) as bs k := fun _ _ _ => rfl
theorem ones_rise {xs ys : List Int} (ox : Oct xs) (oy : Oct ys) (hl : xs.length = ys.length) : onesL 0 (bitsL (both riseO xs ys)) = fallenL 0 (bitsL ys) (bitsL xs) := by
  have e : bitsL (both riseO xs ys) = List.zipWith (fun a b => if b = 1 ∧ (if a = b then (0 : Int) else 1) = 1 then (1 : Int) else 0) (bitsL xs) (bitsL ys) := by
    refine bitsL_both (fun x y hx hy => ?_) xs ys ox oy
    unfold riseO
    rw [and_bits hy (xor_range hx hy), xor_bits hx hy, zw_other]
  rw [e]
  refine ones_of (fun as bs k => fallenL k bs as) (fun a b => b = 1 ∧ a = 0) (fun _ => by simp [fallenL]) (fun a as b bs k => by rw [fallenL]) ?_ _ _ 0 (by rw [bitsL_len, bitsL_len, hl]) (bitsL_bit xs) (bitsL_bit ys)
  intro a b ha hb
  rcases ha with rfl | rfl <;> rcases hb with rfl | rfl <;> decide
theorem ones_diff {xs ys : List Int} (ox : Oct xs) (oy : Oct ys) (hl : xs.length = ys.length) : onesL 0 (bitsL (both Builtin.bitXor xs ys)) = diffL 0 (bitsL xs) (bitsL ys) := by
  have e : bitsL (both Builtin.bitXor xs ys) = List.zipWith (fun a b => if a = b then (0 : Int) else 1) (bitsL xs) (bitsL ys) :=
    bitsL_both (fun x y hx hy => xor_bits hx hy) xs ys ox oy
  rw [e]
  refine ones_of (fun as bs k => diffL k as bs) (fun a b => ¬ a = b) (fun _ => by simp [diffL]) (fun a as b bs k => ?_) ?_ _ _ 0 (by rw [bitsL_len, bitsL_len, hl]) (bitsL_bit xs) (bitsL_bit ys)
  · rw [diffL]
    by_cases z : a = b <;> simp [z]
  · intro a b ha hb
    rcases ha with rfl | rfl <;> rcases hb with rfl | rfl <;> decide
/-- the zeros of an octet -/
def zO (n : Nat) : Int := 8 - (([n / 128 % 2, n / 64 % 2, n / 32 % 2, n / 16 % 2, n / 8 % 2, n / 4 % 2, n / 2 % 2, n / 1 % 2].count 1 : Nat) : Int)
theorem zO_eq : ∀ n : Nat, n < 256 → zO n = (((bitsOf (n : Int)).count 0 : Nat) : Int) := by decide +kernel
theorem zO_sum : ∀ os : List Int, Oct os → (os.map fun o => zO o.toNat).sum = zc (bitsL os)
  | [], _ => rfl
  | o :: os, h => by
    have r := zO_sum os fun x hx => h x (List.mem_cons_of_mem _ hx)
    have ho := h o (List.mem_cons_self ..)
    obtain ⟨n, rfl⟩ := nat_of ho.1
    rw [List.map_cons, List.sum_cons, r, Int.toNat_natCast, zO_eq n (by omega), bitsL_cons]
    unfold zc
    rw [List.count_append]
    omega
theorem ty_int (K : PySem.W.Frag) (H : Hp) (i : Int) : TyX K H (.int i) (.type "int") := .base (.int i)
theorem bitAnd_nn (a b : Nat) : Builtin.bitAnd (a : Int) (b : Int) = ((a &&& b : Nat) : Int) := by
  rw [bitAnd_pp (by omega) (by omega)]
  rfl
theorem worth_nat (j : Nat) : (128 : Int) / 2 ^ j = ((128 / 2 ^ j : Nat) : Int) := by
  simp
/-- at bit n of octets -/
theorem at_bit {xs : List Int} {n : Nat} (ox : Oct xs) (h : n < 8 * xs.length) : ∃ o : Nat, o < 256 ∧ xs[n / 8]? = some (o : Int) ∧ (bitsL xs)[n]? = (bitsOf (o : Int))[n % 8]? := by
  obtain ⟨x, hx⟩ := get_lt (l := xs) (i := n / 8) (by omega)
  have hm := ox x (List.mem_of_getElem? hx)
  obtain ⟨o, rfl⟩ := nat_of hm.1
  refine ⟨o, by omega, hx, ?_⟩
  have e := bitsL_get xs (n / 8) (n % 8) (by omega)
  rw [hx] at e
  have e2 : 8 * (n / 8) + n % 8 = n := by omega
  rw [e2] at e
  exact e
theorem both_at {g : Int → Int → Int} {xs ys : List Int} {i : Nat} {x y u : V} (hx : (IV xs)[i]? = some x) (hy : (IV ys)[i]? = some y) (hu : (IV (both g xs ys))[i]? = some u) : ∃ m n : Int, x = .int m ∧ y = .int n ∧ u = .int (g m n) := by
  obtain ⟨m, hm, rfl⟩ := iv_get hx
  obtain ⟨n, hn, rfl⟩ := iv_get hy
  obtain ⟨k, hk, rfl⟩ := iv_get hu
  obtain ⟨m', n', hm', hn', rfl⟩ := both_get hk
  rw [hm] at hm'
  rw [hn] at hn'
  cases hm'
  cases hn'
  exact ⟨_, _, rfl, rfl, rfl⟩
theorem bitXor_nn (a b : Nat) : Builtin.bitXor (a : Int) (b : Int) = ((a ^^^ b : Nat) : Int) := by
  rw [Bits.bitXor_pp (by omega) (by omega)]
  rfl
/-- one unlike bit on -/
theorem one_turn {os done as' bs' U : List Int} {m : Int} {i : Nat} {p : Int} {rest : List Int} (ho : Oct os) (hb : bitsL os = done ++ as') (bb : Bit bs') (hl : as'.length = bs'.length) (hu : diffL (done.length : Int) as' bs' = p :: rest) :
    ∃ (n o : Nat) (x y : Int) (pre as2 bs2 : List Int), p = (n : Int) ∧ o < 256 ∧ os[n / 8]? = some (o : Int) ∧ n / 8 < os.length ∧ as'.length = pre.length + 1 + as2.length ∧ as2.length = bs2.length ∧ Bit bs2 ∧
      (∀ m, turned as' bs' m = pre ++ (if m % 2 = 1 then y else x) :: turned as2 bs2 (m / 2)) ∧ rest = diffL ((done.length + pre.length + 1 : Nat) : Int) as2 bs2 ∧ bitsL os = (done ++ pre ++ [x]) ++ as2 ∧
      Oct (os.set (n / 8) ((o ^^^ (128 / 2 ^ (n % 8)) : Nat) : Int)) ∧ bitsL (os.set (n / 8) ((o ^^^ (128 / 2 ^ (n % 8)) : Nat) : Int)) = (done ++ pre ++ [y]) ++ as2 := by
  obtain ⟨pre, x, y, as2, bs2, h1, h2, h3, h4, h5, h6, h7⟩ := diff_at as' bs' _ p rest hl hu
  have lb := bitsL_len os
  have hn : done.length + pre.length < 8 * os.length := by
    rw [← lb, hb, h1]
    simp
  obtain ⟨o, o1, o2, o3⟩ := at_bit ho hn
  have bx : (bitsL os)[done.length + pre.length]? = some x := by
    rw [hb, h1, List.getElem?_append_right (by omega), Nat.add_sub_cancel_left, List.getElem?_append_right (by omega)]
    simp
  have bx2 : (bitsOf (o : Int))[(done.length + pre.length) % 8]? = some x := by rw [← o3]; exact bx
  have hx : x = 0 ∨ x = 1 := bitsL_bit os x (List.mem_of_getElem? bx)
  have hy : y = 0 ∨ y = 1 := bb y (by rw [h2]; simp)
  have yx : y = 1 - x := by omega
  obtain ⟨t1, t2⟩ := bit_turn o o1 ((done.length + pre.length) % 8) (by omega)
  have gd : (bitsOf (o : Int)).getD ((done.length + pre.length) % 8) 0 = x := by rw [List.getD_eq_getElem?_getD, bx2]; rfl
  rw [gd, ← yx] at t2
  have st := bitsL_set os ((done.length + pre.length) / 8) ((done.length + pre.length) % 8) _ _ _ (by omega) o2 t2
  have e8 : 8 * ((done.length + pre.length) / 8) + (done.length + pre.length) % 8 = done.length + pre.length := by omega
  rw [e8] at st
  refine ⟨done.length + pre.length, o, x, y, pre, as2, bs2, by rw [h4]; simp, o1, o2, by omega, by rw [h1]; simp; omega, h6, fun b hbm => bb b (by rw [h2]; simp [hbm]), h7, by rw [h5, h4]; congr 1, ?_, ?_, ?_⟩
  · rw [hb, h1]
    simp
  · intro z hz
    rcases List.mem_or_eq_of_mem_set hz with z1 | z1
    · exact ho z z1
    · omega
  · rw [st, hb, h1, List.append_assoc, List.append_assoc, List.set_append_right _ _ (by omega), Nat.add_sub_cancel_left]
    congr 1
    rw [List.set_append_right _ _ (Nat.le_refl _), Nat.sub_self]
    rfl
theorem Sv.tupOf {H : Hp} {a : Addr} {xs : List V} {t : Bool} {Q : VK} (S : Sv t K H a xs) (q : ∀ p H', Evl.Ex H H' → SqT K H' p xs → Q (.ref p) H') : rTupI K [.ref a] H Q := by
  unfold rTupI
  cases t with
  | false => exact ⟨a, xs, rfl, .inl ⟨S, fun l hl => q l _ (Evl.Ex.new hl) (SqT.of upd_same)⟩⟩
  | true => exact ⟨a, xs, rfl, .inr ⟨S, q a H (Evl.Ex.refl _) S⟩⟩
theorem Sv.listOf {H : Hp} {a : Addr} {xs : List V} {t : Bool} {Q : VK} (S : Sv t K H a xs) (q : ∀ p, H p = none → Q (.ref p) (upd H p (.lst xs))) : rListI K [.ref a] H Q := by
  unfold rListI
  exact ⟨a, xs, rfl, S.either, q⟩
theorem test_false {c : TT} {t u : TS} {D : Ends} {σ : L2.St} {H : Hp} (hc : ∀ Q' : Bool → Hp → Prop, (∀ H1, Evl.Ex H H1 → Q' false H1) → c σ H Q') (hu : ∀ H1, Evl.Ex H H1 → u D σ H1) : tIfI c t u D σ H := by
  unfold tIfI
  exact hc _ fun H1 e => iteF (hu H1 e)
theorem mem3 {w p q r : Int} {A B : Prop} (h1 : (w = p ∨ w = q ∨ w = r) → A) (h2 : B) : if (if false = true then !inV (V.int w) [.int p, .int q, .int r] else inV (V.int w) [.int p, .int q, .int r]) = true then A else B := by
  have e : (if false = true then !inV (V.int w) [.int p, .int q, .int r] else inV (V.int w) [.int p, .int q, .int r]) = decide (w = p ∨ w = q ∨ w = r) := by
    simp [inV, eqV, Bool.beq_eq_decide_eq, eq_comm]
  rw [e]
  exact if_dec h1 fun _ => h2
theorem in3 (w p q r : Int) : inV (.int w) [.int p, .int q, .int r] = decide (w = p ∨ w = q ∨ w = r) := by
  simp [inV, eqV, Bool.beq_eq_decide_eq, eq_comm]
abbrev tn (xs ys : List Int) (m : Int) : List Int := octetsL (turned (bitsL xs) (bitsL ys) m)
theorem tn_spec {xs ys : List Int} (m : Int) (hl : xs.length = ys.length) : bitsL (tn xs ys m) = turned (bitsL xs) (bitsL ys) m ∧ Oct (tn xs ys m) ∧ (tn xs ys m).length = xs.length := by
  have lx := bitsL_len xs
  have ly := bitsL_len ys
  have l := turned_len (bitsL xs) (bitsL ys) m (by omega)
  exact octetsL_spec (by omega) (turned_bit _ _ m (bitsL_bit xs) (bitsL_bit ys))
theorem sm_oct {xs : List Int} (h : Oct xs) : Sm xs := fun n hn => by
  have := h n hn
  omega
theorem ex_b {a : Addr} {H0 H H' : Hp} (e : Evl.Ex H0 H) (h : H0 a = none) (x : Exb a H H') : Evl.Ex H0 H' := fun b o q => x b o (fun z => by rw [z, h] at q; cases q) (e b o q)
theorem same_eq {x : V} {A B : Prop} (h : A) : if decide (x = x) = true then A else B := by
  rw [decide_eq_true rfl]
  exact iteT h
theorem ones_ok {k : Nat} (h : k ≤ 4096) : 0 ≤ (2 : Int) ^ k - 1 ∧ (2 : Int) ^ k - 1 < MM := by
  have p := pow_nn k
  have q : (2 : Int) ^ k ≤ MM := pow_mono h
  omega
theorem same_v {x y : V} {A B : Prop} (e : x = y) (h : B) : if (!decide (x = y)) = true then A else B := by
  subst e
  exact same_ne h
theorem bits_rep (o b : Int) (h : bitsOf o = List.replicate 8 b) : ∀ c : Nat, bitsL (List.replicate c o) = List.replicate (8 * c) b
  | 0 => rfl
  | c + 1 => by
    rw [List.replicate_succ, bitsL_cons, bits_rep o b h c, h, List.replicate_append_replicate]
    congr 1
    omega
theorem bits_ones (c : Nat) : bitsL (List.replicate c 255) = List.replicate (8 * c) 1 := bits_rep 255 1 (by decide) c
theorem bits_none (c : Nat) : bitsL (List.replicate c 0) = List.replicate (8 * c) 0 := bits_rep 0 0 (by decide) c
theorem oct_0 (c : Nat) : Oct (List.replicate c 0) := fun o h => by rw [List.eq_of_mem_replicate h]; omega
theorem zc_ones (n : Nat) : zc (List.replicate n 1) = 0 := by
  unfold zc
  rw [List.count_replicate]
  rfl
theorem zc_none (n : Nat) : zc (List.replicate n 0) = n := by
  unfold zc
  rw [List.count_replicate_self]
theorem le_rep : ∀ n : Nat, Le (List.replicate n 0) (List.replicate n 1)
  | 0 => Le.refl _
  | n + 1 => by
    rw [List.replicate_succ, List.replicate_succ]
    have := le_rep n
    simp [Le, this]
theorem fallen_rep : ∀ (n : Nat) (k : Int), fallenL k (List.replicate n 1) (List.replicate n 0) = (List.range n).map fun (i : Nat) => k + (i : Int)
  | 0, k => rfl
  | n + 1, k => by
    rw [List.replicate_succ, List.replicate_succ, fallenL, if_pos ⟨rfl, rfl⟩, fallen_rep n (k + 1), List.range_succ_eq_map, List.map_cons, List.map_map]
    congr 1
    · simp
    · apply List.map_congr_left
      intro i _
      simp
      omega
theorem due_long {c n : Nat} {dd : List Int} (hn : n = 512) (h : n ≤ c) (hd : dd = List.replicate n 0 ++ List.replicate (c - n) 255) : octetsL (turned (bitsL (List.replicate c 255)) (bitsL (List.replicate c 0)) (2 ^ 4096 - 1)) = dd := by
  subst hd
  have n8 : 4096 = 8 * n := by omega
  rw [n8]
  clear n8 hn
  have e : 8 * c = 8 * n + 8 * (c - n) := by omega
  rw [bits_ones, bits_none, e, turned_first]
  have e2 : List.replicate (8 * n) (0 : Int) ++ List.replicate (8 * (c - n)) 1 = bitsL (List.replicate n 0 ++ List.replicate (c - n) 255) := by
    rw [bitsL_append, bits_none, bits_ones]
  rw [e2, octetsL_bitsL]
  intro o ho
  rcases List.mem_append.mp ho with z | z
  · exact oct_0 _ o z
  · exact oct_255 _ o z
theorem rep_flat (k : Nat) (o : Int) : (List.replicate k [V.int o]).flatten = IV (List.replicate k o) := by
  rw [iv_rep]
  simp
/-- (o,) * k -/
theorem mulT1 {H : Hp} {t : Addr} {k o : Int} {Q : VK} (S : SqT K H t [V.int o]) (h1 : 1 ≤ k) (h2 : k ≤ 1000) (q : ∀ (n : Nat) p H', (n : Int) = k → Evl.Ex H H' → SqT K H' p (IV (List.replicate n o)) → Q (.ref p) H') : rMulU1 K (.ref t) (.int k) H Q := by
  unfold rMulU1
  by_cases e : k = 1
  · subst e
    exact .inr ⟨t, _, rfl, rfl, S, q 1 t H rfl (Evl.Ex.refl _) S⟩
  · refine .inl (.inr (.inr ⟨t, k, _, rfl, rfl, S, by simp, by omega, h2, by simp, fun p hp => q k.toNat p _ (by omega) (Evl.Ex.new hp) ?_⟩))
    rw [rep_flat]
    exact SqT.of upd_same
theorem mulL1 {H : Hp} {t : Addr} {k o : Int} {Q : VK} (S : H t = some (.lst [V.int o])) (h1 : 1 ≤ k) (h2 : k ≤ 1000) (q : ∀ (n : Nat) p H', (n : Int) = k → H p = none → Evl.Ex H H' → H' p = some (.lst (IV (List.replicate n o))) → Q (.ref p) H') : rMulU1 K (.ref t) (.int k) H Q := by
  unfold rMulU1
  refine .inl (.inr (.inl ⟨t, _, _, rfl, rfl, S, by omega, by omega, ?_, fun p hp => q k.toNat p _ (by omega) hp (Evl.Ex.new hp) ?_⟩))
  · exact Evl.sz_of (by simp; omega)
  · rw [upd_same, rep_flat]
theorem mulI1 {H : Hp} {i j : Int} {Q : VK} (c : CMulX i j) (q : Q (.int (i * j)) H) : rMulU1 K (.int i) (.int j) H Q := by
  unfold rMulU1
  exact .inl (.inl ⟨i, j, rfl, rfl, c, q⟩)
theorem rg_iv (n : Nat) : rgV 0 (n : Int) = IV ((List.range n).map fun (i : Nat) => (0 : Int) + (i : Int)) := by
  have e : ((n : Int) - 0).toNat = n := by omega
  have e2 : ∀ l : List Int, IV l = l.map V.int := fun _ => rfl
  unfold rgV
  rw [e, e2, List.map_map]
  rfl
end
end VB
/-! errors with a value: made, raised, caught by several clauses with a name, their value read -/
namespace VB
open PySem PySem.Spec PyProof.Rows L2
/-! ### try: .. except A as n: .. except B as n: .. -/
/-- what the clauses wish of an exception of the body, one behind the other; slot i is n's -/
def wManyAs (K : PySem.W.Frag) (i : Nat) (Wout : WX) (D : Ends) : List (Value × (Addr → Value → Option Addr → TS)) → WX
  | [] => Wout
  | (c, ts) :: r => fun cls d σ H => ∃ b, PySem.W.exmOne K cls c = some b ∧
      (b = true → ∀ a, H a = none → ts a cls d { nx := fun σ' H' => D.nx (σ'.set i none) H', rt := D.rt, bk := fun σ' H' => D.bk (σ'.set i none) H', ct := fun σ' H' => D.ct (σ'.set i none) H' } (σ.set i (some (.ref a))) H) ∧
      (b = false → wManyAs K i Wout D r cls d σ H)
inductive HdsAs (X : Cx) (i : Nat) (n : Str) : List ExceptHandler → List (Value × (Addr → Value → Option Addr → TS)) → Prop
  | nil : HdsAs X i n [] []
  | cons {x : Str} {c : Value} {ts : Addr → Value → Option Addr → TS} {b₀ : Stmt} {suite : List Stmt} {np pos' : Pos} {hds : List ExceptHandler} {l : List (Value × (Addr → Value → Option Addr → TS))} (hc : Names X x c)
      (hsu : ∀ (a : Addr) (oe : Obj) (cls : Value) (d : Option Addr) (pn : List (Addr × Obj)), Zc cls d oe → (∃ vs, oe.data = .fields vs) → PSs (X.suite a ((a, oe) :: pn)) (b₀ :: suite) (ts a cls d)) (r : HdsAs X i n hds l) :
      HdsAs X i n (.ExceptHandler (some (.Name x np)) (some n) (b₀ :: suite) pos' :: hds) ((c, ts) :: l)
section
variable {X : Cx} {body : List Stmt} {h₀ : ExceptHandler} {hds : List ExceptHandler} {l : List (Value × (Addr → Value → Option Addr → TS))} {pos : Pos} {tb : WX → TS} {Wout : WX} {i : Nat} {n : Str}
theorem ps_try_manyAs (hs : X.stack = X.env :: X.outer) (hf : X.env.frame = some X.env.locals) (hN : X.N.Nodup) (hi : X.N[i]? = some n) (hln : X.env.kindOf n = some .local) (tk : Takes X Wout)
    (hb : ∀ (W : WX) (pn : List (Addr × Obj)) (xe : Value → Shared → Prop), Takes (X.tr pn xe) W → PassesOwn (model X.prog X.w) X.A X.env xe → PSs (X.tr pn xe) body (tb W))
    (hh : HdsAs X i n (h₀ :: hds) l) : PS X (.Try body (h₀ :: hds) [] [] pos) (fun D σ H => tb (wManyAs X.K i Wout D l) D σ H) := by
  refine ⟨fun pins s σ H D I h => ?_⟩
  have ok := I.ok
  have hfr : X.A.frames = some (X.env :: X.outer) := by rw [ok.frames, hs]
  have hloc : Loc X.env.scope n := .inl hln
  refine wpAny_Try_except ?_
  refine wpAny_mono ((hb (wManyAs X.K i Wout D l) (X.pn ++ pins) (fun e s₁ => wpAny (model X.prog X.w) X.A (noteFrame e X.env) (fun _ s₂ => wpAny (model X.prog X.w) X.A (setFlight e none) (fun _ s₃ =>
    wpAny (model X.prog X.w) X.A (handleBy e X.env (h₀ :: hds)) (SP X pins D) X.xe s₃) X.xe s₂) X.xe s₁) (fun u s' xx => ?_) PassesOwn.looking).run [] s σ H D (I.toTry _) h) (fun f s1 hsp => ?_) (fun e s1 he => he)
  · -- the catch
    obtain ⟨a, B, sI, pins', σ', H', cls, d, rfl, J', nb, up, sky, na, os, ag, w⟩ := xx
    have J : Inv X pins σ' H' sI := J'.ofTry ok
    have sky' : Sky B (X.env :: X.outer) a (Zc cls d) X.env.locals s'.heap := by rw [← hs]; exact sky
    show wpAny (model X.prog X.w) X.A (noteFrame (.ref a) X.env) _ _ _
    refine Sky.land Zc.steady hfr hf sky' fun h3 fl3 up3 => ?_
    have J3 : Inv X pins σ' H' { s' with heap := h3 } := J.landed nb fl3.1 (up.trans up3) os ag
    obtain ⟨oe3, vs3, he3, hz3, hd3⟩ := fl3.there
    have notFr : ∀ {h : Heap} {o : Obj} {vs : Array Value}, h.FunFrames B (X.env :: X.outer) → h.get? a = some o → o.data = .fields vs → a ∉ frs (X.env :: X.outer) := fun {h o vs} ff e dd hm => by
      obtain ⟨_, o', e', hnf⟩ := ff.mem hm
      rw [e] at e'; cases e'
      exact hnf _ dd
    have nfr := notFr fl3.2.2.1 he3 hd3
    have nL : a ≠ X.env.locals := fun z => nfr (List.mem_filterMap.mpr ⟨X.env, List.mem_cons_self, by rw [hf, z]⟩)
    have nF : a ∉ X.fs := fun hm => by
      obtain ⟨e, he, q⟩ := List.mem_filterMap.mp hm
      exact nfr (List.mem_filterMap.mpr ⟨e, List.mem_cons_of_mem _ he, q⟩)
    have S3 := J3.suite he3 hd3 na nL nF
    have go : ∀ {hds' : List ExceptHandler} {l' : List (Value × (Addr → Value → Option Addr → TS))}, HdsAs X i n hds' l' → wManyAs X.K i Wout D l' cls d σ' H' →
        wpAny (model X.prog X.w) X.A (handleBy (.ref a) X.env hds') (SP X pins D) X.xe { s' with heap := h3 } := by
      intro hds' l' hk
      induction hk with
      | nil =>
        intro w
        refine wpAny_handleBy_nil ?_
        obtain ⟨k1, k2, k3, oe, vs, T, oT, ts', he, hz, hd, h1, hr⟩ := id fl3
        unfold PySem.passOn
        refine wpAny_bind (wpAny_field he hd h1 ?_)
        rw [if_neg (show ¬ ((Value.ref T == Value.none) = true) from by simp)]
        have fin : wpAny (model X.prog X.w) X.A (setFlight (.ref a) X.env.frame) (fun _ s4 => wpAny (model X.prog X.w) X.A (throw (.ref a) : Sem Flow) (SP X pins D) X.xe s4) X.xe { s' with heap := h3 } := by
          rw [hf]
          refine HandSPX.setFlight_upZ fl3 fun h4 hh4 up4 => wpAny_throw (tk _ _ ?_)
          exact ⟨a, B, sI, pins, σ', H', cls, d, rfl, J, nb, (up.trans up3).trans up4, .inr (.inr (by rw [hs]; exact hh4)), na, os, ag, w⟩
        first
          | exact wpAny_bind (wpAny_pure (wpAny_bind fin))
          | exact wpAny_bind fin
      | @cons x c ts b₀ suite np pos' hds2 l2 hc hsu r ih =>
        intro w
        obtain ⟨b, hb1, hyes, hno⟩ := w
        refine wpAny_handleBy_cons (codeAny_handlers_test ?_) (by intro q; cases q)
        have LT : PySem.W.Looks (model X.prog X.w) h3 (typeOf (.ref a)) cls := fun A Q E s k q => wpAny_typeOf_ref (k _ _ he3) (by rw [hz3.1]; exact q)
        have LM := PySem.W.exm_one (M := model X.prog X.w) (J3.kIn) LT hb1
        have test : ∀ {Q : Value → Shared → Prop} {E : Value → Shared → Prop}, Q c { s' with heap := h3 } → wpAny (model X.prog X.w) (X.A.mark (some (.ref a))) (eval (.Name x np) X.env) Q E { s' with heap := h3 } := fun {Q E} q => by
          obtain ⟨hg, hdbg, hm | ⟨hm, hv, hnn⟩⟩ := hc
          · exact ld_glob (X := X.suite a ((a, oe3) :: (X.pn ++ pins))) S3 hg hm q hdbg
          · exact ld_blt (X := X.suite a ((a, oe3) :: (X.pn ++ pins))) S3 hg hm hv q hnn hdbg
        refine test (LM.here ?_)
        cases b with
        | true =>
          refine codeAny_handlers_suite_as ?_
          refine HandSPX.lands_againZ fl3 fun h4 fl4 up4 => ?_
          have J4 : Inv X pins σ' H' { s' with heap := h4 } := J.landed nb fl4.1 ((up.trans up3).trans up4) os ag
          obtain ⟨oe4, vs4, he4, hz4, hd4⟩ := fl4.there
          have S4 := J4.suite he4 hd4 na nL nF
          refine store_ok (X := X.suite a ((a, oe4) :: (X.pn ++ pins))) (v := .ref a) S4 hN hi hloc rfl (fun s5 S5 => ?_) (.inr hln)
          refine wpAny_mono ((hsu a oe4 cls d (X.pn ++ pins) hz4 ⟨_, hd4⟩).run [] s5 _ H' _ S5 (hyes rfl a na)) (fun f s6 hsp => ?_) (fun _ _ z => False.elim z)
          have end_ : ∀ {σ6 : L2.St} {H6 : Hp} {Q : Shared → Prop}, Inv (X.suite a ((a, oe4) :: (X.pn ++ pins))) [] σ6 H6 s6 → (∀ s7, Inv X pins (σ6.set i none) H6 s7 → Q s7) →
              wpAny (model X.prog X.w) X.A (do bindName X.env n .none; unbindBehindTheSuite X.env n pos') (fun _ s7 => Q s7) X.xe s6 := fun {σ6 H6 Q} S6 hq => gone_ok (S6.unsuite ok) hN hi hln hq
          cases f with
          | next =>
            obtain ⟨σ6, H6, S6, q6⟩ := hsp
            exact end_ S6 fun s7 J7 => ⟨_, _, J7, q6⟩
          | brk =>
            obtain ⟨σ6, H6, S6, q6⟩ := hsp
            exact end_ S6 fun s7 J7 => ⟨_, _, J7, q6⟩
          | cont =>
            obtain ⟨σ6, H6, S6, q6⟩ := hsp
            exact end_ S6 fun s7 J7 => ⟨_, _, J7, q6⟩
          | ret u =>
            obtain ⟨v6, σ6, H6, S6, r6, q6⟩ := hsp
            exact end_ S6 fun s7 J7 => ⟨_, _, _, J7, r6, q6⟩
        | false =>
          show wpAny _ X.A (handleBy (.ref a) X.env hds2) _ _ _
          exact ih (hno rfl)
    exact go hh w
  · cases f with
    | next =>
      obtain ⟨σ', H', J', q⟩ := hsp
      exact wpAny_execs_nil ⟨σ', H', J'.ofTry ok, q⟩
    | brk =>
      obtain ⟨σ', H', J', q⟩ := hsp
      exact ⟨σ', H', J'.ofTry ok, q⟩
    | cont =>
      obtain ⟨σ', H', J', q⟩ := hsp
      exact ⟨σ', H', J'.ofTry ok, q⟩
    | ret u =>
      obtain ⟨v, σ', H', J', r, q⟩ := hsp
      exact ⟨v, σ', H', J'.ofTry ok, r, q⟩
end
/-! ### calls within a try -/
section
variable {X : Cx} {CX : CXT} {k n : Nat} {ps ks : List Str} {sp : Sp} {E : L2.St → XK} {x : Str} {p pos : Pos}
  {e : Expr} {es : List Expr} {kws : List Keyword} {t tk : TA} {g : List Value → List Value → List Value} {gV : List V → List V → List V}
theorem backS {pins : List (Addr × Obj)} {σ : L2.St} {H : Hp} {s s' : Shared} {Q : VK} {E : XK} {r : Result}
    (hx : PassesAt CX X σ E) (I : Inv X pins σ H s) (hq : CR CX X.stack X.prog X.w H s Q E r s') :
    match r with
    | .ok (.ret u) => EP X pins σ Q u s'
    | .ok _ => False
    | .error e => X.xe e s' := by
  cases r with
  | error e => exact hx pins H s e s' I hq
  | ok fl =>
    cases fl with
    | ret u => exact I.after hq
    | next => exact hq
    | brk => exact hq
    | cont => exact hq
theorem enterS {f : Addr} {fd : FuncData} {pins : List (Addr × Obj)} {σ : L2.St} {H : Hp} {s : Shared} {Q : VK} {E : XK}
    {args : Args} {us : List Value} {vs : List V} (F : Fg X.prog X.w X.K X.mg X.base CX k f fd ps sp)
    (hr : Rm k X.A) (hx : PassesAt CX X σ E) (I : Inv X pins σ H s) (hb : BindsTo s fd args (ps.zip us))
    (r : Vals vs us) (h : sp vs H Q E) :
    wpAny (model X.prog X.w) X.A (call (.ref f) args.pos args.kw) (EP X pins σ Q) X.xe s := by
  refine wpAny_call (codeAny_mono (F.go X.A X.stack s H args us vs Q E hr I.env0 hb r h) ?_)
  intro r s' hq
  have z := backS hx I hq
  cases r with
  | error e => exact z
  | ok fl =>
    cases fl with
    | ret u => exact z
    | next => exact z.elim
    | brk => exact z.elim
    | cont => exact z.elim
theorem pe_calS (C : Cal X.prog X.w X.K X.mg X.base CX k x ps sp) (hr : Rm k X.A) (hx : ∀ σ, PassesAt CX X σ (E σ))
    (ha : PA X (e :: es) t) (hg : Gl X x := by rfl) (hdb : (x == ("__debug__" : Str)) = false := by decide)
    (he : starEach (e :: es) X.env = (false, eval e X.env) :: starEach es X.env := by rfl)
    (hpl : (backTo pos (starEach es X.env)).any (·.1) = false := by rfl) :
    PE X (.Call (.Name x p) (e :: es) [] pos) (tCallS sp E t) := by
  obtain ⟨f, fd, F, hm, hk, hb⟩ := C.ex
  constructor
  intro pins s σ H Q I h
  refine wpAny_Call_Name_kw (ld_glob I hg hm ?_ hdb)
  refine PySem.W.callWith_K (h₀ := X.base) I.ok.mod.kin hk (thn (ha.run pos pins s σ H _ I h) ?_) he hpl
  rintro us s1 ⟨vs, H1, I1, r, q⟩
  have q : sp vs H1 Q (E σ) := q
  have l : (us ++ []).length = ps.length := by
    rw [List.append_nil, ← r.length]
    exact F.cnt _ _ _ _ q
  have b := hb s1 us I1.kIn l
  rw [List.append_nil] at b
  exact ⟨I1.kIn, enterS (args := ⟨us, []⟩) F hr (hx σ) I1 b r q⟩
def tCallSN (n m : Nat) (sp : Sp) (gV : List V → List V → List V) (E : L2.St → XK) (tk : TA) : TE := fun σ H Q => tk σ H fun zs H2 => zs.length = m ∧ sp (gV [] zs) H2 Q (E σ)
theorem pe_calkS (C : CalK X.prog X.w X.K X.mg X.base CX k x ps 0 ks g gV sp) (hr : Rm k X.A) (hx : ∀ σ, PassesAt CX X σ (E σ))
    (hkw : PK X kws tk) (hg : Gl X x := by rfl)
    (hall : (backToKw pos (keywordEach kws X.env)).all (·.1.isSome) = true := by rfl)
    (hks : (backToKw pos (keywordEach kws X.env)).filterMap (·.1) = ks := by rfl)
    (hdb : (x == ("__debug__" : Str)) = false := by decide)
    (hpl : ((backTo pos (starEach [] X.env)).any (·.1) || (backToKw pos (keywordEach kws X.env)).any (·.1.isNone)) = false := by rfl) :
    PE X (.Call (.Name x p) [] kws pos) (tCallSN 0 ks.length sp gV E tk) := by
  obtain ⟨f, fd, F, hm, hk, hb⟩ := C.ex
  constructor
  intro pins s σ H Q I h
  refine wpAny_Call_Name_kw (ld_glob I hg hm ?_ hdb)
  have h : tk σ H fun zs H2 => zs.length = ks.length ∧ sp (gV [] zs) H2 Q (E σ) := h
  refine PySem.W.callWith_KW0 (h₀ := X.base) I.ok.mod.kin hk hall (thn (hkw.run pos pins s σ H _ I h) ?_) hpl
  rintro ws s2 ⟨zs, H2, I2, rz, l2, q2⟩
  refine ⟨I2.kIn, ?_⟩
  rw [hks]
  exact enterS (args := ⟨[], ks.zip ws⟩) F hr (hx σ) I2
    (hb.to s2 [] ws I2.kIn rfl (rz.length.symm.trans l2)) (hb.rel .nil rz) q2
end
/-! ### errors that carry one value -/
/-- the __init__ of a class statement -/
def initOf : Stmt → Stmt
  | .ClassDef (body := b) .. => b.headD (.Pass ⟨0, 0, 0, 0⟩)
  | s => s
/-- the class x at C, its __init__ at fI, its value's name g -/
structure ErrC (K : PySem.W.Frag) (mg : Str → Option Value) (x g : Str) (C fI : Addr) : Prop where
  oex : OexC K C
  gC : mg x = some (.ref C)
  iC : PySem.W.findIn K (.ref C) "__init__" = some (some (.ref fI))
  tI : PySem.W.typeIn K (.ref fI) = some (.type "function")
  noG : PySem.W.findIn K (.ref C) g = some none
  xf : XfC K C
/-- what __init__ does -/
def spInit (K : PySem.W.Frag) (g : Str) : Sp := fun vs H Q _ => ∃ (a C : Addr) (y : V), vs = [.ref a, y] ∧ OexC K C ∧ PySem.W.findIn K (.ref C) g = some none ∧ H a = some (exo a C none) ∧
  ∀ dx, H dx = none → dx ≠ a → Q .non (upd (upd H dx (exd dx [(g, y)])) a (exo a C (some dx)))
/-- the reading of C(y), at its end -/
theorem made {K : PySem.W.Frag} {g : Str} {C : Addr} {y : V} {H1 : Hp} {Q : XK} (T : OexC K C) (hn : PySem.W.findIn K (.ref C) g = some none) (q : ∀ d, H1 d = none → Q (.ref C) (some d) (upd H1 d (.xd [(g, y)]))) :
    [y].length ≤ 1000 ∧ ∀ a, H1 a = none → spInit K g (.ref a :: ([y] ++ [])) (upd H1 a (exo a C none))
      (fun v H2 => v = .non ∧ ∃ (d : Addr) (fs : List (Str × V)), H2 a = some (exo a C (some d)) ∧ H2 d = some (exd d fs) ∧ H1 d = none ∧ Q (.ref C) (some d) (upd (del H2 a) d (.xd fs))) (fun _ _ _ => False) := by
  refine ⟨by simp, fun a na => ⟨a, C, y, rfl, T, hn, upd_same, fun dx nd ne => ⟨rfl, dx, [(g, y)], upd_same, ?_, ?_, ?_⟩⟩⟩
  · rw [upd_ne ne, upd_same]
  · rw [upd_ne ne] at nd
    exact nd
  · rw [upd_ne ne] at nd
    have e : upd (del (upd (upd (upd H1 a (exo a C none)) dx (exd dx [(g, y)])) a (exo a C (some dx))) a) dx (.xd [(g, y)]) = upd H1 dx (.xd [(g, y)]) := by
      funext b
      by_cases hb : b = dx
      · subst hb
        rw [upd_same, upd_same]
      · rw [upd_ne hb, upd_ne hb]
        by_cases ha : b = a
        · subst ha
          rw [del_same, na]
        · rw [del_ne ha, upd_ne ha, upd_ne hb, upd_ne ha]
    rw [e]
    exact q dx nd
end VB
/-! methods and makings, of defs told as Fg -/
namespace VB
open PySem PySem.Spec PyProof.Rows L2
theorem Rm.make {k : Nat} {A : Around} (r : Rm (k + 1) A) (C : Addr) (us : List Value) (kw : List (Str × Value)) : Rm k (A.under (.builtin "type.__call__" ⟨.ref C :: us, kw⟩)) :=
  ⟨r.rm.make C us kw, r.gd⟩
section
variable (P : Program) (w : World) (K : PySem.W.Frag) (mg : Str → Option Value) (base : Heap) (CX : CXT) (k : Nat)
/-- a method of the class at C -/
structure CalM (C : Addr) (m : Str) (ps : List Str) (sp : Sp) : Prop where
  ex : ∃ (f : Addr) (fd : FuncData), Fg P w K mg base CX k f fd ps sp ∧ Cls K C ∧ Meth K C m f ∧ Binds K fd ps []
/-- .. called with keywords -/
structure CalMK (C : Addr) (m : Str) (ps : List Str) (n : Nat) (ks : List Str) (g : List Value → List Value → List Value) (gV : List V → List V → List V) (sp : Sp) : Prop where
  ex : ∃ (f : Addr) (fd : FuncData), Fg P w K mg base CX k f fd ps sp ∧ Cls K C ∧ Meth K C m f ∧ KBn K fd ps n ks g gV
/-- the class x, made -/
structure Mak (x : Str) (C : Addr) (ps : List Str) (sp : Sp) : Prop where
  ex : ∃ (f : Addr) (fd : FuncData), Fg P w K mg base CX k f fd ps sp ∧ Mk K C f ∧ mg x = some (.ref C) ∧ Binds K fd ps []
structure MakK (x : Str) (C : Addr) (ps : List Str) (n : Nat) (ks : List Str) (g : List Value → List Value → List Value) (gV : List V → List V → List V) (sp : Sp) : Prop where
  ex : ∃ (f : Addr) (fd : FuncData), Fg P w K mg base CX k f fd ps sp ∧ Mk K C f ∧ mg x = some (.ref C) ∧ KBn K fd ps n ks g gV
end
section
variable {X : Cx} {CX : CXT} {k n : Nat} {ps ks : List Str} {sp : Sp} {E : XK} {x m : Str} {p pos apos : Pos} {C : Addr}
  {e o : Expr} {es : List Expr} {kws : List Keyword} {t tk : TA} {ta : TE}
  {g : List Value → List Value → List Value} {gV : List V → List V → List V}
/-- what a call of a method is, step by step -/
abbrev askM (X : Cx) (o : Expr) (m : Str) (pl : Sem Bool) (apos pos : Pos) (zs : List Expr) : Sem Value := do let u ← eval o X.env; standAt apos.atName; let (g, as) ← holding [u] (getMethod u m pl); callWith pos g as (backTo pos (starEach zs X.env)) (backToKw pos (keywordEach [] X.env))
theorem pe_calM {pl : Sem Bool} (M : CalM X.prog X.w X.K X.mg X.base CX k C m ps sp) (hr : Rm k X.A) (hx : Passes CX X E) (he : PE X o ta) (ha : PA X (e :: es) t)
    (hst : starEach (e :: es) X.env = (false, eval e X.env) :: starEach es X.env := by rfl) (hpl : (backTo pos (starEach es X.env)).any (·.1) = false := by rfl)
    (ht : eval (.Call (.Attribute o m apos) (e :: es) [] pos) X.env = askM X o m pl apos pos (e :: es) := by rfl) :
    PE X (.Call (.Attribute o m apos) (e :: es) [] pos) (tMeth C m sp [] E ta t) := by
  obtain ⟨f, fd, F, c, hm, hb⟩ := M.ex
  constructor
  intro pins s σ H Q I h
  refine PySem.W.methodCall_KW (pl := pl) (thn (he.run pins s σ H _ I h) ?_) ht
  rintro u s1 ⟨x, H1, I1, rx, a, dx, fs, rfl, ea, l, q⟩
  obtain rfl : u = Value.ref a := rx
  refine getmeth_ok I1 ea c hm l ?_
  refine PySem.W.callWith_K (first := [.ref a]) (h₀ := X.base) I.ok.mod.kin hm.kp (thn (ha.run pos pins s1 σ H1 _ I1 q) ?_) hst hpl
  rintro us s2 ⟨vs, H2, I2, r, q2⟩
  have q3 : sp (.ref a :: (vs ++ [])) H2 Q E := q2
  rw [List.append_nil] at q3
  have r2 : Vals (V.ref a :: vs) (Value.ref a :: us) := .cons rfl r
  have b := hb s2 (.ref a :: us) I2.kIn (by rw [List.append_nil, ← r2.length]; exact F.cnt _ _ _ _ q3)
  rw [List.append_nil] at b
  exact ⟨I2.kIn, enter (args := ⟨.ref a :: us, []⟩) F hr hx I2 b r2 q3⟩
theorem pe_calM0 {pl : Sem Bool} (M : CalM X.prog X.w X.K X.mg X.base CX k C m ps sp) (hr : Rm k X.A) (hx : Passes CX X E) (he : PE X o ta)
    (ht : eval (.Call (.Attribute o m apos) [] [] pos) X.env = askM X o m pl apos pos [] := by rfl) :
    PE X (.Call (.Attribute o m apos) [] [] pos) (tMeth C m sp [] E ta tNil) := by
  obtain ⟨f, fd, F, c, hm, hb⟩ := M.ex
  constructor
  intro pins s σ H Q I h
  refine PySem.W.methodCall_KW (pl := pl) (thn (he.run pins s σ H _ I h) ?_) ht
  rintro u s1 ⟨x, H1, I1, rx, a, dx, fs, rfl, ea, l, q⟩
  obtain rfl : u = Value.ref a := rx
  refine getmeth_ok I1 ea c hm l ?_
  have q3 : sp [.ref a] H1 Q E := q
  have b := hb s1 [.ref a] I1.kIn (F.cnt _ _ _ _ q3)
  exact PySem.W.callWith_K0 (first := [.ref a]) I1.kIn hm.kp (enter (args := ⟨[.ref a], []⟩) F hr hx I1 b (show Vals [V.ref a] [Value.ref a] from .cons rfl .nil) q3)
theorem run_mak {f : Addr} {fd : FuncData} {pins : List (Addr × Obj)} {σ : L2.St} {H : Hp} {s : Shared} {Q : VK} {us : List Value} {kw : List (Str × Value)} {zs : List Value} {vs : List V} (M : Mk X.K C f) (F : Fg X.prog X.w X.K X.mg X.base CX k f fd ps sp) (hr : Rm (k + 1) X.A)
    (hx : Passes CX X E) (I : Inv X pins σ H s)
    (h : ∀ x dx, H x = none → H dx = none → dx ≠ x → sp (.ref x :: vs) (upd (upd H dx (.own x)) x (.ins C dx [])) (fun v H2 => v = .non ∧ Q (.ref x) H2) E)
    (hb : ∀ (s2 : Shared), X.K.In s2.heap → BindsTo s2 fd ⟨.ref (s.heap.objs.size + 1) :: us, kw⟩ (ps.zip (.ref (s.heap.objs.size + 1) :: zs))) (r : Vals vs zs) :
    wpAny (model X.prog X.w) X.A (call (.ref C) us kw) (EP X pins σ Q) X.xe s := by
  have hq := h (s.heap.objs.size + 1) s.heap.objs.size (I.hok.fresh (Nat.le_succ _)) (I.hok.fresh (Nat.le_refl _)) (Nat.ne_of_lt (Nat.lt_succ_self _))
  have I2 := Inv.made (C := C) I
  refine wpAny_call (make_map (f := f) I.kIn M.makes M.init (beq_iff_eq.mp M.fn) (codeAny_mono (F.go _ X.stack _ _ ⟨.ref (s.heap.objs.size + 1) :: us, kw⟩ (.ref (s.heap.objs.size + 1) :: zs) _ _ E (hr.make C us kw)
    (I2.env0.make C us kw) (hb _ I2.kIn) (show Vals (V.ref (s.heap.objs.size + 1) :: vs) (Value.ref (s.heap.objs.size + 1) :: zs) from .cons rfl r) hq) ?_))
  intro r' s' hq'
  cases r' with
  | error e => exact hx pins σ _ _ e s' I2 hq'
  | ok fl =>
    cases fl with
    | ret u =>
      obtain ⟨v, H', I3, rv, ev, q3⟩ := I2.after hq'
      subst ev
      exact ⟨rv, ⟨V.ref (s.heap.objs.size + 1), H', I3, rfl, q3⟩⟩
    | next => exact False.elim hq'
    | brk => exact False.elim hq'
    | cont => exact False.elim hq'
theorem pe_mak (M : Mak X.prog X.w X.K X.mg X.base CX k x C ps sp) (hr : Rm (k + 1) X.A) (hx : Passes CX X E) (ha : PA X (e :: es) t) (hg : Gl X x := by rfl) (hdb : (x == ("__debug__" : Str)) = false := by decide)
    (he : starEach (e :: es) X.env = (false, eval e X.env) :: starEach es X.env := by rfl) (hpl : (backTo pos (starEach es X.env)).any (·.1) = false := by rfl) :
    PE X (.Call (.Name x p) (e :: es) [] pos) (tMake C sp [] E t) := by
  obtain ⟨f, fd, F, mk, hm, hb⟩ := M.ex
  constructor
  intro pins s σ H Q I h
  refine wpAny_Call_Name_kw (ld_glob I hg hm ?_ hdb)
  refine PySem.W.callWith_K (h₀ := X.base) I.ok.mod.kin mk.kp (thn (ha.run pos pins s σ H _ I h) ?_) he hpl
  rintro us s1 ⟨vs, H1, I1, r, q⟩
  refine ⟨I1.kIn, run_mak (vs := vs) (zs := us) mk F hr hx I1 (fun x dx a b c => ?_) (fun s2 k2 => ?_) r⟩
  · have z := q x dx a b c
    rw [List.append_nil] at z
    exact z
  · have q0 := q (s1.heap.objs.size + 1) s1.heap.objs.size (I1.hok.fresh (Nat.le_succ _)) (I1.hok.fresh (Nat.le_refl _)) (Nat.ne_of_lt (Nat.lt_succ_self _))
    have l := F.cnt _ _ _ _ q0
    have b := hb s2 (.ref (s1.heap.objs.size + 1) :: us) k2 (by rw [List.append_nil, ← l, List.append_nil, List.length_cons, List.length_cons, r.length])
    rw [List.append_nil] at b
    exact b
/-- +: ints, lists, and tuples of any length -/
def rAddA (K : PySem.W.Frag) : R2 := fun x y H Q => rAddU K x y H Q ∨ rCatA K x y H Q
theorem u_addA {K : PySem.W.Frag} (hK : X.K = K := by rfl) : OpR X (binaryOp .Add) (rAddA K) := by
  subst hK
  exact (u_add rfl).or op_catA
/-- an item of a list, at a place from the front -/
def rGetL (K : PySem.W.Frag) : R2 := fun x y H Q => ∃ p xs i z, x = .ref p ∧ y = .int (i : Nat) ∧ SqL K H p xs ∧ xs[i]? = some z ∧ i < 1000000 ∧ Q z H
theorem get_list {K : PySem.W.Frag} (hK : X.K = K := by rfl) : PGet X (rGetL K) := by
  subst hK
  intro pins s σ H x y v u Q I rx ry h
  obtain ⟨p, xs, i, z, rfl, rfl, hq, he, hi, q⟩ := h
  cases rx
  obtain ⟨t, rfl⟩ := ry
  obtain ⟨its, r, pl, hz⟩ := I.list hq
  obtain ⟨w, ew, rw'⟩ := r.get he
  exact wpAny_getItem_list pl.isList (by omega) (by omega) (by simpa using ew) ⟨z, H, I, rw', q⟩
theorem pe_fldU {K : PySem.W.Frag} {f : Str} (he : PE X e ta) (hb : attributeBase e f X.env (eval e X.env) = eval e X.env) (hK : X.K = K := by rfl) : PE X (.Attribute e f pos) (tFld K ta f) := by
  subst hK
  exact pe_fld he hb
theorem ps_fldU {K : PySem.W.Frag} {value : Expr} {tv : TE} {f : Str} {pos' : Pos} (ha : PE X o ta) (hv : PE X value tv) (hs : swapsWith value (some (.Attribute o f pos')) pos.line X.env = pure false) (hK : X.K = K := by rfl) : PS X (.Assign [.Attribute o f pos'] value pos) (sFld K ta tv f) := by
  subst hK
  exact ps_fld ha hv hs
theorem ps_fldaugU {K : PySem.W.Frag} {value : Expr} {tv : TE} {f : Str} {tpos : Pos} {op : Operator} {rd : V → V → Hp → VK → Prop} (ha : PE X o ta) (hv : PE X value tv) (hop : InOp X op rd) (hK : X.K = K := by rfl) : PS X (.AugAssign (.Attribute o f tpos) op value pos) (sFldAug K ta tv rd f) := by
  subst hK
  exact ps_fldaug ha hv hop
theorem pe_dpop2U {f : Expr} {cpos : Pos} {td ty tx : TE} (ho : PE X o td) (he : PE X e ty) (hf : PE X f tx) (h1 : attributeBase o "pop" X.env (eval o X.env) = eval o X.env := by rfl)
    (h2 : ((backTo cpos (starEach [e, f] X.env)).all (fun x => !x.1) && (backToKw cpos (keywordEach [] X.env)).all (fun x => x.1.isSome)
      && decide (([e, f] : List Expr).length + ([] : List Keyword).length + (if ([] : List Keyword).isEmpty then 0 else 1) < 30)) = true := by rfl)
    (h3 : (apos.endLine == cpos.line) = true := by rfl) (h4 : backTo cpos (starEach [e, f] X.env) = [(false, eval e X.env), (false, eval f X.env)] := by rfl) :
    PE X (.Call (.Attribute o "pop" apos) [e, f] [] cpos) (tDPop2 td ty tx) := pe_dpop2 ho he hf ⟨h1, h2, h3, h4⟩
end
end VB
/-! repr of data, of truths and of ints -/
namespace VB
open PySem PySem.Spec PyProof.Rows L2
section
variable {X : Cx}
theorem call_repr_bl : CallR X (.builtin "repr") (fun xs H Q => ∃ b : Bool, xs = [.bl b] ∧ Q (.str (if b then "True" else "False")) H) := by
  intro pins s σ H xs us Q I r h
  obtain ⟨b, rfl, q⟩ := h
  obtain ⟨u, rfl, ru⟩ := vals1 r
  cases (show u = Value.bool b from ru)
  exact PySem.P.repr_of_bool ⟨.str _, H, I.tok _, ⟨_, rfl⟩, q⟩
end
def rReprU (K : PySem.W.Frag) : List V → Hp → VK → Prop := fun xs H Q => rRepr K xs H Q ∨ ((∃ i, xs = [.int i] ∧ i.natAbs.log2 < 1920 ∧ Q (.str (toString i)) H) ∨ ∃ b : Bool, xs = [.bl b] ∧ Q (.str (if b then "True" else "False")) H)
section
variable {X : Cx} {K : PySem.W.Frag} {H : Hp} {Q : VK}
theorem u_reprU {k : Nat} (hr : Rm k X.A) (hK : X.K = K := by rfl) : CallR X (.builtin "repr") (rReprU K) := by
  subst hK
  exact (call_repr hr).or (CallR.or (SkE.call_repr_int (X := X)) (call_repr_bl (X := X)))
theorem rp_bl (b : Bool) (q : Q (.str (if b then "True" else "False")) H) : rReprU K [.bl b] H Q := .inr (.inr ⟨b, rfl, q⟩)
theorem rp_int {i : Int} (h : i.natAbs.log2 < 1920) (q : Q (.str (toString i)) H) : rReprU K [.int i] H Q := .inr (.inl ⟨i, rfl, h, q⟩)
end
end VB
/-! raising an error that carries one value -/
namespace VB
open PySem PySem.Spec PyProof.Rows L2
/-- the class x at C with the value's name g, and its __init__ -/
structure MkE (P : Program) (w : World) (K : PySem.W.Frag) (mg : Str → Option Value) (base : Heap) (x g : Str) (C fI : Addr) : Prop where
  err : ErrC K mg x g C fI
  ini : ∃ fd, FnOk P w K mg base CX0 1 fI fd ["self", g] (spInit K g) ∧ Binds K fd ["self", g] []
section
variable {X : Cx} {x g : Str} {C fI : Addr} {p pos : Pos} {e : Expr} {ta : TA}
theorem pmk_err {k : Nat} (M : MkE X.prog X.w X.K X.mg X.base x g C fI) (hr : Rm k X.A) (ha : PA X [e] ta) (hk : 2 ≤ k := by omega) (hg : Gl X x := by rfl) (hdb : (x == ("__debug__" : Str)) = false := by decide)
    (he : starEach [e] X.env = (false, eval e X.env) :: starEach [] X.env := by rfl) (hpl : (backTo pos (starEach [] X.env)).any (·.1) = false := by rfl) :
    PMk X (.Call (.Name x p) [e] [] pos) (tMkO C (spInit X.K g) [] ta) := by
  obtain ⟨fd, F, b⟩ := M.ini
  exact pmk_oex M.err.oex M.err.iC M.err.tI F (hr.rm.mono hk) b .nil pass0 hg M.err.gC ha hdb he hpl
theorem ps_raiseE {k : Nat} {W : WX} (M : MkE X.prog X.w X.K X.mg X.base x g C fI) (hr : Rm k X.A) (tk : Takes X W) (hc : X.calm = true) (ha : PA X [e] ta) {pos' : Pos} (hk : 2 ≤ k := by omega) (hg : Gl X x := by rfl) (hdb : (x == ("__debug__" : Str)) = false := by decide)
    (he : starEach [e] X.env = (false, eval e X.env) :: starEach [] X.env := by rfl) (hpl : (backTo pos (starEach [] X.env)).any (·.1) = false := by rfl) :
    PS X (.Raise (some (.Call (.Name x p) [e] [] pos)) none pos') (fun _ σ H => tMkO C (spInit X.K g) [] ta σ H fun cls d H' => W cls d σ H') :=
  ps_raise hc tk (pmk_err M hr ha hk hg hdb he hpl)
end
end VB
namespace K10
open PySem PySem.Spec PyProof.Rows L2 VB
def top (i : Nat) : Stmt := PySem.Challenge.pw_onewaybits_k10_whole_what_cuts_leave.main.body.getD i (.Pass ⟨0, 0, 0, 0⟩)
def mtop (i j : Nat) : Stmt := match top i with | .ClassDef _ _ _ b _ _ _ _ _ _ _ => b.getD j (.Pass ⟨0, 0, 0, 0⟩) | _ => .Pass ⟨0, 0, 0, 0⟩
abbrev s_Chip____init__ : Stmt := mtop 46 0
theorem sc_Chip____init__ : FnScope ["self", "blocks", "pages", "bad", "_"] ["self", "blocks", "pages", "bad"] (defScope s_Chip____init__) := ⟨rfl, rfl, rfl, by decide +kernel, rfl, by decide +kernel, by decide +kernel⟩
abbrev s_Chip__read : Stmt := mtop 46 1
theorem sc_Chip__read : FnScope ["self", "block", "page"] ["self", "block", "page"] (defScope s_Chip__read) := ⟨rfl, rfl, rfl, by decide +kernel, rfl, by decide +kernel, by decide +kernel⟩
abbrev s_Chip__write : Stmt := mtop 46 2
theorem sc_Chip__write : FnScope ["self", "block", "page", "octets", "start", "end", "old", "written", "was", "octet"] ["self", "block", "page", "octets"] (defScope s_Chip__write) := ⟨rfl, rfl, rfl, by decide +kernel, rfl, by decide +kernel, by decide +kernel⟩
abbrev s_Chip__erase : Stmt := mtop 46 3
theorem sc_Chip__erase : FnScope ["self", "block"] ["self", "block"] (defScope s_Chip__erase) := ⟨rfl, rfl, rfl, by decide +kernel, rfl, by decide +kernel, by decide +kernel⟩
abbrev s_Chip__erases : Stmt := mtop 46 4
theorem sc_Chip__erases : FnScope ["self", "block"] ["self", "block"] (defScope s_Chip__erases) := ⟨rfl, rfl, rfl, by decide +kernel, rfl, by decide +kernel, by decide +kernel⟩
abbrev s_Chip__cut : Stmt := mtop 46 5
theorem sc_Chip__cut : FnScope ["self", "op", "mask"] ["self", "op", "mask"] (defScope s_Chip__cut) := ⟨rfl, rfl, rfl, by decide +kernel, rfl, by decide +kernel, by decide +kernel⟩
abbrev s_Chip__fail : Stmt := mtop 46 6
theorem sc_Chip__fail : FnScope ["self", "op", "mask"] ["self", "op", "mask"] (defScope s_Chip__fail) := ⟨rfl, rfl, rfl, by decide +kernel, rfl, by decide +kernel, by decide +kernel⟩
abbrev s_Chip__clear_plans : Stmt := mtop 46 7
theorem sc_Chip__clear_plans : FnScope ["self"] ["self"] (defScope s_Chip__clear_plans) := ⟨rfl, rfl, rfl, by decide +kernel, rfl, by decide +kernel, by decide +kernel⟩
abbrev s_Chip__is_bad : Stmt := mtop 46 8
theorem sc_Chip__is_bad : FnScope ["self", "block"] ["self", "block"] (defScope s_Chip__is_bad) := ⟨rfl, rfl, rfl, by decide +kernel, rfl, by decide +kernel, by decide +kernel⟩
abbrev s_Chip__bad_blocks : Stmt := mtop 46 9
theorem sc_Chip__bad_blocks : FnScope ["self", "block"] ["self"] (defScope s_Chip__bad_blocks) := ⟨rfl, rfl, rfl, by decide +kernel, rfl, by decide +kernel, by decide +kernel⟩
abbrev s_Chip__kept_read : Stmt := mtop 46 10
theorem sc_Chip__kept_read : FnScope ["self", "block"] ["self", "block"] (defScope s_Chip__kept_read) := ⟨rfl, rfl, rfl, by decide +kernel, rfl, by decide +kernel, by decide +kernel⟩
abbrev s_Chip__keep_read : Stmt := mtop 46 11
theorem sc_Chip__keep_read : FnScope ["self", "block", "read"] ["self", "block", "read"] (defScope s_Chip__keep_read) := ⟨rfl, rfl, rfl, by decide +kernel, rfl, by decide +kernel, by decide +kernel⟩
abbrev s_Chip___check_block : Stmt := mtop 46 12
theorem sc_Chip___check_block : FnScope ["self", "block"] ["self", "block"] (defScope s_Chip___check_block) := ⟨rfl, rfl, rfl, by decide +kernel, rfl, by decide +kernel, by decide +kernel⟩
abbrev s_Chip___check_page : Stmt := mtop 46 13
theorem sc_Chip___check_page : FnScope ["self", "page"] ["self", "page"] (defScope s_Chip___check_page) := ⟨rfl, rfl, rfl, by decide +kernel, rfl, by decide +kernel, by decide +kernel⟩
abbrev s_Chip___check_plan : Stmt := mtop 46 14
theorem sc_Chip___check_plan : FnScope ["self", "op", "mask"] ["self", "op", "mask"] (defScope s_Chip___check_plan) := ⟨rfl, rfl, rfl, by decide +kernel, rfl, by decide +kernel, by decide +kernel⟩
abbrev s_Chip___do_op : Stmt := mtop 46 15
theorem sc_Chip___do_op : FnScope ["self", "block", "new", "op", "cut_mask", "fail_mask"] ["self", "block", "new"] (defScope s_Chip___do_op) := ⟨rfl, rfl, rfl, by decide +kernel, rfl, by decide +kernel, by decide +kernel⟩
abbrev s_Chip___set_octets : Stmt := mtop 46 16
theorem sc_Chip___set_octets : FnScope ["self", "block", "octets"] ["self", "block", "octets"] (defScope s_Chip___set_octets) := ⟨rfl, rfl, rfl, by decide +kernel, rfl, by decide +kernel, by decide +kernel⟩
abbrev s__wall : Stmt := top 0
theorem sc__wall : FnScope ["k"] ["k"] (defScope s__wall) := ⟨rfl, rfl, rfl, by decide +kernel, rfl, by decide +kernel, by decide +kernel⟩
abbrev s_is_int : Stmt := top 15
theorem sc_is_int : FnScope ["value"] ["value"] (defScope s_is_int) := ⟨rfl, rfl, rfl, by decide +kernel, rfl, by decide +kernel, by decide +kernel⟩
abbrev s_is_int_from : Stmt := top 16
theorem sc_is_int_from : FnScope ["value", "least", "greatest"] ["value", "least", "greatest"] (defScope s_is_int_from) := ⟨rfl, rfl, rfl, by decide +kernel, rfl, by decide +kernel, by decide +kernel⟩
abbrev s_is_list : Stmt := top 17
theorem sc_is_list : FnScope ["value"] ["value"] (defScope s_is_list) := ⟨rfl, rfl, rfl, by decide +kernel, rfl, by decide +kernel, by decide +kernel⟩
abbrev s_is_octets : Stmt := top 18
theorem sc_is_octets : FnScope ["value", "octet"] ["value"] (defScope s_is_octets) := ⟨rfl, rfl, rfl, by decide +kernel, rfl, by decide +kernel, by decide +kernel⟩
abbrev s_is_octets_of : Stmt := top 19
theorem sc_is_octets_of : FnScope ["value", "count"] ["value", "count"] (defScope s_is_octets_of) := ⟨rfl, rfl, rfl, by decide +kernel, rfl, by decide +kernel, by decide +kernel⟩
abbrev s_is_mask : Stmt := top 20
theorem sc_is_mask : FnScope ["value"] ["value"] (defScope s_is_mask) := ⟨rfl, rfl, rfl, by decide +kernel, rfl, by decide +kernel, by decide +kernel⟩
abbrev s_zero_bits : Stmt := top 23
theorem sc_zero_bits : FnScope ["octets", "octet"] ["octets"] (defScope s_zero_bits) := ⟨rfl, rfl, rfl, by decide +kernel, rfl, by decide +kernel, by decide +kernel⟩
abbrev s_changed : Stmt := top 24
theorem sc_changed : FnScope ["old", "new", "mask", "unlike", "octets", "k", "bit", "was", "now"] ["old", "new", "mask"] (defScope s_changed) := ⟨rfl, rfl, rfl, by decide +kernel, rfl, by decide +kernel, by decide +kernel⟩
abbrev s__check_octets : Stmt := top 25
theorem sc__check_octets : FnScope ["octets"] ["octets"] (defScope s__check_octets) := ⟨rfl, rfl, rfl, by decide +kernel, rfl, by decide +kernel, by decide +kernel⟩
abbrev s__check_pair : Stmt := top 26
theorem sc__check_pair : FnScope ["old", "new"] ["old", "new"] (defScope s__check_pair) := ⟨rfl, rfl, rfl, by decide +kernel, rfl, by decide +kernel, by decide +kernel⟩
abbrev s__ones : Stmt := top 27
theorem sc__ones : FnScope ["octets", "bit"] ["octets"] (defScope s__ones) := ⟨rfl, rfl, rfl, by decide +kernel, rfl, by decide +kernel, by decide +kernel⟩
abbrev s__worth : Stmt := top 28
theorem sc__worth : FnScope ["bit"] ["bit"] (defScope s__worth) := ⟨rfl, rfl, rfl, by decide +kernel, rfl, by decide +kernel, by decide +kernel⟩
abbrev s_sealed : Stmt := top 31
theorem sc_sealed : FnScope ["data"] ["data"] (defScope s_sealed) := ⟨rfl, rfl, rfl, by decide +kernel, rfl, by decide +kernel, by decide +kernel⟩
abbrev s_is_clean : Stmt := top 32
theorem sc_is_clean : FnScope ["value"] ["value"] (defScope s_is_clean) := ⟨rfl, rfl, rfl, by decide +kernel, rfl, by decide +kernel, by decide +kernel⟩
abbrev s_is_whole : Stmt := top 33
theorem sc_is_whole : FnScope ["value"] ["value"] (defScope s_is_whole) := ⟨rfl, rfl, rfl, by decide +kernel, rfl, by decide +kernel, by decide +kernel⟩
abbrev s_is_torn : Stmt := top 34
theorem sc_is_torn : FnScope ["value"] ["value"] (defScope s_is_torn) := ⟨rfl, rfl, rfl, by decide +kernel, rfl, by decide +kernel, by decide +kernel⟩
abbrev s_data_of : Stmt := top 35
theorem sc_data_of : FnScope ["octets"] ["octets"] (defScope s_data_of) := ⟨rfl, rfl, rfl, by decide +kernel, rfl, by decide +kernel, by decide +kernel⟩
abbrev s_data_told_by : Stmt := top 36
theorem sc_data_told_by : FnScope ["page", "data", "check"] ["page"] (defScope s_data_told_by) := ⟨rfl, rfl, rfl, by decide +kernel, rfl, by decide +kernel, by decide +kernel⟩
abbrev s_surplus : Stmt := top 37
theorem sc_surplus : FnScope ["octets"] ["octets"] (defScope s_surplus) := ⟨rfl, rfl, rfl, by decide +kernel, rfl, by decide +kernel, by decide +kernel⟩
abbrev s_is_rest : Stmt := top 38
theorem sc_is_rest : FnScope ["data", "value", "page", "octet", "due"] ["data", "value"] (defScope s_is_rest) := ⟨rfl, rfl, rfl, by decide +kernel, rfl, by decide +kernel, by decide +kernel⟩
abbrev s__is_page : Stmt := top 39
theorem sc__is_page : FnScope ["value"] ["value"] (defScope s__is_page) := ⟨rfl, rfl, rfl, by decide +kernel, rfl, by decide +kernel, by decide +kernel⟩
abbrev s_is_block_count : Stmt := top 47
theorem sc_is_block_count : FnScope ["value"] ["value"] (defScope s_is_block_count) := ⟨rfl, rfl, rfl, by decide +kernel, rfl, by decide +kernel, by decide +kernel⟩
abbrev s_is_page_count : Stmt := top 48
theorem sc_is_page_count : FnScope ["value"] ["value"] (defScope s_is_page_count) := ⟨rfl, rfl, rfl, by decide +kernel, rfl, by decide +kernel, by decide +kernel⟩
abbrev s_is_bad_count : Stmt := top 49
theorem sc_is_bad_count : FnScope ["value", "blocks"] ["value", "blocks"] (defScope s_is_bad_count) := ⟨rfl, rfl, rfl, by decide +kernel, rfl, by decide +kernel, by decide +kernel⟩
abbrev s__clean_block : Stmt := top 50
theorem sc__clean_block : FnScope ["pages"] ["pages"] (defScope s__clean_block) := ⟨rfl, rfl, rfl, by decide +kernel, rfl, by decide +kernel, by decide +kernel⟩
abbrev s__law_cell : Stmt := top 52
theorem sc__law_cell : FnScope ["_law_script", "_law_k"] ["_law_script", "_law_k"] (defScope s__law_cell) := ⟨rfl, rfl, rfl, by decide +kernel, rfl, by decide +kernel, by decide +kernel⟩
abbrev s__law_box : Stmt := top 53
theorem sc__law_box : FnScope ["_law_great"] ["_law_great"] (defScope s__law_box) := ⟨rfl, rfl, rfl, by decide +kernel, rfl, by decide +kernel, by decide +kernel⟩
abbrev s__law_take : Stmt := top 54
theorem sc__law_take : FnScope ["_law_box_here", "_law_many", "_law_digit", "_law_mixed"] ["_law_box_here", "_law_many"] (defScope s__law_take) := ⟨rfl, rfl, rfl, by decide +kernel, rfl, by decide +kernel, by decide +kernel⟩
abbrev s__law_zeros : Stmt := top 55
theorem sc__law_zeros : FnScope ["_law_octets", "_law_found", "_law_octet", "_law_worth"] ["_law_octets"] (defScope s__law_zeros) := ⟨rfl, rfl, rfl, by decide +kernel, rfl, by decide +kernel, by decide +kernel⟩
abbrev s__law_drawn : Stmt := top 56
theorem sc__law_drawn : FnScope ["_law_box_here", "_law_count", "_law_k"] ["_law_box_here", "_law_count"] (defScope s__law_drawn) := ⟨rfl, rfl, rfl, by decide +kernel, rfl, by decide +kernel, by decide +kernel⟩
abbrev s__law_data : Stmt := top 57
theorem sc__law_data : FnScope ["_law_box_here", "_law_way", "_law_found", "_law_k"] ["_law_box_here"] (defScope s__law_data) := ⟨rfl, rfl, rfl, by decide +kernel, rfl, by decide +kernel, by decide +kernel⟩
abbrev s__law_page : Stmt := top 58
theorem sc__law_page : FnScope ["_law_data_here"] ["_law_data_here"] (defScope s__law_page) := ⟨rfl, rfl, rfl, by decide +kernel, rfl, by decide +kernel, by decide +kernel⟩
abbrev s__law_part : Stmt := top 59
theorem sc__law_part : FnScope ["_law_box_here", "_law_one", "_law_two", "_law_way", "_law_spot", "_law_worth", "_law_at"] ["_law_box_here"] (defScope s__law_part) := ⟨rfl, rfl, rfl, by decide +kernel, rfl, by decide +kernel, by decide +kernel⟩
abbrev s__law_long : Stmt := top 60
theorem sc__law_long : FnScope ["_law_box_here"] ["_law_box_here"] (defScope s__law_long) := ⟨rfl, rfl, rfl, by decide +kernel, rfl, by decide +kernel, by decide +kernel⟩
abbrev s__law_mask : Stmt := top 61
theorem sc__law_mask : FnScope ["_law_box_here", "_law_most", "_law_way", "_law_at", "_law_one", "_law_two"] ["_law_box_here"] (defScope s__law_mask) := ⟨rfl, rfl, rfl, by decide +kernel, rfl, by decide +kernel, by decide +kernel⟩
abbrev s__law_told_right : Stmt := top 62
theorem sc__law_told_right : FnScope ["_law_data_here", "_law_page_here", "_law_whole", "_law_plain", "_law_told"] ["_law_data_here", "_law_page_here"] (defScope s__law_told_right) := ⟨rfl, rfl, rfl, by decide +kernel, rfl, by decide +kernel, by decide +kernel⟩
abbrev s__law_plain_right : Stmt := top 63
theorem sc__law_plain_right : FnScope ["_law_box_here", "_law_data_here", "_law_here", "_law_clean", "_law_k", "_law_aim", "_law_part_here", "_law_there", "_law_steps", "_law_at"] ["_law_box_here"] (defScope s__law_plain_right) := ⟨rfl, rfl, rfl, by decide +kernel, rfl, by decide +kernel, by decide +kernel⟩
abbrev s__law_done : Stmt := top 64
theorem sc__law_done : FnScope ["_law_chip", "_law_block", "_law_page_here", "_law_octets"] ["_law_chip", "_law_block", "_law_page_here", "_law_octets"] (defScope s__law_done) := ⟨rfl, rfl, rfl, by decide +kernel, rfl, by decide +kernel, by decide +kernel⟩
abbrev s__law_step_right : Stmt := top 65
theorem sc__law_step_right : FnScope ["_law_box_here", "_law_chip", "_law_block", "_law_pages", "_law_datas", "_law_at", "_law_plan", "_law_mask_here", "_law_old", "_law_done_here", "_law_k", "_law_steps", "_law_page_here"] ["_law_box_here", "_law_chip", "_law_block", "_law_pages", "_law_datas"] (defScope s__law_step_right) := ⟨rfl, rfl, rfl, by decide +kernel, rfl, by decide +kernel, by decide +kernel⟩
abbrev s__law_chip_right : Stmt := top 66
theorem sc__law_chip_right : FnScope ["_law_box_here", "_law_chip", "_law_block", "_law_first", "_law_pages", "_law_datas", "_law_at", "_law_k"] ["_law_box_here"] (defScope s__law_chip_right) := ⟨rfl, rfl, rfl, by decide +kernel, rfl, by decide +kernel, by decide +kernel⟩
abbrev s__law_without : Stmt := top 67
theorem sc__law_without : FnScope ["_law_bits", "_law_found", "_law_bit"] ["_law_bits"] (defScope s__law_without) := ⟨rfl, rfl, rfl, by decide +kernel, rfl, by decide +kernel, by decide +kernel⟩
abbrev s__law_two_right : Stmt := top 68
theorem sc__law_two_right : FnScope ["_law_box_here", "_law_one", "_law_two", "_law_three", "_law_chip", "_law_left", "_law_spot", "_law_page_here", "_law_bit"] ["_law_box_here"] (defScope s__law_two_right) := ⟨rfl, rfl, rfl, by decide +kernel, rfl, by decide +kernel, by decide +kernel⟩
abbrev s_law : Stmt := top 69
theorem sc_law : FnScope ["_law_script"] ["_law_script"] (defScope s_law) := ⟨rfl, rfl, rfl, by decide +kernel, rfl, by decide +kernel, by decide +kernel⟩
abbrev FnP (K : PySem.W.Frag) (x : Str) (st : Stmt) (f : Addr) (fd : FuncData) : Prop := FunD K x x (defArgs st) (defBody st) (defScope st) [] [] f fd
abbrev FnM (K : PySem.W.Frag) (m q : Str) (st : Stmt) (f : Addr) (fd : FuncData) : Prop := FunD K m q (defArgs st) (defBody st) (defScope st) [] [] f fd
structure Txt (K : PySem.W.Frag) (mg : Str → Option Value) : Prop where
  f_abs : mg "abs" = none
  f_all : mg "all" = none
  f_bool : mg "bool" = none
  f_enumerate : mg "enumerate" = none
  f_int : mg "int" = none
  f_isinstance : mg "isinstance" = none
  f_len : mg "len" = none
  f_list : mg "list" = none
  f_min : mg "min" = none
  f_range : mg "range" = none
  f_repr : mg "repr" = none
  f_sum : mg "sum" = none
  f_tuple : mg "tuple" = none
  f_zip : mg "zip" = none
  g_DATA_OCTETS : ∃ t, mg "DATA_OCTETS" = some (.int 30 t)
  g_LEAST_BLOCKS : ∃ t, mg "LEAST_BLOCKS" = some (.int 8 t)
  g_LEAST_GOOD_BLOCKS : ∃ t, mg "LEAST_GOOD_BLOCKS" = some (.int 7 t)
  g_LEAST_PAGES : ∃ t, mg "LEAST_PAGES" = some (.int 8 t)
  g_MASK_BITS : ∃ t, mg "MASK_BITS" = some (.int 4096 t)
  g_MOST_BLOCKS : ∃ t, mg "MOST_BLOCKS" = some (.int 24 t)
  g_MOST_PAGES : ∃ t, mg "MOST_PAGES" = some (.int 16 t)
  g_MOST_ZEROS : ∃ t, mg "MOST_ZEROS" = some (.int 240 t)
  g_PAGE_OCTETS : ∃ t, mg "PAGE_OCTETS" = some (.int 31 t)
  t_ZEROS_OF_HALF : ∀ H : Hp, SqT K H (He.ga K "ZEROS_OF_HALF") (List.map V.int [4, 3, 3, 2, 3, 2, 2, 1, 3, 2, 2, 1, 2, 1, 1, 0])
  g_ZEROS_OF_HALF : mg "ZEROS_OF_HALF" = some (.ref (He.ga K "ZEROS_OF_HALF"))
end K10
namespace K10
open PySem PySem.Spec PyProof.Rows L2 VB BM
section
variable {P : Program} {w : World} {K : PySem.W.Frag} {mg : Str → Option Value} {base : Heap} {f : Addr} {fd : FuncData}
def spTake : Sp := fun vs H Q _ => ∃ (a : Addr) (many n : Int), vs = [.ref a, .int many] ∧ Box H a n ∧ 0 < many ∧ many < 2000000 ∧ n < 100000000 ∧
  ∀ (r : Int) (H' : Hp), 0 ≤ r → r < many → Exb a H H' → Box H' a (n + 1) → Q (.int r) H'
theorem ok_take (T : Txt K mg) (F : FnP K "_law_take" s__law_take f fd) : Fg P w K mg base CX0 1 f fd ["_law_box_here", "_law_many"] spTake := by
  refine fg_of F sc__law_take (fun vs H Q E h => ?_) (fun cdv A outer s H vs Q E hr h => ⟨_, (PSs.nox (pss_cons (ps_if (PW.pt (pw_and (pt_tru (K := K) (pe_ix (u_ix (K := K)) (pv 0) pe_int (fun _ _ => rfl)) (by intro _; rfl)) (pw_and1 (pt_cmpR op_gt (pe_ix (u_ix (K := K)) (pv 0) pe_int (fun _ _ => rfl)) pe_int (nomark _)))))
  (pss_cons (ps_set (i := 2) sc__law_take.nd rfl (by first | exact Or.inl rfl | exact Or.inr rfl) (pe_op u_mod (pe_callTy call_int1 (by rfl) T.f_int (by decide +kernel) (pa_cons (pe_ix (u_ix (K := K)) (pv 0) pe_int (fun _ _ => rfl)) pa_nil)) (pv 1)))
  (pss_cons (ps_asg (pe_op u_fdiv (pe_ix (u_ix (K := K)) (pv 0) pe_int (fun _ _ => rfl)) (pv 1)) (pg_sub (pv 0) pe_int set_list))
  (pss_one (ps_ret (pv 2))))) pss_nil)
  (pss_cons (ps_asg (pe_op (u_add (K := K)) (pe_ix (u_ix (K := K)) (pv 0) pe_int (fun _ _ => rfl)) pe_int) (pg_sub (pv 0) pe_int set_list))
  (pss_cons (ps_set (i := 3) sc__law_take.nd rfl (by first | exact Or.inl rfl | exact Or.inr rfl) (pe_op u_mod (pe_callTy call_int1 (by rfl) T.f_int (by decide +kernel) (pa_cons (pe_op op_pow (pe_op (u_add (K := K)) (pe_op (u_add (K := K)) (pe_ix (u_ix (K := K)) (pv 0) pe_int (fun _ _ => rfl)) (pe_op (u_mul (K := K)) pe_int (pe_ix (u_ix (K := K)) (pv 0) pe_int (fun _ _ => rfl)))) pe_int) pe_int) pa_nil)) pe_int))
  (pss_one (ps_ret (pe_op u_mod (pe_op u_fdiv (pe_op u_mod (pe_callTy call_int1 (by rfl) T.f_int (by decide +kernel) (pa_cons (pe_op op_pow (pe_op (u_add (K := K)) (pe_op (u_mul (K := K)) (pv 3) pe_int) (pe_op (u_mul (K := K)) pe_int (pe_ix (u_ix (K := K)) (pv 0) pe_int (fun _ _ => rfl)))) pe_int) pa_nil)) pe_int) pe_int) (pv 1)))))))), ?_⟩)
  · obtain ⟨a, many, n, rfl, _⟩ := h
    rfl
  · obtain ⟨a, many, n, rfl, ⟨d, m, c, b, hb, hd, hm, hm2, hc, hc2⟩, h1, h2, hn, q⟩ := h
    have S : SqL K H a [.int d, .bl b, .int m, .int c] := SqL.of hb
    -- the digits' way
    have A1 : b = true → 0 < d → Q (.int (d % many)) (upd H a (.lst [.int (d / many), .bl b, .int m, .int c])) := by
      intro _ _
      refine q _ _ (Int.emod_nonneg _ (by omega)) (Int.emod_lt_of_pos _ h1) Exb.upd ⟨d / many, m, c, b, upd_same, Int.ediv_nonneg hd (by omega), hm, hm2, hc, by omega⟩
    -- the mixed way
    have A2 : ∀ z : Int, Q (.int (z % many)) (upd H a (.lst [.int d, .bl b, .int m, .int (c + 1)])) := by
      intro z
      exact q _ _ (Int.emod_nonneg _ (by omega)) (Int.emod_lt_of_pos _ h1) Exb.upd ⟨d, m, c + 1, b, upd_same, hd, hm, hm2, by omega, by omega⟩
    have S1 : SqL K (upd H a (.lst [.int d, .bl b, .int m, .int (c + 1)])) a [.int d, .bl b, .int m, .int (c + 1)] := SqL.of upd_same
    have k1 : CMulX 15485867 (c + 1) := mulx_ok (a := 30) (b := 30) (by decide) (by show _ < 1073741824; omega) (by decide)
    have k2 : ∀ x : Int, 0 ≤ x → x < 2147483647 → CMulX x 48271 := fun x _ _ => mulx_ok (a := 32) (b := 20) (by show _ < 4294967296; omega) (by decide) (by decide)
    have k3 : CMulX 7919 (c + 1) := mulx_ok (a := 30) (b := 30) (by decide) (by show _ < 1073741824; omega) (by decide)
    have p1 : CPow (m + 15485867 * (c + 1) + 179425033) 5 := ⟨by decide, by decide, by show _ < 18446744073709551616; omega⟩
    have p2 : ∀ x : Int, 0 ≤ x → x < 2147483647 → CPow (x * 48271 + 7919 * (c + 1)) 3 := fun x _ _ => ⟨by decide, by decide, by show _ < 18446744073709551616; omega⟩
    have nz1 : (0 : Int) < 2147483647 := by decide
    have nz2 : (0 : Int) < 2147483587 := by decide
    have cd64 : (0 : Int) < 64 ∧ (64 : Int) < 1073741824 := by decide
    have hx0 : ∀ z : Int, 0 ≤ z % 2147483647 ∧ z % 2147483647 < 2147483647 := by
      intro z
      exact ⟨Int.emod_nonneg _ (by decide), Int.emod_lt_of_pos _ (by decide)⟩
    refine ⟨_, rfl, .inl ⟨a, _, 1, _, rfl, rfl, S, rfl, b, rfl, ?_⟩⟩
    by_cases hbd : b = true ∧ 0 < d
    · obtain ⟨rfl, hd0⟩ := hbd
      refine iteT ⟨_, rfl, .inl ⟨a, _, 0, _, rfl, rfl, S, rfl, _, _, rfl, rfl, _, rfl, ?_⟩⟩
      rw [decide_eq_true hd0]
      refine iteT ⟨_, rfl, .inl ⟨a, _, 0, _, rfl, rfl, S, rfl, .inl ⟨_, rfl, _, rfl, _, _, rfl, rfl, h1, ?_⟩⟩⟩
      refine ⟨_, rfl, .inl ⟨a, _, 0, _, rfl, rfl, S, rfl, _, rfl, _, _, rfl, rfl, ⟨h1, by omega⟩, _, rfl, a, _, _, _, rfl, rfl, hb, rfl, ?_⟩⟩
      exact ⟨_, rfl, A1 rfl hd0⟩
    · apply once
      · intro rest
        cases b with
        | false => exact iteF (iteF rest)
        | true =>
          refine iteT ⟨_, rfl, .inl ⟨a, _, 0, _, rfl, rfl, S, rfl, _, _, rfl, rfl, _, rfl, ?_⟩⟩
          rw [decide_eq_false (fun z => hbd ⟨rfl, z⟩)]
          exact iteF rest
      refine ⟨_, rfl, .inl ⟨a, _, 3, _, rfl, rfl, S, rfl, .inl ⟨_, _, rfl, rfl, _, rfl, a, _, _, _, rfl, rfl, hb, rfl, ?_⟩⟩⟩
      refine ⟨_, rfl, .inl ⟨a, _, 2, _, rfl, rfl, S1, rfl, ?_⟩⟩
      refine ⟨_, rfl, .inl ⟨a, _, 3, _, rfl, rfl, S1, rfl, .inl ⟨_, _, rfl, rfl, k1, .inl ⟨_, _, rfl, rfl, .inl ⟨_, _, rfl, rfl, _, _, rfl, rfl, p1, .inl ⟨_, rfl, _, _, rfl, rfl, nz1, ?_⟩⟩⟩⟩⟩⟩
      refine ⟨_, rfl, .inl ⟨_, _, rfl, rfl, k2 _ (hx0 _).1 (hx0 _).2, ?_⟩⟩
      refine ⟨_, rfl, .inl ⟨a, _, 3, _, rfl, rfl, S1, rfl, .inl ⟨_, _, rfl, rfl, k3, .inl ⟨_, _, rfl, rfl, _, _, rfl, rfl, p2 _ (hx0 _).1 (hx0 _).2, .inl ⟨_, rfl, _, _, rfl, rfl, nz2, ?_⟩⟩⟩⟩⟩
      refine ⟨_, _, rfl, rfl, cd64, _, rfl, _, _, rfl, rfl, h1, ?_⟩
      exact A2 _
/-! ### cells and boxes -/
def spBox : Sp := fun vs H Q _ => ∃ g : Int, vs = [.int g] ∧ ∀ (p : Addr) (H' : Hp), H p = none → Evl.Ex H H' → Box H' p 0 → Q (.ref p) H'
theorem ok_box (T : Txt K mg) (F : FnP K "_law_box" s__law_box f fd) : Fg P w K mg base CX0 1 f fd ["_law_great"] spBox := by
  refine fg_of F sc__law_box (fun vs H Q E h => ?_) (fun cdv A outer s H vs Q E hr h => ⟨_, (PSs.nox (pss_one (ps_ret (pe_lst (pa_cons (pe_callB call_abs (by rfl) T.f_abs (by decide +kernel) (pa_cons (pv 0) pa_nil)) (pa_cons (pe_cmpR op_ge (pe_callB call_abs (by rfl) T.f_abs (by decide +kernel) (pa_cons (pv 0) pa_nil)) (pe_op op_pow pe_int pe_int) (nomark _)) (pa_cons (pe_op u_mod (pe_callTy call_int1 (by rfl) T.f_int (by decide +kernel) (pa_cons (pe_callB call_abs (by rfl) T.f_abs (by decide +kernel) (pa_cons (pv 0) pa_nil)) pa_nil)) pe_int) (pa_cons pe_int pa_nil)))))))), ?_⟩)
  · obtain ⟨g, rfl, _⟩ := h
    rfl
  · obtain ⟨g, rfl, q⟩ := h
    have nz : (0 : Int) < 2147483629 := by decide
    have hp : CPow 10 18 := ⟨by decide, by decide, by decide⟩
    refine ⟨_, rfl, _, rfl, _, rfl, _, rfl, _, _, rfl, rfl, hp, _, _, rfl, rfl, _, rfl, _, rfl, .inl ⟨_, rfl, _, _, rfl, rfl, nz, ?_⟩⟩
    refine ⟨by show 4 ≤ sizeLine; decide, fun p hp => q p _ hp (Evl.Ex.new hp) ⟨_, _, _, _, upd_same, ?_, ?_, ?_, by omega, by omega⟩⟩
    · split <;> omega
    · exact Int.emod_nonneg _ (by decide)
    · exact Int.emod_lt_of_pos _ (by decide)
def spCell (K : PySem.W.Frag) : Sp := fun vs H Q _ => ∃ (a : Addr) (ns : List Int) (k : Int), vs = [.ref a, .int k] ∧ SqL K H a (ns.map V.int) ∧ 0 ≤ k ∧ k ≤ 100 ∧ ns.length ≤ 1000 ∧
  ∀ (g : Int) (H' : Hp), Evl.Ex H H' → Q (.int g) H'
theorem ok_cell (T : Txt K mg) (F : FnP K "_law_cell" s__law_cell f fd) : Fg P w K mg base CX0 1 f fd ["_law_script", "_law_k"] (spCell K) := by
  refine fg_of F sc__law_cell (fun vs H Q E h => ?_) (fun cdv A outer s H vs Q E hr h => ⟨_, (PSs.nox (pss_one (ps_ret (pe_ifExp (pt_cmpR op_lt (pv 1) (pe_callB (u_len (K := K)) (by rfl) T.f_len (by decide +kernel) (pa_cons (pv 0) pa_nil)) (nomark _)) (pe_ix (u_ix (K := K)) (pv 0) (pv 1) (fun _ _ => rfl)) (pe_op (u_add (K := K)) (pe_op (u_mul (K := K)) pe_int (pv 1)) (pe_op u_mod (pe_callTy call_int1 (by rfl) T.f_int (by decide +kernel) (pa_cons (pe_callB (u_sum (K := K) rfl) (by rfl) T.f_sum (by decide +kernel) (pa_cons (pe_slice (u_sl (K := K)) (pv 0) po_none (po_some pe_int)) pa_nil)) pa_nil)) pe_int)))))), ?_⟩)
  · obtain ⟨a, ns, k, rfl, _⟩ := h
    rfl
  · obtain ⟨a, ns, k, rfl, S, k0, k1, hl, q⟩ := h
    have nz : (0 : Int) < 1000003 := by decide
    refine ⟨_, rfl, _, rfl, _, _, rfl, .inl ⟨_, S, rfl⟩, _, _, rfl, rfl, _, rfl, ?_⟩
    rw [List.length_map]
    refine ite2 (fun h => ?_) (fun h => ?_)
    · have h' : k < (ns.length : Int) := by simpa using h
      obtain ⟨j, rfl⟩ : ∃ j : Nat, k = j := ⟨k.toNat, by omega⟩
      have hj : j < ns.length := by omega
      refine ⟨_, rfl, _, rfl, .inl ⟨a, _, _, .int ns[j], rfl, rfl, S, ?_, q _ _ (Evl.Ex.refl _)⟩⟩
      rw [atI_nat]
      simp [hj]
    · have km : CMulX 7919 k := mulx_ok (a := 30) (b := 30) (by decide) (by show _ < 1073741824; omega) (by decide)
      have cut : ∃ ms : List Int, cutV (ns.map V.int) none (some 1) = ms.map V.int := ⟨(ns.drop _).take _, by unfold cutV; rw [← List.map_drop, ← List.map_take]⟩
      obtain ⟨ms, hms⟩ := cut
      refine ⟨_, rfl, .inl ⟨_, _, rfl, rfl, km, _, rfl, _, rfl, .inl ⟨a, _, rfl, S, fun p hp => ⟨p, ms, rfl, ?_, .inl ⟨_, rfl, _, _, rfl, rfl, nz, .inl ⟨_, _, rfl, rfl, q _ _ (Evl.Ex.new hp)⟩⟩⟩⟩⟩⟩
      rw [hms]
      exact SqL.of upd_same

end
end K10
namespace K10
open PySem PySem.Spec PyProof.Rows L2 VB BM
theorem zc_snoc_take (o u : Int) (j : Nat) (h : ws8[j]? = some u) : zc ((ws8.map fun u => o / u % 2).take (j + 1)) = zc ((ws8.map fun u => o / u % 2).take j) + (1 - o / u % 2) := by
  have e : ((ws8.map fun u => o / u % 2).take (j + 1)) = ((ws8.map fun u => o / u % 2).take j) ++ [o / u % 2] := by
    refine take_snoc ?_
    rw [List.getElem?_map, h]
    rfl
  rw [e]
  unfold zc
  rw [List.count_append]
  rcases Int.emod_two_eq (o / u) with z | z <;> rw [z] <;> simp
theorem zc_app (a b : List Int) : zc (a ++ b) = zc a + zc b := by
  unfold zc
  rw [List.count_append]
  omega
/-- a list as new, of octets -/
abbrev NewL (a : Addr) (n : Int) (H : Hp) (Q : VK) (ok : List Int → Prop) : Prop := ∀ (p : Addr) (H' : Hp) (xs : List Int), Oct xs → ok xs → p ≠ a → H p = none → Exb a H H' → Box H' a n → H' p = some (.lst (IV xs)) → Q (.ref p) H'
theorem oct_set {os : List Int} {i : Nat} {v : Int} (h : Oct os) (h0 : 0 ≤ v ∧ v ≤ 255) : Oct (os.set i v) := by
  intro z hz
  rcases List.mem_or_eq_of_mem_set hz with z1 | z1
  · exact h z z1
  · omega
theorem oct_app {a b : List Int} (h1 : Oct a) (h2 : Oct b) : Oct (a ++ b) := by
  intro o ho
  rcases List.mem_append.mp ho with z | z
  · exact h1 o z
  · exact h2 o z
theorem oct_rep {c : Nat} {o : Int} (h : 0 ≤ o ∧ o ≤ 255) : Oct (List.replicate c o) := fun z hz => by
  rw [List.eq_of_mem_replicate hz]
  exact h
theorem bit_up : ∀ o : Nat, o < 256 → ∀ j : Nat, j < 8 → (o / (128 / 2 ^ j) % 2 = 0 → o + 128 / 2 ^ j < 256) ∧ (o / (128 / 2 ^ j) % 2 = 1 → 128 / 2 ^ j ≤ o) := by decide +kernel
theorem ws8_at (j : Nat) (h : j < 8) : ws8[j]? = some ((128 / 2 ^ j : Nat) : Int) := by
  rcases j with _ | _ | _ | _ | _ | _ | _ | _ | j
  all_goals first | rfl | omega
section
variable {P : Program} {w : World} {K : PySem.W.Frag} {mg : Str → Option Value} {base : Heap} {f : Addr} {fd : FuncData}
/-- one value many times -/
theorem rep_l {H : Hp} {t : Addr} {k : Int} {o : Int} {Q : VK} (S : H t = some (.lst [V.int o])) (h1 : 0 ≤ k) (h2 : k ≤ 1000) (q : ∀ p, H p = none → Q (.ref p) (upd H p (.lst (IV (List.replicate k.toNat o))))) : rMulU K (.ref t) (.int k) H Q := by
  refine .inr (.inl ⟨t, k, _, rfl, rfl, S, by omega, by omega, ?_, fun p hp => ?_⟩)
  · exact Evl.sz_of (by simp; omega)
  · rw [rep_flat]
    exact q p hp
/-- two lists, one behind the other -/
theorem cat_l {H : Hp} {p r : Addr} {xs ys : List Int} {Q : VK} (h1 : H p = some (.lst (IV xs))) (h2 : H r = some (.lst (IV ys))) (hl : xs.length + ys.length ≤ 10000) (q : ∀ t, H t = none → Q (.ref t) (upd H t (.lst (IV (xs ++ ys))))) : rAddU K (.ref p) (.ref r) H Q := by
  refine .inr (.inl ⟨p, r, _, _, rfl, rfl, h1, h2, ?_, fun t ht => ?_⟩)
  · rw [iv_len, iv_len]
    exact Evl.sz_of (by omega)
  · have e : IV xs ++ IV ys = IV (xs ++ ys) := (List.map_append ..).symm
    rw [e]
    exact q t ht
def spLZ (K : PySem.W.Frag) : Sp := fun vs H Q _ => ∃ (a : Addr) (os : List Int) (t : Bool), vs = [.ref a] ∧ Sv t K H a (IV os) ∧ os.length ≤ 100 ∧ RV (.int (zc (bitsL os))) H Q
theorem ok_lzeros (T : Txt K mg) (F : FnP K "_law_zeros" s__law_zeros f fd) : Fg P w K mg base CX0 1 f fd ["_law_octets"] (spLZ K) := by
  refine fg_of F sc__law_zeros (fun vs H Q E h => ?_) (fun cdv A outer s H vs Q E hr h => ⟨_, (PSs.nox (pss_cons (ps_set (i := 1) sc__law_zeros.nd rfl (by first | exact Or.inl rfl | exact Or.inr rfl) pe_int)
  (pss_cons (ps_for PassesOwn.never rfl (pi_seq (K := K) (pv 0)) (pg_name (i := 2) sc__law_zeros.nd rfl (by first | exact Or.inl rfl | exact Or.inr rfl))
  (pss_one (ps_for PassesOwn.never rfl (pi_seq (K := K) (pe_lst (pa_cons pe_int (pa_cons pe_int (pa_cons pe_int (pa_cons pe_int (pa_cons pe_int (pa_cons pe_int (pa_cons pe_int (pa_cons pe_int pa_nil)))))))))) (pg_name (i := 3) sc__law_zeros.nd rfl (by first | exact Or.inl rfl | exact Or.inr rfl))
  (pss_one (ps_set (i := 1) sc__law_zeros.nd rfl (by first | exact Or.inl rfl | exact Or.inr rfl) (pe_op op_sub (pe_op (u_add (K := K)) (pv 1) pe_int) (pe_op u_mod (pe_op u_fdiv (pe_callTy call_int1 (by rfl) T.f_int (by decide +kernel) (pa_cons (pv 2) pa_nil)) (pv 3)) pe_int)))))))
  (pss_one (ps_ret (pv 1)))))), ?_⟩)
  · obtain ⟨a, os, t, rfl, _⟩ := h
    rfl
  · obtain ⟨a, os, t, rfl, S, hl, q⟩ := h
    have nz : (0 : Int) < 2 := by decide
    refine seq_var (t := t) rfl S fun J wk => ?_
    rw [iv_len] at wk
    refine for_it wk (fun i σ H' => ∃ v2 v3 : Option V, σ = [some (.ref a), some (.int (zc (bitsL (os.take i)))), v2, v3] ∧ Evl.Ex H H') ⟨_, _, rfl, Evl.Ex.refl _⟩ (fun i σ H' _ h => S.ex h.choose_spec.choose_spec.2) ?_ ?_
    · rintro i x σ H1 H2 hi ⟨v2, v3, rfl, e1⟩ ⟨rfl, hx⟩
      obtain ⟨o, ho, rfl⟩ := iv_get hx
      refine .inl ⟨by show 8 ≤ sizeLine; decide, fun p hp => ⟨p, rfl, ⟨_, SqL.of upd_same⟩, ?_⟩⟩
      refine for_it (walk_list (K := K) (a := p) (xs := IV ws8)) (fun j σ H' => ∃ v3 : Option V, σ = [some (.ref a), some (.int (zc (bitsL (os.take i)) + zc ((ws8.map fun u => o / u % 2).take j))), some (.int o), v3] ∧ Evl.Ex H H' ∧ H' p = some (.lst (IV ws8))) ⟨v3, ?_, e1.trans (Evl.Ex.new hp), upd_same⟩ (fun j σ H' _ h => SqL.of h.choose_spec.2.2) ?_ ?_
      · rw [List.take_zero, zc_nil, Int.add_zero]
        rfl
      · rintro j x σ H1' H2' hj ⟨v3', rfl, e2, hp2⟩ ⟨rfl, hx2⟩
        obtain ⟨u, hu, rfl⟩ := iv_get hx2
        obtain ⟨u1, u2⟩ := ws8_get hu
        refine ⟨_, rfl, .inl ⟨_, _, rfl, rfl, _, rfl, .inl ⟨_, rfl, _, rfl, _, _, rfl, rfl, ⟨by omega, by omega⟩, _, _, rfl, rfl, nz, _, _, rfl, rfl, ?_⟩⟩⟩
        refine ⟨some (.int u), ?_, e2, hp2⟩
        rw [zc_snoc_take o u j hu]
        have e : zc (bitsL (os.take i)) + zc ((ws8.map fun u => o / u % 2).take j) + 1 - o / u % 2 = zc (bitsL (os.take i)) + (zc ((ws8.map fun u => o / u % 2).take j) + (1 - o / u % 2)) := by omega
        rw [← e]
        rfl
      · rintro σ H3 ⟨v3', rfl, e3, hp3⟩
        refine ⟨some (.int o), v3', ?_, e3⟩
        have e8 : (ws8.map fun u => o / u % 2).take (IV ws8).length = bitsOf o := rfl
        rw [e8, take_snoc ho, bitsL_append, zc_app, bitsL_cons, bitsL_nil, List.append_nil]
    · rintro σ H' ⟨v2, v3, rfl, e1⟩
      rw [List.take_length]
      exact ⟨_, rfl, q H' e1⟩
/-! ### drawn octets -/
def spLD : Sp := fun vs H Q _ => ∃ (a : Addr) (c : Nat) (n : Int), vs = [.ref a, .int (c : Int)] ∧ Box H a n ∧ c ≤ 31 ∧ n < 90000000 ∧ NewL a (n + 31) H Q (fun xs => xs.length = c)
theorem ok_ldrawn (T : Txt K mg) (F : FnP K "_law_drawn" s__law_drawn f fd) (C__law_take : Cal P w K mg base CX0 1 "_law_take" ["_law_box_here", "_law_many"] spTake) : Fg P w K mg base CX0 2 f fd ["_law_box_here", "_law_count"] spLD := by
  refine fg_of F sc__law_drawn (fun vs H Q E h => ?_) (fun cdv A outer s H vs Q E hr h => ⟨_, (PSs.nox (pss_one (ps_ret (pe_lc (own := [("_law_k", 2)]) rfl sc__law_drawn.nd (pi_range1 rfl T.f_range (pa_cons (pv 1) pa_nil)) (blkOk_by (own := [("_law_k", 2)]) (N := ["_law_box_here", "_law_count", "_law_k"]) (sc := defScope s__law_drawn) (by decide +kernel)) (fun _ _ _ _ _ => (pg_name (i := 2) sc__law_drawn.nd rfl (by first | exact Or.inl rfl | exact Or.inr rfl))) (fun _ _ _ _ _ => pts_nil) (fun _ _ _ _ _ => (pe_cal C__law_take hr.le pass0 (pa_cons (pv 0) (pa_cons pe_int pa_nil)))))))), ?_⟩)
  · obtain ⟨a, c, n, rfl, _⟩ := h
    rfl
  · obtain ⟨a, c, n, rfl, B, hc, hn, q⟩ := h
    refine ⟨_, rfl, (c : Int), rfl, by omega, by omega, fun D hD => ?_⟩
    have nn : ((c : Int)).toNat = c := by omega
    have nD := B.at hD
    rw [nn]
    refine lc_range (lo := 0) (n := c) (fun i H' => i ≤ c ∧ Exb a H H' ∧ Box H' a (n + i) ∧ ∃ xs : List Int, xs.length = i ∧ Oct xs ∧ H' D = some (.lst (IV xs))) ⟨by omega, Exb.new hD, (B.ex (Evl.Ex.new hD)).le (by omega), [], rfl, fun _ h => (by cases h), upd_same⟩ ?_ ?_
    · rintro i H1 hi ⟨_, e1, B1, xs, lx, ox, hx⟩
      refine ⟨rfl, _, rfl, a, 256, n + i, rfl, B1, by omega, by omega, by omega, fun r H2 r0 r1 e2 B2 => ⟨_, e2 D _ nD hx, by rw [iv_len, lx]; exact Evl.sz_lt (by omega), by omega, ?_, ?_, xs ++ [r], by simp [lx], oct_snoc ox r0 (by omega), by rw [upd_same, iv_snoc]⟩⟩
      · intro b o nb z
        have hb : b ≠ D := by
          rintro rfl
          rw [hD] at z
          cases z
        rw [upd_ne hb]
        exact e2 b o nb (e1 b o nb z)
      · obtain ⟨d, m', c', k, hb, r⟩ := B2
        exact ⟨d, m', c', k, by rw [upd_ne (Ne.symm nD)]; exact hb, r.1, r.2.1, r.2.2.1, r.2.2.2.1, by omega⟩
    · rintro H1 ⟨_, e1, B1, xs, lx, ox, hx⟩
      exact q D H1 xs ox lx nD hD e1 (B1.le (by omega)) hx
end
end K10
namespace K10
open PySem PySem.Spec PyProof.Rows L2 VB BM
theorem Box.mut {H : Hp} {a D : Addr} {n : Int} {o : HO} (B : Box H a n) (h : D ≠ a) : Box (upd H D o) a n := by
  obtain ⟨d, m, c, k, hb, r⟩ := B
  exact ⟨d, m, c, k, by rw [upd_ne (Ne.symm h)]; exact hb, r⟩
theorem Exb.mut {H0 H : Hp} {a D : Addr} {o : HO} (e : Exb a H0 H) (h : H0 D = none) : Exb a H0 (upd H D o) := by
  intro b u nb z
  have hb : b ≠ D := by
    rintro rfl
    rw [h] at z
    cases z
  rw [upd_ne hb]
  exact e b u nb z
theorem Exb.fresh {H H' : Hp} {a p : Addr} (e : Exb a H H') (h : H' p = none) (n : p ≠ a) : H p = none := by
  cases z : H p with
  | none => rfl
  | some o =>
    have := e p o n z
    rw [h] at this
    cases this
theorem Exb.refl (a : Addr) (H : Hp) : Exb a H H := fun _ _ _ e => e
theorem pick {xs : List Int} (h : Oct xs) {r : Int} (r0 : 0 ≤ r) (r1 : r < (xs.length : Int)) : ∃ v, 0 ≤ v ∧ v ≤ 255 ∧ atI (IV xs) r = some (.int v) := by
  obtain ⟨j, rfl⟩ : ∃ j : Nat, r = j := ⟨r.toNat, by omega⟩
  obtain ⟨v, hv⟩ := get_lt (l := xs) (i := j) (by omega)
  have := h v (List.mem_of_getElem? hv)
  exact ⟨v, this.1, this.2, iv_at hv⟩
theorem octs {xs : List Int} (h : (xs.all fun o => decide (0 ≤ o ∧ o ≤ 255)) = true) : Oct xs := fun o ho => by
  have := List.all_eq_true.mp h o ho
  simpa using this
section
variable {P : Program} {w : World} {K : PySem.W.Frag} {mg : Str → Option Value} {base : Heap} {f : Addr} {fd : FuncData}
def spDa : Sp := fun vs H Q _ => ∃ (a : Addr) (n : Int), vs = [.ref a] ∧ Box H a n ∧ n < 80000000 ∧ NewL a (n + 60) H Q (fun xs => xs.length = 30)
theorem ok_ldata (T : Txt K mg) (F : FnP K "_law_data" s__law_data f fd) (C__law_take : Cal P w K mg base CX0 1 "_law_take" ["_law_box_here", "_law_many"] spTake) (C__law_drawn : Cal P w K mg base CX0 2 "_law_drawn" ["_law_box_here", "_law_count"] spLD) : Fg P w K mg base CX0 3 f fd ["_law_box_here"] spDa := by
  refine fg_of F sc__law_data (fun vs H Q E h => ?_) (fun cdv A outer s H vs Q E hr h => ⟨_, (PSs.nox (pss_cons (ps_set (i := 1) sc__law_data.nd rfl (by first | exact Or.inl rfl | exact Or.inr rfl) (pe_cal C__law_take hr.le pass0 (pa_cons (pv 0) (pa_cons pe_int pa_nil))))
  (pss_cons (ps_if (pt_cmpR op_lt (pv 1) pe_int (nomark _))
  (pss_one (ps_ret (pe_ix (u_ix (K := K)) (pe_lst (pa_cons (pe_op (u_mul (K := K)) (pe_lst (pa_cons pe_int pa_nil)) pe_int) (pa_cons (pe_op (u_mul (K := K)) (pe_lst (pa_cons pe_int pa_nil)) pe_int) pa_nil))) (pv 1) (fun _ _ => rfl)))) pss_nil)
  (pss_cons (ps_if (pt_cmpR (u_eq (K := K) hr) (pv 1) pe_int (nomark _))
  (pss_one (ps_ret (pe_cal C__law_drawn hr.le pass0 (pa_cons (pv 0) (pa_cons pe_int pa_nil))))) pss_nil)
  (pss_cons (ps_if (pt_cmpR (u_eq (K := K) hr) (pv 1) pe_int (nomark _))
  (pss_one (ps_ret (pe_op (u_add (K := K)) (pe_lc (own := [("_law_k", 3)]) rfl sc__law_data.nd (pi_range1 rfl T.f_range (pa_cons pe_int pa_nil)) (blkOk_by (own := [("_law_k", 3)]) (N := ["_law_box_here", "_law_way", "_law_found", "_law_k"]) (sc := defScope s__law_data) (by decide +kernel)) (fun _ _ _ _ _ => (pg_name (i := 3) sc__law_data.nd rfl (by first | exact Or.inl rfl | exact Or.inr rfl))) (fun _ _ _ _ _ => pts_nil) (fun _ _ _ _ _ => (pe_cal C__law_take hr.le pass0 (pa_cons (pv 0) (pa_cons pe_int pa_nil))))) (pe_op (u_mul (K := K)) (pe_lst (pa_cons pe_int pa_nil)) pe_int)))) pss_nil)
  (pss_cons (ps_set (i := 2) sc__law_data.nd rfl (by first | exact Or.inl rfl | exact Or.inr rfl) (pe_op (u_mul (K := K)) (pe_lst (pa_cons pe_int pa_nil)) pe_int))
  (pss_cons (ps_for PassesOwn.never rfl (pi_range1 rfl T.f_range (pa_cons (pe_op (u_add (K := K)) pe_int (pe_cal C__law_take hr.le pass0 (pa_cons (pv 0) (pa_cons pe_int pa_nil)))) pa_nil)) (pg_name (i := 3) sc__law_data.nd rfl (by first | exact Or.inl rfl | exact Or.inr rfl))
  (pss_one (ps_asg (pe_ix (u_ix (K := K)) (pe_lst (pa_cons pe_int (pa_cons pe_int (pa_cons pe_int (pa_cons pe_int (pa_cons (pe_cal C__law_take hr.le pass0 (pa_cons (pv 0) (pa_cons pe_int pa_nil))) pa_nil)))))) (pe_cal C__law_take hr.le pass0 (pa_cons (pv 0) (pa_cons pe_int pa_nil))) (fun _ _ => rfl)) (pg_sub (pv 2) (pe_cal C__law_take hr.le pass0 (pa_cons (pv 0) (pa_cons pe_int pa_nil))) set_list))))
  (pss_one (ps_ret (pv 2)))))))))), ?_⟩)
  · obtain ⟨a, n, rfl, _⟩ := h
    rfl
  · obtain ⟨a, n, rfl, B, hn, q⟩ := h
    have r30 : ∀ o : Int, (List.replicate (30 : Int).toNat o).length = 30 := fun o => by rw [List.length_replicate]; rfl
    refine ⟨_, rfl, a, 6, n, rfl, B, by omega, by omega, by omega, fun way H1 p1 p2 e1 B1 => ?_⟩
    refine ⟨_, rfl, _, _, rfl, rfl, _, rfl, if_dec (fun h2 => ?_) (fun h2 => ?_)⟩
    · refine ⟨by show 1 ≤ sizeLine; decide, fun l0 n0 => rep_l (k := 30) upd_same (by omega) (by omega) fun l1 n1 => ?_⟩
      refine ⟨by show 1 ≤ sizeLine; decide, fun l2 n2 => rep_l (k := 30) upd_same (by omega) (by omega) fun l3 n3 => ?_⟩
      refine ⟨by show 2 ≤ sizeLine; decide, fun l4 n4 => ⟨_, rfl, ?_⟩⟩
      have x0 := Evl.Ex.new (o := .lst [V.int 255]) n0
      have x1 := Evl.Ex.new (o := .lst (IV (List.replicate (30 : Int).toNat 255))) n1
      have x2 := Evl.Ex.new (o := .lst [V.int 0]) n2
      have x3 := Evl.Ex.new (o := .lst (IV (List.replicate (30 : Int).toNat 0))) n3
      have x4 := Evl.Ex.new (o := .lst [V.ref l1, V.ref l3]) n4
      have h1 := x4 _ _ (x3 _ _ (x2 _ _ (upd_same (H := upd H1 l0 (.lst [V.int 255])) (a := l1) (o := .lst (IV (List.replicate (30 : Int).toNat 255))))))
      have h3 := x4 _ _ (upd_same (H := upd (upd (upd H1 l0 (.lst [V.int 255])) l1 (.lst (IV (List.replicate (30 : Int).toNat 255)))) l2 (.lst [V.int 0])) (a := l3) (o := .lst (IV (List.replicate (30 : Int).toNat 0))))
      have X := (((x0.trans x1).trans x2).trans x3).trans x4
      have m1 := Evl.fresh_back x0 n1
      have m3 := Evl.fresh_back ((x0.trans x1).trans x2) n3
      have c : way = 0 ∨ way = 1 := by omega
      rcases c with rfl | rfl
      · exact .inl ⟨l4, _, _, _, rfl, rfl, SqL.of upd_same, rfl, q l1 _ _ (oct_rep (by omega)) (r30 _) (B1.at m1) (Exb.fresh e1 m1 (B1.at m1)) (e1.trans (Exb.of X)) ((B1.ex X).le (by omega)) h1⟩
      · exact .inl ⟨l4, _, _, _, rfl, rfl, SqL.of upd_same, rfl, q l3 _ _ (oct_rep (by omega)) (r30 _) (B1.at m3) (Exb.fresh e1 m3 (B1.at m3)) (e1.trans (Exb.of X)) ((B1.ex X).le (by omega)) h3⟩
    refine ⟨_, rfl, .inl ⟨rfl, _, rfl, if_eq (fun h3 => ?_) (fun h3 => ?_)⟩⟩
    · refine ⟨_, rfl, a, 30, n + 1, rfl, B1, by omega, by omega, fun p H2 xs ox lx na np e2 B2 hp => ?_⟩
      exact q p H2 xs ox lx na (Exb.fresh e1 np na) (e1.trans e2) (B2.le (by omega)) hp
    refine ⟨_, rfl, .inl ⟨rfl, _, rfl, if_eq (fun h4 => ?_) (fun h4 => ?_)⟩⟩
    · refine ⟨12, rfl, by omega, by omega, fun D hD => ?_⟩
      have nD := B1.at hD
      refine lc_range (lo := 0) (n := 12) (fun i H' => i ≤ 12 ∧ Exb a H1 H' ∧ Box H' a (n + 1 + i) ∧ ∃ xs : List Int, xs.length = i ∧ Oct xs ∧ H' D = some (.lst (IV xs))) ⟨by omega, Exb.new hD, (B1.ex (Evl.Ex.new hD)).le (by omega), [], rfl, fun _ h => (by cases h), upd_same⟩ ?_ ?_
      · rintro i H2 hi ⟨_, e2, B2, xs, lx, ox, hx⟩
        exact ⟨rfl, _, rfl, a, 7, n + 1 + i, rfl, B2, by omega, by omega, by omega, fun r H3 r0 r1 e3 B3 => ⟨_, e3 D _ nD hx, by rw [iv_len, lx]; exact Evl.sz_lt (by omega), by omega, Exb.mut (e2.trans e3) hD, Box.mut (B3.le (by omega)) nD, xs ++ [r], by simp [lx], oct_snoc ox r0 (by omega), by rw [upd_same, iv_snoc]⟩⟩
      · rintro H2 ⟨_, e2, B2, xs, lx, ox, hx⟩
        refine ⟨by show 1 ≤ sizeLine; decide, fun l0 n0 => rep_l (k := 18) upd_same (by omega) (by omega) fun l1 n1 => ?_⟩
        have x0 := Evl.Ex.new (o := .lst [V.int 0]) n0
        have x1 := Evl.Ex.new (o := .lst (IV (List.replicate (18 : Int).toNat 0))) n1
        refine cat_l (x1 _ _ (x0 _ _ hx)) upd_same (by rw [lx, List.length_replicate]; decide) fun t nt => ?_
        have x2 := Evl.Ex.new (o := .lst (IV (xs ++ List.replicate (18 : Int).toNat 0))) nt
        have X := (x0.trans x1).trans x2
        have mt := Evl.fresh_back (x0.trans x1) nt
        have na := B2.at mt
        exact q t _ _ (oct_app ox (oct_rep (by omega))) (by show (xs ++ List.replicate (18 : Int).toNat 0).length = 30; rw [List.length_append, lx, List.length_replicate]; rfl) na (Exb.fresh (e1.trans e2) mt na) ((e1.trans e2).trans (Exb.of X)) ((B2.ex X).le (by omega)) upd_same
    -- mostly 255s
    refine ⟨by show 1 ≤ sizeLine; decide, fun l0 n0 => rep_l (k := 30) upd_same (by omega) (by omega) fun l n1 => ?_⟩
    have x0 := Evl.Ex.new (o := .lst [V.int 255]) n0
    have x1 := Evl.Ex.new (o := .lst (IV (List.replicate (30 : Int).toNat 255))) n1
    have nl := Evl.fresh_back x0 n1
    have na := B1.at nl
    have nH := Exb.fresh e1 nl na
    refine ⟨_, rfl, a, 5, n + 1, rfl, (B1.ex (x0.trans x1)), by omega, by omega, by omega, fun c H2 c0 c1 e2 B2 => .inl ⟨_, _, rfl, rfl, _, rfl, by omega, by omega, ?_⟩⟩
    have hl2 := e2 l _ na (upd_same (H := upd H1 l0 (.lst [V.int 255])) (a := l) (o := .lst (IV (List.replicate (30 : Int).toNat 255))))
    have E2 := (e1.trans (Exb.of (x0.trans x1))).trans e2
    refine for_range (lo := 0) (n := (1 + c).toNat) (fun i σ H' => ∃ (v : Option V) (xs : List Int), σ = [some (.ref a), some (.int way), some (.ref l), v] ∧ Exb a H H' ∧ Box H' a (n + 2 + 3 * i) ∧ i ≤ 5 ∧ H' l = some (.lst (IV xs)) ∧ Oct xs ∧ xs.length = 30)
      ⟨_, _, rfl, E2, B2.le (by omega), by omega, hl2, oct_rep (by omega), r30 _⟩ ?_ ?_
    · rintro i σ H3 hi ⟨v, xs, rfl, e3, B3, hi5, hl3, ox, lx⟩
      refine ⟨_, rfl, a, 256, n + 2 + 3 * i, rfl, B3, by omega, by omega, by omega, fun r1 H4 q1 q2 e4 B4 => ⟨by show 5 ≤ sizeLine; decide, fun p np => ?_⟩⟩
      have hp := Evl.Ex.new (o := .lst [V.int 254, .int 127, .int 0, .int 239, .int r1]) np
      have npa := B4.at np
      refine ⟨_, rfl, a, 5, n + 2 + 3 * i + 1, rfl, B4.ex hp, by omega, by omega, by omega, fun r2 H5 q3 q4 e5 B5 => ?_⟩
      have oo : Oct [254, 127, 0, 239, r1] := by
        intro o ho
        simp only [List.mem_cons, List.not_mem_nil, or_false] at ho
        omega
      obtain ⟨u, u0, u1, hu⟩ := pick oo q3 (by simpa using q4)
      refine .inl ⟨p, _, _, _, rfl, rfl, SqL.of (e5 p _ npa upd_same), hu, ?_⟩
      refine ⟨_, rfl, _, rfl, a, 30, n + 2 + 3 * i + 1 + 1, rfl, B5, by omega, by omega, by omega, fun r3 H6 q5 q6 e6 B6 => ?_⟩
      have hl6 := e6 l _ na (e5 l _ na (hp l _ (e4 l _ na hl3)))
      have E6 := (((e3.trans e4).trans (Exb.of hp)).trans e5).trans e6
      have h30 : r3.toNat < 30 := by omega
      have eix : ixN (IV xs).length r3 = some r3.toNat := by
        have := Evl.ixN_nat (n := (IV xs).length) (j := r3.toNat) (by rw [iv_len, lx]; exact h30)
        have e3' : ((r3.toNat : Nat) : Int) = r3 := by omega
        rw [e3'] at this
        exact this
      refine ⟨l, _, _, r3.toNat, rfl, rfl, hl6, eix, ?_⟩
      exact ⟨_, xs.set r3.toNat u, rfl, Exb.mut E6 nH, Box.mut (B6.le (by omega)) na, by omega, by rw [upd_same, ← List.map_set], oct_set ox ⟨u0, u1⟩, by rw [List.length_set]; exact lx⟩
    · rintro σ H3 ⟨v, xs, rfl, e3, B3, hi5, hl3, ox, lx⟩
      exact ⟨_, rfl, q l H3 xs ox lx na nH e3 (B3.le (by omega)) hl3⟩
/-! ### a page that fits -/
/-! ### many bits turned -/
end
end K10
namespace K10
open PySem PySem.Spec PyProof.Rows L2 VB BM
section
variable {P : Program} {w : World} {K : PySem.W.Frag} {mg : Str → Option Value} {base : Heap} {f : Addr} {fd : FuncData}
end
end K10
namespace K10
open PySem PySem.Spec PyProof.Rows L2 VB BM
/-! ### bits within bits -/
def inO (o p : Nat) : Bool := o &&& p == o
theorem inO_ok : ∀ o : Nat, o < 256 → ∀ p : Nat, p < 256 → inO o p = true → o ≤ p ∧ zO p ≤ zO o ∧ (zO p = zO o → p = o) := by decide +kernel
end K10
namespace K10
open PySem PySem.Spec PyProof.Rows L2 VB BM
def oneB (n : Nat) (u : Int) : List Int := List.replicate n 0 ++ [u] ++ List.replicate (30 - n) 0
theorem oneB_len {n : Nat} {u : Int} (h : n ≤ 30) : (oneB n u).length = 31 := by
  unfold oneB
  simp
  omega
section
variable {P : Program} {w : World} {K : PySem.W.Frag} {mg : Str → Option Value} {base : Heap} {f : Addr} {fd : FuncData}
def mvO (o m aim : Int) : Int := if aim = 1 then Builtin.bitOr o m else Builtin.bitAnd o (255 - m)
def mvL (os ms : List Int) (aim : Int) : List Int := both (fun o m => mvO o m aim) os ms
def spPg (K : PySem.W.Frag) : Sp := fun vs H Q _ => ∃ (a : Addr) (os : List Int) (t : Bool), vs = [.ref a] ∧ Sv t K H a (IV os) ∧ os.length ≤ 40 ∧ RL (IV (os ++ [zc (bitsL os)])) H Q
theorem ok_page (T : Txt K mg) (F : FnP K "_law_page" s__law_page f fd) (C__law_zeros : Cal P w K mg base CX0 1 "_law_zeros" ["_law_octets"] (spLZ K)) : Fg P w K mg base CX0 2 f fd ["_law_data_here"] (spPg K) := by
  refine fg_of F sc__law_page (fun vs H Q E h => ?_) (fun cdv A outer s H vs Q E hr h => ⟨_, (PSs.nox (pss_one (ps_ret (pe_op (u_add (K := K)) (pe_callTy (u_list (K := K)) (by rfl) T.f_list (by decide +kernel) (pa_cons (pv 0) pa_nil)) (pe_lst (pa_cons (pe_cal C__law_zeros hr.le pass0 (pa_cons (pv 0) pa_nil)) pa_nil)))))), ?_⟩)
  · obtain ⟨a, os, t, rfl, _⟩ := h
    rfl
  · obtain ⟨a, os, t, rfl, S, hl, q⟩ := h
    refine ⟨_, rfl, a, _, rfl, S.either, fun l nl => ⟨_, rfl, a, os, t, rfl, S.ex (Evl.Ex.new nl), by omega, fun H1 e1 => ⟨by show 1 ≤ sizeLine; decide, fun l1 n1 => ?_⟩⟩⟩
    have e0 := Evl.Ex.new (o := .lst (IV os)) nl
    have e2 := Evl.Ex.new (o := .lst [V.int (zc (bitsL os))]) n1
    refine cat_l (xs := os) (ys := [zc (bitsL os)]) (e2 _ _ (e1 _ _ upd_same)) upd_same (by simp; omega) fun t nt => ?_
    have e3 := Evl.Ex.new (o := .lst (IV (os ++ [zc (bitsL os)]))) nt
    exact q t _ (Evl.fresh_back ((e0.trans e1).trans e2) nt) (((e0.trans e1).trans e2).trans e3) upd_same
end
end K10
namespace K10
open PySem PySem.Spec PyProof.Rows L2 VB BM
theorem zc_bound (bs : List Int) : 0 ≤ zc bs ∧ zc bs ≤ (bs.length : Int) := by
  have h : bs.count 0 ≤ bs.length := List.count_le_length
  unfold zc
  omega
theorem oct_oneB {n : Nat} {u : Int} (h : 0 ≤ u ∧ u ≤ 255) : Oct (oneB n u) :=
  oct_app (oct_app (oct_rep (by omega)) (fun z hz => by
    have : z = u := by simpa using hz
    omega)) (oct_rep (by omega))
theorem and_oct {x y : Int} (hx : 0 ≤ x ∧ x ≤ 255) (hy : 0 ≤ y ∧ y ≤ 255) : 0 ≤ Builtin.bitAnd x y ∧ Builtin.bitAnd x y ≤ 255 := by
  obtain ⟨a, rfl⟩ := nat_of hx.1
  obtain ⟨b, rfl⟩ := nat_of hy.1
  rw [VB.bitAnd_nn]
  have := Nat.and_le_left (n := a) (m := b)
  omega
theorem or_nn (a b : Nat) : Builtin.bitOr (a : Int) (b : Int) = ((a ||| b : Nat) : Int) := by
  rw [Bits.bitOr_pp (by omega) (by omega)]
  rfl
theorem or_oct {x y : Int} (hx : 0 ≤ x ∧ x ≤ 255) (hy : 0 ≤ y ∧ y ≤ 255) : 0 ≤ Builtin.bitOr x y ∧ Builtin.bitOr x y ≤ 255 := by
  obtain ⟨a, rfl⟩ := nat_of hx.1
  obtain ⟨b, rfl⟩ := nat_of hy.1
  rw [or_nn]
  have := Nat.or_lt_two_pow (n := 8) (x := a) (y := b) (by omega) (by omega)
  omega
theorem xor_oct {x y : Int} (hx : 0 ≤ x ∧ x ≤ 255) (hy : 0 ≤ y ∧ y ≤ 255) : 0 ≤ Builtin.bitXor x y ∧ Builtin.bitXor x y ≤ 255 := by
  obtain ⟨a, rfl⟩ := nat_of hx.1
  obtain ⟨b, rfl⟩ := nat_of hy.1
  rw [VB.bitXor_nn]
  have := Nat.xor_lt_two_pow (n := 8) (x := a) (y := b) (by omega) (by omega)
  omega
theorem oct_three {x y : Int} (hx : 0 ≤ x ∧ x ≤ 255) (hy : 0 ≤ y ∧ y ≤ 255) : Oct [x, Builtin.bitAnd x y, Builtin.bitOr x y] := by
  have h1 := and_oct hx hy
  have h2 := or_oct hx hy
  intro o ho
  simp only [List.mem_cons, List.not_mem_nil, or_false] at ho
  rcases ho with rfl | rfl | rfl
  · exact hx
  · exact h1
  · exact h2
theorem mvO_oct {aim x y : Int} (hx : 0 ≤ x ∧ x ≤ 255) (hy : 0 ≤ y ∧ y ≤ 255) : 0 ≤ mvO x y aim ∧ mvO x y aim ≤ 255 := by
  unfold mvO
  split
  · exact or_oct hx hy
  · exact and_oct hx (by omega)
theorem mvL_oct {aim : Int} {os ms : List Int} (ox : Oct os) (om : Oct ms) : Oct (mvL os ms aim) := both_oct ox om fun _ _ => mvO_oct
section
variable {P : Program} {w : World} {K : PySem.W.Frag} {mg : Str → Option Value} {base : Heap} {f : Addr} {fd : FuncData}
/-- whether ys is a rest of the page of os -/
def rest (os ys : List Int) : Bool := (List.range 31).all fun j => decide (Builtin.bitAnd ((os ++ [zc (bitsL os)]).getD j 0) (ys.getD j 0) = (os ++ [zc (bitsL os)]).getD j 0)
theorem rest_iff {os ys : List Int} : rest os ys = true ↔ ∀ j, j < 31 → Builtin.bitAnd ((os ++ [zc (bitsL os)]).getD j 0) (ys.getD j 0) = (os ++ [zc (bitsL os)]).getD j 0 := by
  unfold rest
  rw [List.all_eq_true]
  constructor
  · intro h j hj
    simpa using h j (List.mem_range.mpr hj)
  · intro h j hj
    simpa using h j (List.mem_range.mp hj)
theorem getD_get {xs : List Int} {i : Nat} (h : i < xs.length) : xs[i]? = some (xs.getD i 0) := by
  rw [List.getD_eq_getElem?_getD]
  simp [h]
theorem nonempty (os : List Int) (oo : Oct os) (lo : os.length = 30) : ∃ j, j < 31 ∧ 0 < (os ++ [zc (bitsL os)]).getD j 0 := by
  have n0 : (os ++ [zc (bitsL os)]).getD 30 0 = zc (bitsL os) := by
    rw [List.getD_eq_getElem?_getD, List.getElem?_append_right (by omega), lo]
    rfl
  cases os with
  | nil => cases lo
  | cons o os =>
    have ho := oo o (List.mem_cons_self ..)
    by_cases z : 0 < o
    · exact ⟨0, by omega, z⟩
    · have : o = 0 := by omega
      subst this
      refine ⟨30, by omega, ?_⟩
      rw [n0, bitsL_cons, zc_app]
      have h1 : zc (bitsOf 0) = 8 := by decide
      have h2 := (zc_bound (bitsL os)).1
      omega
theorem bit_in : ∀ o : Nat, o < 256 → 0 < o → ∃ j, j < 8 ∧ 0 < (o &&& (128 / 2 ^ j)) := by decide +kernel
end
end K10
namespace K10
open PySem PySem.Spec PyProof.Rows L2 VB BM
def ovr (os : List Int) : Int := os.getD 30 0 - zc (bitsL (os.take 30))
def pln (os : List Int) : Bool := decide (os = List.replicate 31 255)
theorem get30 {os : List Int} (h : os.length = 31) : os[30]? = some (os.getD 30 0) := by
  obtain ⟨x, hx⟩ := get_lt (l := os) (i := 30) (by omega)
  rw [List.getD_eq_getElem?_getD, hx]
  rfl
theorem ovr_bound {os : List Int} (o : Oct os) (h : os.length = 31) : -240 ≤ ovr os ∧ ovr os ≤ 255 := by
  have z := zc_bound (bitsL (os.take 30))
  have l := bitsL_len (os.take 30)
  rw [List.length_take] at l
  have c := o _ (List.mem_of_getElem? (get30 h))
  unfold ovr
  omega
theorem dec_int (x y : Int) : decide (V.int x = V.int y) = decide (x = y) := by
  by_cases h : x = y
  · subst h
    simp
  · rw [decide_eq_false h, decide_eq_false fun z => h (V.int.inj z)]
theorem shown_small : ∀ k : Nat, k < 512 → (PyData.int ((k : Int) - 256)).shown.length ≤ 4 := by decide +kernel
theorem sh_near {n : Int} (h : -256 ≤ n ∧ n < 256) : Sh (.int n) 0 4 := by
  have e : (((n + 256).toNat : Nat) : Int) - 256 = n := by omega
  have s := shown_small (n + 256).toNat (by omega)
  rw [e] at s
  refine ⟨?_, by simp only [PyData.depth]; exact Nat.le_refl _, s⟩
  simp only [PyData.showable, decide_eq_true_eq]
  by_cases z : n.natAbs = 0
  · rw [z]
    decide
  · exact (Nat.log2_lt z (k := 1920)).mpr (Nat.lt_of_lt_of_le (m := 2 ^ 14) (by omega) (Nat.pow_le_pow_right (by decide) (by decide)))
theorem sh_bool (b : Bool) : Sh (.bool b) 0 5 := by
  cases b <;> exact ⟨by decide, by decide, by decide⟩
theorem sh_none : Sh .none 0 4 := ⟨by decide, by decide, by decide⟩
theorem sm_take {xs : List Int} (h : Oct xs) (n : Nat) : Sm (xs.take n) := fun o ho => by
  have := h o (List.mem_of_mem_take ho)
  omega
section
variable {P : Program} {w : World} {K : PySem.W.Frag} {mg : Str → Option Value} {base : Heap} {f : Addr} {fd : FuncData}
/-- the first so many -/
theorem Sv.first {t : Bool} {H : Hp} {a : Addr} {os : List Int} {n : Nat} {Q : VK} (S : Sv t K H a (IV os)) (hn : n < os.length) (q : ∀ p H', H p = none → Evl.Ex H H' → Sv t K H' p (IV (os.take n)) → Q (.ref p) H') : rSlU K (.ref a) none (some (n : Int)) H Q := by
  have ec : cutV (IV os) none (some (n : Int)) = IV (os.take n) := by
    unfold cutV
    rw [HT.sIx_nat, iv_len]
    have e2 : HT.sIx os.length 0 none = 0 := rfl
    rw [e2, List.drop_zero, ← List.map_take]
    congr 2
    omega
  cases t with
  | false =>
    refine .inl ⟨a, _, rfl, S, fun p np => ?_⟩
    rw [ec]
    exact q p _ np (Evl.Ex.new np) (Sv.lst upd_same)
  | true =>
    refine .inr (.inl ⟨a, _, rfl, S, ?_, fun p np => ?_⟩)
    · rintro ⟨_, h⟩
      rw [HT.sIx_nat, iv_len] at h
      omega
    · rw [ec]
      exact q p _ np (Evl.Ex.new np) (Sv.tup upd_same)
theorem Dp.ex {H H' : Hp} (e : Evl.Ex H H') : ∀ (d : PyData) (v : V), Dp K H v d → Dp K H' v d := by
  intro d v h
  induction h using Dp.rec (motive_2 := fun vs ds _ => DpAll K H' vs ds) with
  | non => exact .non
  | bl b => exact .bl b
  | int i => exact .int i
  | str x => exact .str x
  | lst s _ ih => exact .lst (Evl.ex_l e s) ih
  | tup s _ ih => exact .tup (Evl.ex_t e s) ih
  | nil => exact .nil
  | cons _ _ h1 h2 => exact .cons h1 h2
theorem Sv.tupU {H : Hp} {a : Addr} {xs : List V} {t : Bool} {Q : VK} (S : Sv t K H a xs) (q : ∀ p H', Evl.Ex H H' → SqT K H' p xs → Q (.ref p) H') : rTupU K [.ref a] H Q := by
  cases t with
  | false => exact ⟨a, xs, rfl, .inl ⟨S, fun l hl => q l _ (Evl.Ex.new hl) (SqT.of upd_same)⟩⟩
  | true => exact ⟨a, xs, rfl, .inr ⟨S, q a H (Evl.Ex.refl _) S⟩⟩
theorem Sv.rpr {H : Hp} {a : Addr} {os : List Int} {t : Bool} {Q : VK} (S : Sv t K H a (IV os)) (h : Sm os) (hl : os.length ≤ 6000) (q : Q (.str (if t then DT os else DL os).shown) H) : rRepr K [.ref a] H Q := by
  cases t with
  | false => exact rp_l S h hl q
  | true => exact rp_t S h hl q
theorem Sv.dp {H : Hp} {a : Addr} {os : List Int} {t : Bool} (S : Sv t K H a (IV os)) : Dp K H (.ref a) (if t then DT os else DL os) := by
  cases t with
  | false => exact dp_l S
  | true => exact dp_t S
theorem sh_o {os : List Int} {t : Bool} (o : Oct os) (h : os.length ≤ 31) : Sh (if t then DT os else DL os) 1 40000 := by
  cases t with
  | false => exact sh_l (fun x hx => by have := o x hx; omega) (by omega)
  | true => exact sh_t (fun x hx => by have := o x hx; omega) (by omega)
theorem Sv.at {H : Hp} {p : Addr} {os : List Int} {t : Bool} (h : H p = some (if t then .tup (IV os) else .lst (IV os))) : Sv t K H p (IV os) := by
  cases t with
  | false => exact Sv.lst h
  | true => exact Sv.tup h
def spRest (K : PySem.W.Frag) : Sp := fun vs H Q _ => ∃ (a b : Addr) (os ys : List Int) (t u : Bool), vs = [.ref a, .ref b] ∧ Sv t K H a (IV os) ∧ Sv u K H b (IV ys) ∧ Oct os ∧ Oct ys ∧ os.length = 30 ∧ ys.length = 31 ∧ RV (.bl (rest os ys)) H Q
abbrev Dv (t : Bool) (os : List Int) : PyData := if t then DT os else DL os
theorem rp_pair {H : Hp} {l p r : Addr} {os ys : List Int} {t u : Bool} {Q : VK} (h : H l = some (.lst [.ref p, .ref r])) (S : Sv t K H p (IV os)) (R : Sv u K H r (IV ys)) (oo : Oct os) (oy : Oct ys) (lo : os.length ≤ 31) (ly : ys.length ≤ 31)
    (q : Q (.str (PyData.list [Dv t os, Dv u ys]).shown) H) : rReprU K [.ref l] H Q := by
  have sh : Sh (PyData.list [Dv t os, Dv u ys]) 2 80008 := (sh_list (n := 2) (h := 1) (b := 40000) (fun d hd => by
    simp only [List.mem_cons, List.not_mem_nil, or_false] at hd
    rcases hd with rfl | rfl
    · exact sh_o oo lo
    · exact sh_o oy ly) (by simp)).le
  exact .inl (rp (.lst (SqL.of h) (.cons (Sv.dp S) (.cons (Sv.dp R) .nil))) sh q)
end
end K10
namespace K10
open PySem PySem.Spec PyProof.Rows L2 VB BM
theorem in_oct {x y : Int} (hx : 0 ≤ x ∧ x ≤ 255) (hy : 0 ≤ y ∧ y ≤ 255) (h : Builtin.bitAnd x y = x) : x ≤ y ∧ zc (bitsOf y) ≤ zc (bitsOf x) ∧ (zc (bitsOf y) = zc (bitsOf x) → y = x) := by
  obtain ⟨a, rfl⟩ := nat_of hx.1
  obtain ⟨b, rfl⟩ := nat_of hy.1
  rw [VB.bitAnd_nn] at h
  have h' : inO a b = true := by
    unfold inO
    have : a &&& b = a := by omega
    rw [this]
    simp
  have r := inO_ok a (by omega) b (by omega) h'
  rw [zO_eq a (by omega), zO_eq b (by omega)] at r
  unfold zc
  refine ⟨by omega, by omega, fun e => ?_⟩
  have := r.2.2 e
  omega
/-- each bit of xs is one of ys -/
def Inn (xs ys : List Int) : Prop := ∀ j, j < xs.length → Builtin.bitAnd (xs.getD j 0) (ys.getD j 0) = xs.getD j 0
theorem zc_mono : ∀ xs ys : List Int, Oct xs → Oct ys → xs.length = ys.length → Inn xs ys → zc (bitsL ys) ≤ zc (bitsL xs) ∧ (zc (bitsL ys) = zc (bitsL xs) → ys = xs)
  | [], [], _, _, _, _ => ⟨Int.le_refl _, fun _ => rfl⟩
  | [], _ :: _, _, _, h, _ => by cases h
  | _ :: _, [], _, _, h, _ => by cases h
  | x :: xs, y :: ys, ox, oy, hl, h => by
    have r := zc_mono xs ys (fun z hz => ox z (List.mem_cons_of_mem _ hz)) (fun z hz => oy z (List.mem_cons_of_mem _ hz)) (by simpa using hl) fun j hj => h (j + 1) (Nat.succ_lt_succ hj)
    have q := in_oct (ox x (List.mem_cons_self ..)) (oy y (List.mem_cons_self ..)) (h 0 (Nat.zero_lt_succ _))
    rw [bitsL_cons, bitsL_cons, zc_app, zc_app]
    refine ⟨by omega, fun e => ?_⟩
    rw [q.2.2 (by omega), r.2 (by omega)]
theorem split31 {os : List Int} (h : os.length = 31) : os = os.take 30 ++ [os.getD 30 0] := by
  have e := List.take_append_drop 30 os
  have d : os.drop 30 = [os.getD 30 0] := by
    have l := List.length_drop (l := os) (i := 30)
    rw [h] at l
    obtain ⟨z, hz⟩ : ∃ z, os.drop 30 = [z] := List.length_eq_one_iff.mp l
    rw [hz]
    have g : (os.drop 30)[0]? = os[30]? := by rw [List.getElem?_drop]
    rw [hz, get30 h] at g
    exact congrArg (fun a => [a]) (Option.some.inj g)
  rw [d] at e
  exact e.symm
theorem ovr_mono {xs ys : List Int} (ox : Oct xs) (oy : Oct ys) (lx : xs.length = 31) (ly : ys.length = 31) (h : Inn xs ys) : ovr xs ≤ ovr ys ∧ (ovr xs = ovr ys → ys = xs) := by
  have t30 : ∀ (zs : List Int) (j : Nat), j < 30 → (zs.take 30).getD j 0 = zs.getD j 0 := by
    intro zs j hj
    rw [List.getD_eq_getElem?_getD, List.getD_eq_getElem?_getD, List.getElem?_take]
    rw [if_pos hj]
  have r := zc_mono (xs.take 30) (ys.take 30) (fun z hz => ox z (List.mem_of_mem_take hz)) (fun z hz => oy z (List.mem_of_mem_take hz)) (by rw [List.length_take, List.length_take, lx, ly]) (by
    intro j hj
    rw [List.length_take, lx] at hj
    have hj' : j < 30 := by omega
    rw [t30 xs j hj', t30 ys j hj']
    exact h j (by omega))
  have q := in_oct (ox _ (List.mem_of_getElem? (get30 lx))) (oy _ (List.mem_of_getElem? (get30 ly))) (h 30 (by omega))
  unfold ovr
  refine ⟨by omega, fun e => ?_⟩
  rw [split31 ly, split31 lx, r.2 (by omega)]
  congr 2
  omega
theorem ovr_whole {os : List Int} (lo : os.length = 30) : ovr (os ++ [zc (bitsL os)]) = 0 := by
  unfold ovr
  have e1 : (os ++ [zc (bitsL os)]).getD 30 0 = zc (bitsL os) := by
    rw [List.getD_eq_getElem?_getD, List.getElem?_append_right (by omega), lo]
    rfl
  have e2 : (os ++ [zc (bitsL os)]).take 30 = os := by rw [← lo, List.take_left]
  rw [e1, e2]
  omega
theorem oct_whole {os : List Int} (oo : Oct os) (lo : os.length = 30) : Oct (os ++ [zc (bitsL os)]) ∧ (os ++ [zc (bitsL os)]).length = 31 := by
  have zb := zc_bound (bitsL os)
  rw [bitsL_len, lo] at zb
  exact ⟨oct_snoc oo zb.1 (by omega), by simp [lo]⟩
theorem rest_inn {os ys : List Int} (lo : os.length = 30) : rest os ys = true ↔ Inn (os ++ [zc (bitsL os)]) ys := by
  rw [rest_iff]
  have l : (os ++ [zc (bitsL os)]).length = 31 := by simp [lo]
  unfold Inn
  rw [l]
theorem rest_facts {os ys : List Int} (oo : Oct os) (oy : Oct ys) (lo : os.length = 30) (ly : ys.length = 31) (h : rest os ys = true) : 0 ≤ ovr ys ∧ ovr ys ≤ 255 ∧ (ovr ys = 0 ↔ ys = os ++ [zc (bitsL os)]) := by
  obtain ⟨ow, lw⟩ := oct_whole oo lo
  have r := ovr_mono ow oy lw ly ((rest_inn lo).mp h)
  have b := ovr_bound oy ly
  rw [ovr_whole lo] at r
  refine ⟨r.1, b.2, fun e => r.2 e.symm, fun e => ?_⟩
  rw [e]
  exact ovr_whole lo
/-- what bits fallen or risen make of a page -/
theorem mv_up {os ms : List Int} (oo : Oct os) (om : Oct ms) (h : os.length = ms.length) : Inn os (mvL os ms 1) := by
  intro j hj
  have hw := getD_get (xs := os) (i := j) hj
  have hv := getD_get (xs := mvL os ms 1) (i := j) (by unfold mvL; rw [both_len h]; exact hj)
  obtain ⟨x, y, hx, hy, e⟩ := both_get hv
  rw [hw] at hx
  have ex := Option.some.inj hx
  rw [e, ← ex]
  have bx := oo _ (List.mem_of_getElem? hw)
  have by_ := om _ (List.mem_of_getElem? hy)
  show Builtin.bitAnd (os.getD j 0) (mvO (os.getD j 0) y 1) = os.getD j 0
  unfold mvO
  rw [if_pos rfl]
  generalize os.getD j 0 = o at bx ⊢
  obtain ⟨a, rfl⟩ := nat_of bx.1
  obtain ⟨b, rfl⟩ := nat_of by_.1
  rw [or_nn, VB.bitAnd_nn, Nat.and_or_distrib_left, Nat.and_self]
  congr 1
  apply Nat.eq_of_testBit_eq
  intro i
  simp only [Nat.testBit_or, Nat.testBit_and]
  cases a.testBit i <;> simp
theorem mv_down {os ms : List Int} {aim : Int} (ha : aim ≠ 1) (oo : Oct os) (om : Oct ms) (h : os.length = ms.length) : Inn (mvL os ms aim) os := by
  intro j hj
  have hj' : j < os.length := by
    have := hj
    unfold mvL at this
    rw [both_len h] at this
    exact this
  have hw := getD_get (xs := os) (i := j) hj'
  have hv := getD_get (xs := mvL os ms aim) (i := j) hj
  obtain ⟨x, y, hx, hy, e⟩ := both_get hv
  rw [hw] at hx
  have ex := Option.some.inj hx
  rw [e, ← ex]
  have bx := oo _ (List.mem_of_getElem? hw)
  have by_ := om _ (List.mem_of_getElem? hy)
  show Builtin.bitAnd (mvO (os.getD j 0) y aim) (os.getD j 0) = mvO (os.getD j 0) y aim
  unfold mvO
  rw [if_neg ha]
  generalize os.getD j 0 = o at bx ⊢
  obtain ⟨a, rfl⟩ := nat_of bx.1
  obtain ⟨b, hb⟩ := nat_of (o := 255 - y) (by omega)
  rw [hb, VB.bitAnd_nn, VB.bitAnd_nn]
  congr 1
  apply Nat.eq_of_testBit_eq
  intro i
  simp only [Nat.testBit_and]
  cases a.testBit i <;> simp
end K10
namespace K10
open PySem PySem.Spec PyProof.Rows L2 VB BM
section
variable {P : Program} {w : World} {K : PySem.W.Frag} {mg : Str → Option Value} {base : Heap} {f : Addr} {fd : FuncData}
def spClean (K : PySem.W.Frag) : Sp := fun vs H Q _ => ∃ (a : Addr) (os : List Int) (t : Bool), vs = [.ref a] ∧ Sv t K H a (IV os) ∧ Oct os ∧ os.length = 31 ∧ RV (.bl (pln os)) H Q
def spWhole (K : PySem.W.Frag) : Sp := fun vs H Q _ => ∃ (a : Addr) (os : List Int) (t : Bool), vs = [.ref a] ∧ Sv t K H a (IV os) ∧ Oct os ∧ os.length = 31 ∧ RV (.bl (decide (ovr os = 0))) H Q
def spTorn (K : PySem.W.Frag) : Sp := fun vs H Q _ => ∃ (a : Addr) (os : List Int) (t : Bool), vs = [.ref a] ∧ Sv t K H a (IV os) ∧ Oct os ∧ os.length = 31 ∧ RV (.bl (!decide (ovr os = 0) && !pln os)) H Q
def spSurplus (K : PySem.W.Frag) : Sp := fun vs H Q _ => ∃ (a : Addr) (os : List Int) (t : Bool), vs = [.ref a] ∧ Sv t K H a (IV os) ∧ Oct os ∧ os.length = 31 ∧ RV (.int (ovr os)) H Q
def spDataOf (K : PySem.W.Frag) : Sp := fun vs H Q _ => ∃ (a : Addr) (os : List Int) (t : Bool), vs = [.ref a] ∧ Sv t K H a (IV os) ∧ Oct os ∧ os.length = 31 ∧ ∀ (v : V) (H' : Hp), Evl.Ex H H' → Dp K H' v (if ovr os = 0 then DT (os.take 30) else .none) → Q v H'
def spSealed (K : PySem.W.Frag) : Sp := fun vs H Q _ => ∃ (a : Addr) (os : List Int) (t : Bool), vs = [.ref a] ∧ Sv t K H a (IV os) ∧ Oct os ∧ os.length = 30 ∧ ∀ (p : Addr) (H' : Hp), Evl.Ex H H' → SqT K H' p (IV (os ++ [zc (bitsL os)])) → Q (.ref p) H'
abbrev toldD (ys : List Int) : PyData := .list [if ovr ys = 0 then DT (ys.take 30) else .none, .bool (decide (ovr ys = 0)), .bool (pln ys), .bool (!decide (ovr ys = 0) && !pln ys)]
theorem sh_told {ys : List Int} (o : Oct ys) : Sh (toldD ys) 2 160012 := by
  refine (sh_list (n := 4) (h := 1) (b := 40000) (fun d hd => ?_) (by simp)).le
  simp only [List.mem_cons, List.not_mem_nil, or_false] at hd
  rcases hd with rfl | rfl | rfl | rfl
  · split
    · exact sh_t (sm_take o 30) (by rw [List.length_take]; omega)
    · exact sh_none.le
  · exact (sh_bool _).le
  · exact (sh_bool _).le
  · exact (sh_bool _).le
end
end K10
namespace K10
open PySem PySem.Spec PyProof.Rows L2 VB BM
/-- at q: a page that is a rest of os, a list -/
def RAt (os : List Int) (H : Hp) (a q : Addr) : Prop := ∃ ys : List Int, Oct ys ∧ ys.length = 31 ∧ rest os ys = true ∧ q ≠ a ∧ H q = some (.lst (IV ys))
theorem RAt.exb {os : List Int} {H H' : Hp} {a q : Addr} (h : RAt os H a q) (e : Exb a H H') : RAt os H' a q := by
  obtain ⟨ys, o, l, r, n, h⟩ := h
  exact ⟨ys, o, l, r, n, e q _ n h⟩
theorem refs_iv {qs : List Addr} {ys : List Int} (l : ys.length = 31) (h : qs.map V.ref = IV ys) : False := by
  cases ys with
  | nil => cases l
  | cons y ys =>
    cases qs with
    | nil => cases h
    | cons q qs =>
      have := (List.cons.inj h).1
      cases this
theorem RAt.updD {os : List Int} {H : Hp} {a q D : Addr} {qs : List Addr} {o : HO} (h : RAt os H a q) (hD : H D = some (.lst (qs.map V.ref))) : RAt os (upd H D o) a q := by
  obtain ⟨ys, oy, ly, r, na, h⟩ := h
  have n : q ≠ D := by
    rintro rfl
    rw [hD] at h
    have := Option.some.inj h
    injection this with e
    exact refs_iv ly e
  exact ⟨ys, oy, ly, r, na, by rw [upd_ne n]; exact h⟩
theorem ref_get {ps : List Addr} {i : Nat} {x : V} (h : (ps.map V.ref)[i]? = some x) : ∃ q, q ∈ ps ∧ ps[i]? = some q ∧ x = .ref q := by
  rw [List.getElem?_map] at h
  cases e : ps[i]? with
  | none => rw [e] at h; cases h
  | some q =>
    rw [e] at h
    exact ⟨q, List.mem_of_getElem? e, rfl, (Option.some.inj h).symm⟩
theorem inn_self {os : List Int} (oo : Oct os) : Inn os os := by
  intro j hj
  have b := oo _ (List.mem_of_getElem? (getD_get hj))
  obtain ⟨x, hx⟩ := nat_of b.1
  rw [hx, VB.bitAnd_nn, Nat.and_self]
theorem and_255 : ∀ x : Nat, x < 256 → x &&& 255 = x := by decide +kernel
theorem inn_255 {os : List Int} (oo : Oct os) (lo : os.length = 31) : Inn os (List.replicate (31 : Int).toNat 255) := by
  intro j hj
  have b := oo _ (List.mem_of_getElem? (getD_get hj))
  have e : (List.replicate (31 : Int).toNat (255 : Int)).getD j 0 = 255 := by
    rw [List.getD_eq_getElem?_getD, List.getElem?_replicate, if_pos (by show j < 31; omega)]
    rfl
  obtain ⟨x, hx⟩ := nat_of b.1
  rw [e, hx]
  show Builtin.bitAnd (x : Int) ((255 : Nat) : Int) = x
  rw [VB.bitAnd_nn, and_255 x (by omega)]
section
variable {P : Program} {w : World} {K : PySem.W.Frag} {mg : Str → Option Value} {base : Heap} {f : Addr} {fd : FuncData}
end
end K10
namespace K10
open PySem PySem.Spec PyProof.Rows L2 VB BM
theorem rest_unlike {os zs : List Int} (oo : Oct os) (oz : Oct zs) (lo : os.length = 30) (lz : zs.length = 30) (h : os ≠ zs) : rest os (zs ++ [zc (bitsL zs)]) = false := by
  cases e : rest os (zs ++ [zc (bitsL zs)]) with
  | false => rfl
  | true =>
    obtain ⟨ow, lw⟩ := oct_whole oz lz
    have r := (rest_facts oo ow lo lw e).2.2.mp (ovr_whole lz)
    exact absurd (List.append_inj r (by omega)).1.symm h
section
variable {P : Program} {w : World} {K : PySem.W.Frag} {mg : Str → Option Value} {base : Heap} {f : Addr} {fd : FuncData}
end
end K10
/-! min of one list or tuple of ints -/
namespace VB
open PySem PySem.Spec PyProof.Rows L2 PySem.W
theorem ints_reads (h : Heap) : ∀ {os : List Int} {its : List Value}, Vals (os.map V.int) its → ∃ as, ReadsAll h its (os.map PyData.int) as
  | [], _, r => by
    cases r
    exact ⟨[], .nil⟩
  | o :: os, _, r => by
    cases r with
    | cons r1 r2 =>
      obtain ⟨t, rfl⟩ := r1
      obtain ⟨as, ha⟩ := ints_reads h r2
      exact ⟨_, .cons (.int o t) ha⟩
theorem ints_alike (os : List Int) : AlikeAll (os.map PyData.int) := by
  refine ⟨fun x hx y hy => ?_, fun x hx => ?_⟩
  · obtain ⟨a, _, rfl⟩ := List.mem_map.mp hx
    obtain ⟨b, _, rfl⟩ := List.mem_map.mp hy
    rfl
  · obtain ⟨a, _, rfl⟩ := List.mem_map.mp hx
    exact fun z => nomatch z
theorem ints_depth : ∀ os : List Int, PyData.depthAll (os.map PyData.int) = 0
  | [] => rfl
  | o :: os => by
    show Nat.max 0 (PyData.depthAll (os.map PyData.int)) = 0
    rw [ints_depth os]
    rfl
theorem foldl_min_mem : ∀ (os : List Int) (n : Int), os.foldl min n ∈ n :: os
  | [], n => List.mem_cons_self ..
  | o :: os, n => by
    have h := foldl_min_mem os (min n o)
    rw [List.foldl_cons]
    rcases List.mem_cons.mp h with z | z
    · rw [z]
      by_cases c : n ≤ o
      · rw [Int.min_eq_left c]
        exact List.mem_cons_self ..
      · rw [Int.min_eq_right (by omega)]
        exact List.mem_cons_of_mem _ (List.mem_cons_self ..)
    · exact List.mem_cons_of_mem _ (List.mem_cons_of_mem _ z)
theorem foldl_min_le : ∀ (os : List Int) (n : Int), (os.foldl min n ≤ n) ∧ ∀ y ∈ os, os.foldl min n ≤ y
  | [], n => ⟨Int.le_refl _, fun y hy => nomatch hy⟩
  | o :: os, n => by
    obtain ⟨h1, h2⟩ := foldl_min_le os (min n o)
    rw [List.foldl_cons]
    refine ⟨by omega, fun y hy => ?_⟩
    rcases List.mem_cons.mp hy with z | z
    · omega
    · exact h2 y z
def rMin1 (K : PySem.W.Frag) : List V → Hp → VK → Prop := fun vs H Q => ∃ (a : Addr) (os : List Int) (t : Bool), vs = [.ref a] ∧ Sv t K H a (IV os) ∧ 0 < os.length ∧ ∀ m, m ∈ os → (∀ y, y ∈ os → m ≤ y) → Q (.int m) H
section
variable {X : Cx} {K : PySem.W.Frag}
theorem u_min1 {k : Nat} (hr : Rm k X.A) (hc : X.calm = true) (hK : X.K = K := by rfl) : CallR X (.builtin "min") (rMin1 K) := by
  subst hK
  intro pins s σ H vs us Q I r h
  obtain ⟨a, os, t, rfl, hs, hne, q⟩ := h
  cases t with
  | false => exact cr_min hc pins s σ H [.ref a] us Q I r ⟨a, os, rfl, hs, hne, q⟩
  | true =>
    obtain ⟨its, rv, ⟨⟨cls, dd, data, sl⟩, ho, hcl, n, hd⟩, hsz⟩ := I.tuple hs
    simp only at hcl hd
    subst hcl hd
    rw [Vals.ref1 r]
    obtain ⟨as, ra⟩ := ints_reads s.heap (show Vals (os.map V.int) its from rv)
    cases os with
    | nil => exact absurd hne (Nat.lt_irrefl 0)
    | cons o os =>
      have u2 := hr.rm.units
      have un : X.A.units + 1 + PyData.depthAll (PyData.int o :: os.map PyData.int) < cLine := by
        have e : PyData.depthAll (PyData.int o :: os.map PyData.int) = 0 := ints_depth (o :: os)
        rw [e]
        omega
      have ra' : ReadsAll s.heap its.toArray.toList (PyData.int o :: os.map PyData.int) as := by simpa using ra
      refine min_tuple_data (I.ok.hd hc) (vs := its.toArray) ⟨_, ho, rfl, n, rfl⟩ ra' (ints_alike (o :: os)) un fun i v h' tk bs hv rd hk => ?_
      rw [minD_ints] at rd
      cases rd with
      | int _ t =>
        obtain ⟨h1, h2⟩ := foldl_min_le os o
        exact ⟨.int _, H, I.kept hk, ⟨_, rfl⟩, q _ (foldl_min_mem os o) fun y hy => by
          rcases List.mem_cons.mp hy with z | z
          · rw [z]
            exact h1
          · exact h2 y z⟩
end
end VB
namespace K10
open PySem PySem.Spec PyProof.Rows L2 VB BM
section
variable {P : Program} {w : World} {K : PySem.W.Frag} {mg : Str → Option Value} {base : Heap} {f : Addr} {fd : FuncData}
def spIsList (K : PySem.W.Frag) : Sp := fun vs H Q _ => ∃ (a : Addr) (xs : List V) (t : Bool), vs = [.ref a] ∧ Sv t K H a xs ∧ RV (.bl true) H Q
theorem ok_is_list (T : Txt K mg) (F : FnP K "is_list" s_is_list f fd) : Fg P w K mg base CX0 1 f fd ["value"] (spIsList K) := by
  refine fg_of F sc_is_list (fun vs H Q E h => ?_) (fun cdv A outer s H vs Q E hr h => ⟨_, (PSs.nox (pss_one (ps_ret (pe_callB (u_isiT (K := K)) (by rfl) T.f_isinstance (by decide +kernel) (pa_cons (pv 0) (pa_cons (pe_tup (pa_cons (pe_bltn (v := .ty "list") rfl T.f_list (by decide +kernel) rfl) (pa_cons (pe_bltn (v := .ty "tuple") rfl T.f_tuple (by decide +kernel) rfl) pa_nil))) pa_nil)))))), ?_⟩)
  · obtain ⟨a, xs, t, rfl, _⟩ := h
    rfl
  · obtain ⟨a, xs, t, rfl, S, q⟩ := h
    refine ⟨_, rfl, by show 2 ≤ sizeLine; decide, fun tp ht => ?_⟩
    have e0 := Evl.Ex.new (o := .tup [.ty "list", .ty "tuple"]) ht
    exact ⟨_, tp, _, _, [.type "list", .type "tuple"], true, rfl, upd_same, .cons (.ty _) (.cons (.ty _) .nil), (S.ex e0).ty, kit_seq K t, q _ e0⟩
def spIsOct (K : PySem.W.Frag) : Sp := fun vs H Q _ => ∃ (a : Addr) (os : List Int) (t : Bool), vs = [.ref a] ∧ Sv t K H a (IV os) ∧ Oct os ∧ os.length ≤ 20000 ∧ RV (.bl true) H Q
theorem ok_is_octets (T : Txt K mg) (F : FnP K "is_octets" s_is_octets f fd) (C_is_list : Cal P w K mg base CX0 1 "is_list" ["value"] (spIsList K)) : Fg P w K mg base CX0 2 f fd ["value"] (spIsOct K) := by
  refine fg_of F sc_is_octets (fun vs H Q E h => ?_) (fun cdv A outer s H vs Q E hr h => ⟨_, (PSs.nox (pss_one (ps_ret (pe_and (pe_cal C_is_list hr.le pass0 (pa_cons (pv 0) pa_nil)) (pe_one (pe_callB (u_all (K := K) rfl) (by rfl) T.f_all (by decide +kernel) (pa_cons (pe_lc (own := [("octet", 1)]) rfl sc_is_octets.nd (pi_seq (K := K) (pv 0)) (blkOk_by (own := [("octet", 1)]) (N := ["value", "octet"]) (sc := defScope s_is_octets) (by decide +kernel)) (fun _ _ _ _ _ => (pg_name (i := 1) sc_is_octets.nd rfl (by first | exact Or.inl rfl | exact Or.inr rfl))) (fun _ _ _ _ _ => pts_nil) (fun _ _ _ _ _ => (pe_and (pe_callB (u_isi (K := K)) (by rfl) T.f_isinstance (by decide +kernel) (pa_cons (pv 1) (pa_cons (pe_bltn (v := .ty "int") rfl T.f_int (by decide +kernel) rfl) pa_nil))) (pe_and (pe_not (pe_callB (u_isi (K := K)) (by rfl) T.f_isinstance (by decide +kernel) (pa_cons (pv 1) (pa_cons (pe_bltn (v := .ty "bool") rfl T.f_bool (by decide +kernel) rfl) pa_nil)))) (pe_one (pe_chain op_le op_le pe_int (pv 1) pe_int)))))) pa_nil))))))), ?_⟩)
  · obtain ⟨a, os, t, rfl, _⟩ := h
    rfl
  · obtain ⟨a, os, t, rfl, S, ho, hl, q⟩ := h
    refine ⟨_, rfl, a, _, t, rfl, S, fun H0 e0 => ⟨true, rfl, iteT ?_⟩⟩
    refine seq_var (t := t) rfl (S.ex e0) fun J wk D hD => ?_
    rw [iv_len] at wk
    refine lc_pureVS (us := List.replicate os.length (V.bl true)) wk (fun H' ex => (S.ex e0).ex ex) (by simp) (by omega) hD (fun _ => rfl) ?_ ?_
    · intro i x u H' Q' hx hu ex k
      obtain ⟨o, hoi, rfl⟩ := iv_get hx
      have hm := ho o (List.mem_of_getElem? hoi)
      rw [List.eq_of_mem_replicate (List.mem_of_getElem? hu)] at k
      refine ⟨_, rfl, _, _, _, _, true, rfl, .ty _, .base (.int o), kit_ty (by decide +kernel), true, rfl, iteT ?_⟩
      refine ⟨_, rfl, _, _, _, _, false, rfl, .ty _, .base (.int o), kit_ty (by decide +kernel), false, rfl, true, rfl, iteT ?_⟩
      refine ⟨_, rfl, _, _, rfl, rfl, _, rfl, ?_⟩
      rw [decide_eq_true hm.1]
      refine iteT ⟨_, _, rfl, rfl, ?_⟩
      dsimp only
      rw [decide_eq_true hm.2]
      exact k H' (Evl.Ex.refl _)
    · intro H' ex h3
      refine ⟨D, List.replicate os.length true, rfl, SqL.of (by rw [h3, List.map_replicate]), ?_⟩
      have e : (List.replicate os.length true).all id = true := by
        rw [List.all_eq_true]
        intro b hb
        exact List.eq_of_mem_replicate hb
      rw [e]
      exact q _ (e0.trans ex)
end
end K10
namespace K10
open PySem PySem.Spec PyProof.Rows L2 VB BM
/-- the zeros of each half of an octet -/
def zh : List Int := [4, 3, 3, 2, 3, 2, 2, 1, 3, 2, 2, 1, 2, 1, 1, 0]
theorem zh_eq : ∀ n : Nat, n < 256 → zh.getD (n / 16) 0 + zh.getD (n % 16) 0 = (((bitsOf (n : Int)).count 0 : Nat) : Int) := by decide +kernel
def zN (n : Nat) : Int := zh.getD (n / 16) 0 + zh.getD (n % 16) 0
theorem zN_sum : ∀ os : List Int, Oct os → (os.map fun o => zN o.toNat).sum = zc (bitsL os)
  | [], _ => rfl
  | o :: os, h => by
    have r := zN_sum os fun x hx => h x (List.mem_cons_of_mem _ hx)
    have ho := h o (List.mem_cons_self ..)
    obtain ⟨n, rfl⟩ : ∃ n : Nat, o = n := ⟨o.toNat, by omega⟩
    rw [List.map_cons, List.sum_cons, r, Int.toNat_natCast, zN, zh_eq n (by omega)]
    show _ = zc (bitsOf (n : Int) ++ bitsL os)
    unfold zc
    rw [List.count_append]
    omega
theorem and15 : ∀ n : Nat, n < 256 → n &&& 15 = n % 16 := by decide +kernel
theorem zh_at {j : Nat} (h : j < 16) : atI (IV zh) (j : Int) = some (.int (zh.getD j 0)) := by
  have e : zh[j]? = some (zh.getD j 0) := by
    rw [List.getD_eq_getElem?_getD]
    have : j < zh.length := h
    simp [this]
  exact iv_at e
section
variable {P : Program} {w : World} {K : PySem.W.Frag} {mg : Str → Option Value} {base : Heap} {f : Addr} {fd : FuncData}
def spZB (K : PySem.W.Frag) : Sp := fun vs H Q _ => ∃ (a : Addr) (os : List Int) (t : Bool), vs = [.ref a] ∧ Sv t K H a (IV os) ∧ Oct os ∧ os.length ≤ 20000 ∧ RV (.int (zc (bitsL os))) H Q
theorem ok_zero_bits (T : Txt K mg) (F : FnP K "zero_bits" s_zero_bits f fd) : Fg P w K mg base CX0 1 f fd ["octets"] (spZB K) := by
  refine fg_of F sc_zero_bits (fun vs H Q E h => ?_) (fun cdv A outer s H vs Q E hr h => ⟨_, (PSs.nox (pss_one (ps_ret (pe_callB (u_sum (K := K) rfl) (by rfl) T.f_sum (by decide +kernel) (pa_cons (pe_lc (own := [("octet", 1)]) rfl sc_zero_bits.nd (pi_seq (K := K) (pv 0)) (blkOk_by (own := [("octet", 1)]) (N := ["octets", "octet"]) (sc := defScope s_zero_bits) (by decide +kernel)) (fun _ _ _ _ _ => (pg_name (i := 1) sc_zero_bits.nd rfl (by first | exact Or.inl rfl | exact Or.inr rfl))) (fun _ _ _ _ _ => pts_nil) (fun _ _ _ _ _ => (pe_op (u_add (K := K)) (pe_ix (u_ix (K := K)) (pe_glob (v := .ref (He.ga K "ZEROS_OF_HALF")) rfl T.g_ZEROS_OF_HALF rfl) (pe_op op_shrN (pv 1) pe_int) (fun _ _ => rfl)) (pe_ix (u_ix (K := K)) (pe_glob (v := .ref (He.ga K "ZEROS_OF_HALF")) rfl T.g_ZEROS_OF_HALF rfl) (pe_op op_and (pv 1) pe_int) (fun _ _ => rfl))))) pa_nil))))), ?_⟩)
  · obtain ⟨a, os, t, rfl, _⟩ := h
    rfl
  · obtain ⟨a, os, t, rfl, S, ho, hl, q⟩ := h
    refine seq_var (t := t) rfl S fun J wk D hD => ?_
    rw [iv_len] at wk
    refine lc_pureVS (us := IV (os.map fun o => zN o.toNat)) wk (fun H' ex => S.ex ex) (by simp) (by omega) hD (fun _ => rfl) ?_ ?_
    · intro i x u H' Q' hx hu ex k
      obtain ⟨o, hoi, rfl⟩ := iv_get hx
      have hm := ho o (List.mem_of_getElem? hoi)
      obtain ⟨n, rfl⟩ : ∃ n : Nat, o = n := ⟨o.toNat, by omega⟩
      rw [List.getElem?_map, List.getElem?_map, hoi] at hu
      cases hu
      have hz := T.t_ZEROS_OF_HALF H'
      have a15 : Builtin.bitAnd (n : Int) 15 = ((n % 16 : Nat) : Int) := by
        rw [PyProof.Rows.bitAnd_pp (by omega) (by omega)]
        have e := and15 n (by omega)
        exact congrArg Nat.cast e
      have d16 : (n : Int) / 2 ^ 4 = ((n / 16 : Nat) : Int) := by omega
      refine ⟨_, rfl, n, 4, rfl, rfl, Sv.ix (x := .non) (show Sv true K H' _ (IV zh) from hz) (i := (n : Int) / 2 ^ 4) (by rw [d16]; exact zh_at (by omega)) ⟨_, rfl, _, _, rfl, rfl, Sv.ix (x := .non) (show Sv true K H' _ (IV zh) from hz) (i := Builtin.bitAnd (n : Int) 15) (by rw [a15]; exact zh_at (by omega)) ?_⟩⟩
      refine .inl ⟨_, _, rfl, rfl, ?_⟩
      have kk := k H' (Evl.Ex.refl _)
      exact kk
    · intro H' ex h3
      refine ⟨D, os.map fun o => zN o.toNat, rfl, SqL.of h3, ?_⟩
      rw [zN_sum os ho]
      exact q _ ex
end
end K10
namespace K10
open PySem PySem.Spec PyProof.Rows L2 VB BM
section
variable {P : Program} {w : World} {K : PySem.W.Frag} {mg : Str → Option Value} {base : Heap} {f : Addr} {fd : FuncData}
def spOctOf (K : PySem.W.Frag) : Sp := fun vs H Q _ => ∃ (a : Addr) (os : List Int) (t : Bool) (n : Int), vs = [.ref a, .int n] ∧ Sv t K H a (IV os) ∧ Oct os ∧ os.length ≤ 20000 ∧ (os.length : Int) = n ∧ RV (.bl true) H Q
theorem ok_octets_of (T : Txt K mg) (F : FnP K "is_octets_of" s_is_octets_of f fd) (C_is_list : Cal P w K mg base CX0 1 "is_list" ["value"] (spIsList K)) (C_is_octets : Cal P w K mg base CX0 2 "is_octets" ["value"] (spIsOct K)) : Fg P w K mg base CX0 3 f fd ["value", "count"] (spOctOf K) := by
  refine fg_of F sc_is_octets_of (fun vs H Q E h => ?_) (fun cdv A outer s H vs Q E hr h => ⟨_, (PSs.nox (pss_one (ps_ret (pe_and (pe_cal C_is_list hr.le pass0 (pa_cons (pv 0) pa_nil)) (pe_and (pe_cmpR (u_eq (K := K) hr) (pe_callB (u_len (K := K)) (by rfl) T.f_len (by decide +kernel) (pa_cons (pv 0) pa_nil)) (pv 1) (nomark _)) (pe_one (pe_cal C_is_octets hr.le pass0 (pa_cons (pv 0) pa_nil)))))))), ?_⟩)
  · obtain ⟨a, os, t, n, rfl, _⟩ := h
    rfl
  · obtain ⟨a, os, t, n, rfl, S, ho, hl, hn, q⟩ := h
    refine ⟨_, rfl, a, _, t, rfl, S, fun H1 e1 => ⟨true, rfl, iteT ?_⟩⟩
    refine ⟨_, rfl, _, _, rfl, (S.ex e1).len, _, rfl, .inl ⟨rfl, _, rfl, ?_⟩⟩
    have en : V.int ((IV os).length : Int) = V.int n := by rw [iv_len, hn]
    rw [en, decide_eq_true rfl]
    exact iteT ⟨_, rfl, a, os, t, rfl, S.ex e1, ho, hl, fun H2 e2 => q _ (e1.trans e2)⟩
def spIsPage (K : PySem.W.Frag) : Sp := fun vs H Q _ => ∃ (a : Addr) (os : List Int) (t : Bool), vs = [.ref a] ∧ Sv t K H a (IV os) ∧ Oct os ∧ os.length = 31 ∧ RV (.bl true) H Q
theorem ok_is_page (T : Txt K mg) (F : FnP K "_is_page" s__is_page f fd) (C_is_octets_of : Cal P w K mg base CX0 3 "is_octets_of" ["value", "count"] (spOctOf K)) : Fg P w K mg base CX0 4 f fd ["value"] (spIsPage K) := by
  refine fg_of F sc__is_page (fun vs H Q E h => ?_) (fun cdv A outer s H vs Q E hr h => ⟨_, (PSs.nox (pss_one (ps_ret (pe_cal C_is_octets_of hr.le pass0 (pa_cons (pv 0) (pa_cons (pe_globI rfl T.g_PAGE_OCTETS) pa_nil)))))), ?_⟩)
  · obtain ⟨a, os, t, rfl, _⟩ := h
    rfl
  · obtain ⟨a, os, t, rfl, S, ho, hl, q⟩ := h
    exact ⟨_, rfl, a, os, t, 31, rfl, S, ho, by omega, by omega, q⟩
theorem ok_sealed (T : Txt K mg) (F : FnP K "sealed" s_sealed f fd) (C_is_octets_of : Cal P w K mg base CX0 3 "is_octets_of" ["value", "count"] (spOctOf K)) (C_zero_bits : Cal P w K mg base CX0 1 "zero_bits" ["octets"] (spZB K)) : Fg P w K mg base CX0 6 f fd ["data"] (spSealed K) := by
  refine fg_of F sc_sealed (fun vs H Q E h => ?_) (fun cdv A outer s H vs Q E hr h => ⟨_, (PSs.nox (pss_cons (ps_if (pt_not (pt_tru (K := K) (pe_cal C_is_octets_of hr.le pass0 (pa_cons (pv 0) (pa_cons (pe_globI rfl T.g_DATA_OCTETS) pa_nil))) (by intro _; rfl)))
  (pss_one ps_never) pss_nil)
  (pss_one (ps_ret (pe_op (u_add (K := K)) (pe_callTy (u_tup (K := K)) (by rfl) T.f_tuple (by decide +kernel) (pa_cons (pv 0) pa_nil)) (pe_tup (pa_cons (pe_cal C_zero_bits hr.le pass0 (pa_cons (pv 0) pa_nil)) pa_nil))))))), ?_⟩)
  · obtain ⟨a, os, t, rfl, _⟩ := h
    rfl
  · obtain ⟨a, os, t, rfl, S, ho, hl, q⟩ := h
    refine ⟨_, rfl, a, os, t, 30, rfl, S, ho, by omega, by omega, fun H1 e1 => ⟨true, rfl, iteF ?_⟩⟩
    have tail : ∀ (p : Addr) (H2 : Hp), Evl.Ex H1 H2 → SqT K H2 p (IV os) → tTup (tCons (tCall (spZB K) [] E0 (tCons (tVar 0) tNil)) tNil) (L2.start ["data"] [V.ref a]) H2 fun y H3 => rAddU K (.ref p) y H3 Q := by
      intro p H2 e2 S2
      refine ⟨_, rfl, a, os, t, rfl, (S.ex e1).ex e2, ho, by omega, fun H3 e3 => ⟨by show 1 ≤ sizeLine; decide, fun l nl => ?_⟩⟩
      have x := Evl.Ex.new (o := .tup [V.int (zc (bitsL os))]) nl
      have ne : IV os ≠ [] := by
        intro z
        have := iv_len os
        rw [z] at this
        have l0 : ([] : List V).length = 0 := rfl
        omega
      refine .inr (.inr ⟨p, l, IV os, [V.int (zc (bitsL os))], rfl, rfl, Evl.ex_t (e3.trans x) S2, SqT.of upd_same, ne, ?_, fun z => (nomatch z), fun _ r nr => ?_⟩)
      · rw [iv_len]
        exact Nat.le_of_lt (Evl.sz_lt (by show os.length + 1 < _; omega))
      · have y := Evl.Ex.new (o := .tup (IV os ++ [V.int (zc (bitsL os))])) nr
        refine q r _ ((((e1.trans e2).trans e3).trans x).trans y) ?_
        have e : IV (os ++ [zc (bitsL os)]) = IV os ++ [V.int (zc (bitsL os))] := List.map_append
        rw [e]
        exact SqT.of upd_same
    refine ⟨_, rfl, a, IV os, rfl, ?_⟩
    cases t with
    | false => exact .inl ⟨S.ex e1, fun l nl => tail l _ (Evl.Ex.new nl) (SqT.of upd_same)⟩
    | true => exact .inr ⟨S.ex e1, tail a _ (Evl.Ex.refl _) (S.ex e1)⟩
theorem ok_surplus (T : Txt K mg) (F : FnP K "surplus" s_surplus f fd) (C__is_page : Cal P w K mg base CX0 4 "_is_page" ["value"] (spIsPage K)) (C_zero_bits : Cal P w K mg base CX0 1 "zero_bits" ["octets"] (spZB K)) : Fg P w K mg base CX0 7 f fd ["octets"] (spSurplus K) := by
  refine fg_of F sc_surplus (fun vs H Q E h => ?_) (fun cdv A outer s H vs Q E hr h => ⟨_, (PSs.nox (pss_cons (ps_if (pt_not (pt_tru (K := K) (pe_cal C__is_page hr.le pass0 (pa_cons (pv 0) pa_nil)) (by intro _; rfl)))
  (pss_one ps_never) pss_nil)
  (pss_one (ps_ret (pe_op op_sub (pe_ix (u_ix (K := K)) (pv 0) (pe_globI rfl T.g_DATA_OCTETS) (fun _ _ => rfl)) (pe_cal C_zero_bits hr.le pass0 (pa_cons (pe_slice (u_sl (K := K)) (pv 0) po_none (po_some (pe_globI rfl T.g_DATA_OCTETS))) pa_nil))))))), ?_⟩)
  · obtain ⟨a, os, t, rfl, _⟩ := h
    rfl
  · obtain ⟨a, os, t, rfl, S, ho, hl, q⟩ := h
    refine ⟨_, rfl, a, os, t, rfl, S, ho, hl, fun H1 e1 => ⟨true, rfl, iteF ?_⟩⟩
    have S1 := S.ex e1
    refine ⟨_, rfl, Sv.ix (x := .non) S1 (i := 30) (iv_at (i := 30) (get30 hl)) ⟨_, rfl, 30, rfl, Sv.first S1 (n := 30) (by omega) fun p H2 np e2 S2 => ⟨p, _, t, rfl, S2, fun o ho2 => ho o (List.mem_of_mem_take ho2), by rw [List.length_take]; omega, fun H3 e3 => ⟨_, _, rfl, rfl, ?_⟩⟩⟩⟩
    exact q _ ((e1.trans e2).trans e3)
theorem ok_is_whole (T : Txt K mg) (F : FnP K "is_whole" s_is_whole f fd) (C__is_page : Cal P w K mg base CX0 4 "_is_page" ["value"] (spIsPage K)) (C_surplus : Cal P w K mg base CX0 7 "surplus" ["octets"] (spSurplus K)) : Fg P w K mg base CX0 8 f fd ["value"] (spWhole K) := by
  refine fg_of F sc_is_whole (fun vs H Q E h => ?_) (fun cdv A outer s H vs Q E hr h => ⟨_, (PSs.nox (pss_one (ps_ret (pe_and (pe_cal C__is_page hr.le pass0 (pa_cons (pv 0) pa_nil)) (pe_one (pe_cmpR (u_eq (K := K) hr) (pe_cal C_surplus hr.le pass0 (pa_cons (pv 0) pa_nil)) pe_int (nomark _))))))), ?_⟩)
  · obtain ⟨a, os, t, rfl, _⟩ := h
    rfl
  · obtain ⟨a, os, t, rfl, S, ho, hl, q⟩ := h
    refine ⟨_, rfl, a, os, t, rfl, S, ho, hl, fun H1 e1 => ⟨true, rfl, iteT ?_⟩⟩
    refine ⟨_, rfl, a, os, t, rfl, S.ex e1, ho, hl, fun H2 e2 => .inl ⟨rfl, ?_⟩⟩
    rw [dec_int]
    exact q _ (e1.trans e2)
/-- the least octet is 255 exactly if all are -/
theorem pln_min {os : List Int} (ho : Oct os) (hl : os.length = 31) {m : Int} (hm : m ∈ os) (hy : ∀ y, y ∈ os → m ≤ y) : pln os = decide (m = 255) := by
  unfold pln
  by_cases c : m = 255
  · rw [decide_eq_true c, decide_eq_true]
    refine List.eq_replicate_iff.mpr ⟨hl, fun b hb => ?_⟩
    have h1 := hy b hb
    have h2 := ho b hb
    omega
  · rw [decide_eq_false c, decide_eq_false]
    intro e
    rw [e] at hm
    exact c (List.eq_of_mem_replicate hm)
theorem ok_is_clean (T : Txt K mg) (F : FnP K "is_clean" s_is_clean f fd) (C__is_page : Cal P w K mg base CX0 4 "_is_page" ["value"] (spIsPage K)) : Fg P w K mg base CX0 8 f fd ["value"] (spClean K) := by
  refine fg_of F sc_is_clean (fun vs H Q E h => ?_) (fun cdv A outer s H vs Q E hr h => ⟨_, (PSs.nox (pss_one (ps_ret (pe_and (pe_cal C__is_page hr.le pass0 (pa_cons (pv 0) pa_nil)) (pe_one (pe_cmpR (u_eq (K := K) hr) (pe_callB (u_min1 (K := K) hr rfl) (by rfl) T.f_min (by decide +kernel) (pa_cons (pv 0) pa_nil)) pe_int (nomark _))))))), ?_⟩)
  · obtain ⟨a, os, t, rfl, _⟩ := h
    rfl
  · obtain ⟨a, os, t, rfl, S, ho, hl, q⟩ := h
    refine ⟨_, rfl, a, os, t, rfl, S, ho, hl, fun H1 e1 => ⟨true, rfl, iteT ?_⟩⟩
    refine ⟨_, rfl, a, os, t, rfl, S.ex e1, by omega, fun m hm hy => .inl ⟨rfl, ?_⟩⟩
    rw [dec_int, ← pln_min ho hl hm hy]
    exact q _ e1
theorem ok_is_torn (T : Txt K mg) (F : FnP K "is_torn" s_is_torn f fd) (C__is_page : Cal P w K mg base CX0 4 "_is_page" ["value"] (spIsPage K)) (C_surplus : Cal P w K mg base CX0 7 "surplus" ["octets"] (spSurplus K)) : Fg P w K mg base CX0 8 f fd ["value"] (spTorn K) := by
  refine fg_of F sc_is_torn (fun vs H Q E h => ?_) (fun cdv A outer s H vs Q E hr h => ⟨_, (PSs.nox (pss_one (ps_ret (pe_and (pe_cal C__is_page hr.le pass0 (pa_cons (pv 0) pa_nil)) (pe_and (pe_cmpR op_lt (pe_callB (u_min1 (K := K) hr rfl) (by rfl) T.f_min (by decide +kernel) (pa_cons (pv 0) pa_nil)) pe_int (nomark _)) (pe_one (pe_cmpR (u_ne (K := K) hr) (pe_cal C_surplus hr.le pass0 (pa_cons (pv 0) pa_nil)) pe_int (nomark _)))))))), ?_⟩)
  · obtain ⟨a, os, t, rfl, _⟩ := h
    rfl
  · obtain ⟨a, os, t, rfl, S, ho, hl, q⟩ := h
    refine ⟨_, rfl, a, os, t, rfl, S, ho, hl, fun H1 e1 => ⟨true, rfl, iteT ?_⟩⟩
    refine ⟨_, rfl, a, os, t, rfl, S.ex e1, by omega, fun m hm hy => ⟨_, _, rfl, rfl, _, rfl, if_dec (fun h2 => ?_) (fun h2 => ?_)⟩⟩
    · have pm : pln os = false := by
        rw [pln_min ho hl hm hy]
        exact decide_eq_false (by omega)
      refine ⟨_, rfl, a, os, t, rfl, S.ex e1, ho, hl, fun H2 e2 => .inl ⟨rfl, ?_⟩⟩
      have z := q H2 (e1.trans e2)
      rw [pm] at z
      rw [dec_int]
      simpa using z
    · have m2 := ho m hm
      have pm : pln os = true := by
        rw [pln_min ho hl hm hy]
        exact decide_eq_true (by omega)
      have z := q H1 e1
      rw [pm] at z
      simpa using z
def spDTB (K : PySem.W.Frag) : Sp := spDataOf K
theorem ok_data_told_by (T : Txt K mg) (F : FnP K "data_told_by" s_data_told_by f fd) (C_zero_bits : Cal P w K mg base CX0 1 "zero_bits" ["octets"] (spZB K)) : Fg P w K mg base CX0 4 f fd ["page"] (spDTB K) := by
  refine fg_of F sc_data_told_by (fun vs H Q E h => ?_) (fun cdv A outer s H vs Q E hr h => ⟨_, (PSs.nox (pss_cons (ps_set (i := 1) sc_data_told_by.nd rfl (by first | exact Or.inl rfl | exact Or.inr rfl) (pe_callTy (u_tup (K := K)) (by rfl) T.f_tuple (by decide +kernel) (pa_cons (pe_slice (u_sl (K := K)) (pv 0) po_none (po_some (pe_globI rfl T.g_DATA_OCTETS))) pa_nil)))
  (pss_cons (ps_set (i := 2) sc_data_told_by.nd rfl (by first | exact Or.inl rfl | exact Or.inr rfl) (pe_ix (u_ix (K := K)) (pv 0) (pe_globI rfl T.g_DATA_OCTETS) (fun _ _ => rfl)))
  (pss_cons (ps_if (PW.pt (pw_or (pt_cmpR op_gt (pv 2) (pe_globI rfl T.g_MOST_ZEROS) (nomark _)) (pw_or1 (pt_cmpR (u_ne (K := K) hr) (pv 2) (pe_cal C_zero_bits hr.le pass0 (pa_cons (pv 1) pa_nil)) (nomark _)))))
  (pss_one (ps_ret pe_non)) pss_nil)
  (pss_one (ps_ret (pv 1))))))), ?_⟩)
  · obtain ⟨a, os, t, rfl, _⟩ := h
    rfl
  · obtain ⟨a, os, t, rfl, S, ho, hl, q⟩ := h
    refine ⟨_, rfl, 30, rfl, Sv.first S (n := 30) (by omega) fun p H1 np e1 S1 => ?_⟩
    have tail : ∀ (v : Addr) (H2 : Hp), Evl.Ex H H2 → SqT K H2 v (IV (os.take 30)) → tSeq (tAsg (tOp (rIx K) (tVar 0) (tC (V.int 30))) (gName 2)) (tSeq (tIfS (tOr (tTest (tOp (rI0 fun i j => V.bl (decide (j < i))) (tVar 2) (tC (V.int 240)))) (tTest (tOp (rNeU K) (tVar 2) (tCall (spZB K) [] E0 (tCons (tVar 1) tNil))))) (tRet (tC V.non)) tNext) (tRet (tVar 1))) { nx := fun x H' => Q V.non H', rt := Q } [some (.ref a), some (.ref v), none] H2 := by
      intro v H2 e2 S2
      have b := zc_bound (bitsL (os.take 30))
      rw [bitsL_len, List.length_take] at b
      refine ⟨_, rfl, Sv.ix (x := .non) (S.ex e2) (i := 30) (iv_at (i := 30) (get30 hl)) ⟨_, rfl, _, _, rfl, rfl, _, rfl, if_dec (fun h => ?_) (fun h => ?_)⟩⟩
      · have n0 : ¬ ovr os = 0 := by unfold ovr; omega
        have z := q .non H2 e2
        rw [if_neg n0] at z
        exact z .non
      · refine ⟨_, rfl, _, rfl, v, os.take 30, true, rfl, S2, fun o ho2 => ho o (List.mem_of_mem_take ho2), by rw [List.length_take]; omega, fun H3 e3 => .inl ⟨rfl, _, rfl, ?_⟩⟩
        rw [dec_int]
        have hz := q (.ref v) H3 (e2.trans e3)
        by_cases z : os.getD 30 0 = zc (bitsL (os.take 30))
        · have n0 : ovr os = 0 := by unfold ovr; omega
          rw [if_pos n0] at hz
          rw [decide_eq_true z]
          exact iteF ⟨_, rfl, hz (Dp.ex e3 _ _ (dp_t S2))⟩
        · have n0 : ¬ ovr os = 0 := by unfold ovr; omega
          have hn := q .non H3 (e2.trans e3)
          rw [if_neg n0] at hn
          rw [decide_eq_false z]
          exact iteT (hn .non)
    refine ⟨p, IV (os.take 30), rfl, ?_⟩
    cases t with
    | false => exact .inl ⟨S1, fun l nl => tail l _ (e1.trans (Evl.Ex.new nl)) (SqT.of upd_same)⟩
    | true => exact .inr ⟨S1, tail p _ e1 S1⟩
theorem ok_data_of (T : Txt K mg) (F : FnP K "data_of" s_data_of f fd) (C__is_page : Cal P w K mg base CX0 4 "_is_page" ["value"] (spIsPage K)) (C_data_told_by : Cal P w K mg base CX0 4 "data_told_by" ["page"] (spDTB K)) : Fg P w K mg base CX0 8 f fd ["octets"] (spDataOf K) := by
  refine fg_of F sc_data_of (fun vs H Q E h => ?_) (fun cdv A outer s H vs Q E hr h => ⟨_, (PSs.nox (pss_cons (ps_if (pt_not (pt_tru (K := K) (pe_cal C__is_page hr.le pass0 (pa_cons (pv 0) pa_nil)) (by intro _; rfl)))
  (pss_one ps_never) pss_nil)
  (pss_one (ps_ret (pe_cal C_data_told_by hr.le pass0 (pa_cons (pv 0) pa_nil)))))), ?_⟩)
  · obtain ⟨a, os, t, rfl, _⟩ := h
    rfl
  · obtain ⟨a, os, t, rfl, S, ho, hl, q⟩ := h
    refine ⟨_, rfl, a, os, t, rfl, S, ho, hl, fun H1 e1 => ⟨true, rfl, iteF ?_⟩⟩
    exact ⟨_, rfl, a, os, t, rfl, S.ex e1, ho, hl, fun v H2 e2 d => q v H2 (e1.trans e2) d⟩
end
end K10
namespace K10
open PySem PySem.Spec PyProof.Rows L2 VB BM
theorem and_comm_o {x y : Int} (hx : 0 ≤ x) (hy : 0 ≤ y) : Builtin.bitAnd x y = Builtin.bitAnd y x := by
  rw [VB.bitAnd_pp hx hy, VB.bitAnd_pp hy hx, Nat.and_comm]
/-- octet by octet: is each 1 of the page there -/
def covers (ys ws : List Int) : List Bool := (ys.zip ws).map fun p => decide (Builtin.bitAnd p.1 p.2 = p.2)
theorem covers_len {ys ws : List Int} (h : ys.length = ws.length) : (covers ys ws).length = ys.length := by
  unfold covers
  rw [List.length_map, List.length_zip]
  omega
theorem covers_get {ys ws : List Int} {i : Nat} {y w : Int} (hy : ys[i]? = some y) (hw : ws[i]? = some w) : (covers ys ws)[i]? = some (decide (Builtin.bitAnd y w = w)) := by
  unfold covers
  rw [List.getElem?_map]
  have e : (ys.zip ws)[i]? = some (y, w) := by
    rw [List.getElem?_zip_eq_some]
    exact ⟨hy, hw⟩
  rw [e]
  rfl
theorem zc_oct {os : List Int} (lo : os.length = 30) : 0 ≤ zc (bitsL os) ∧ zc (bitsL os) ≤ 255 := by
  have b := zc_bound (bitsL os)
  rw [bitsL_len] at b
  omega
theorem covers_rest {os ys : List Int} (oo : Oct os) (oy : Oct ys) (lo : os.length = 30) (ly : ys.length = 31) : (covers ys (os ++ [zc (bitsL os)])).all id = rest os ys := by
  have ow : Oct (os ++ [zc (bitsL os)]) := by
    intro o ho
    rcases List.mem_append.mp ho with z | z
    · exact oo o z
    · have e : o = zc (bitsL os) := by simpa using z
      rw [e]
      exact zc_oct lo
  have lw : (os ++ [zc (bitsL os)]).length = 31 := by simp; omega
  have at_ : ∀ j, j < 31 → ∃ y w, ys[j]? = some y ∧ (os ++ [zc (bitsL os)])[j]? = some w ∧ ys.getD j 0 = y ∧ (os ++ [zc (bitsL os)]).getD j 0 = w ∧ 0 ≤ y ∧ 0 ≤ w := by
    intro j hj
    obtain ⟨y, hy⟩ := get_lt (l := ys) (i := j) (by omega)
    obtain ⟨w, hw⟩ := get_lt (l := os ++ [zc (bitsL os)]) (i := j) (by omega)
    exact ⟨y, w, hy, hw, by rw [List.getD_eq_getElem?_getD, hy]; rfl, by rw [List.getD_eq_getElem?_getD, hw]; rfl, (oy y (List.mem_of_getElem? hy)).1, (ow w (List.mem_of_getElem? hw)).1⟩
  have iff : (covers ys (os ++ [zc (bitsL os)])).all id = true ↔ rest os ys = true := by
    rw [rest_iff, List.all_eq_true]
    constructor
    · intro h j hj
      obtain ⟨y, w, hy, hw, ey, ew, py, pw⟩ := at_ j hj
      have m := List.mem_of_getElem? (covers_get hy hw)
      have t := h _ m
      rw [ey, ew, and_comm_o pw py]
      exact of_decide_eq_true t
    · intro h b hb
      obtain ⟨i, hi, rfl⟩ := List.mem_iff_getElem.mp hb
      have li : i < 31 := by
        rw [covers_len (by omega)] at hi
        omega
      obtain ⟨y, w, hy, hw, ey, ew, py, pw⟩ := at_ i li
      have g := covers_get hy hw
      rw [List.getElem?_eq_getElem hi] at g
      rw [Option.some.inj g]
      have t := h i li
      rw [ey, ew, and_comm_o pw py] at t
      exact decide_eq_true t
  cases c : rest os ys with
  | true => exact iff.mpr c
  | false =>
    cases d : (covers ys (os ++ [zc (bitsL os)])).all id with
    | false => rfl
    | true =>
      rw [iff.mp d] at c
      cases c
section
variable {P : Program} {w : World} {K : PySem.W.Frag} {mg : Str → Option Value} {base : Heap} {f : Addr} {fd : FuncData}
theorem ok_is_rest (T : Txt K mg) (F : FnP K "is_rest" s_is_rest f fd) (C_sealed : Cal P w K mg base CX0 6 "sealed" ["data"] (spSealed K)) (C__is_page : Cal P w K mg base CX0 4 "_is_page" ["value"] (spIsPage K)) : Fg P w K mg base CX0 8 f fd ["data", "value"] (spRest K) := by
  refine fg_of F sc_is_rest (fun vs H Q E h => ?_) (fun cdv A outer s H vs Q E hr h => ⟨_, (PSs.nox (pss_cons (ps_set (i := 2) sc_is_rest.nd rfl (by first | exact Or.inl rfl | exact Or.inr rfl) (pe_cal C_sealed hr.le pass0 (pa_cons (pv 0) pa_nil)))
  (pss_one (ps_ret (pe_and (pe_cal C__is_page hr.le pass0 (pa_cons (pv 1) pa_nil)) (pe_one (pe_callB (u_all (K := K) rfl) (by rfl) T.f_all (by decide +kernel) (pa_cons (pe_lc (own := [("octet", 3), ("due", 4)]) rfl sc_is_rest.nd (pi_zm (K := K) rfl T.f_zip (pa_cons (pv 1) (pa_cons (pv 2) pa_nil))) (blkOk_by (own := [("octet", 3), ("due", 4)]) (N := ["data", "value", "page", "octet", "due"]) (sc := defScope s_is_rest) (by decide +kernel)) (fun _ _ _ _ _ => (pg_tupU (K := K) (n := 2) rfl (pgs_cons (pg_name (i := 3) sc_is_rest.nd rfl (by first | exact Or.inl rfl | exact Or.inr rfl)) (pgs_cons (pg_name (i := 4) sc_is_rest.nd rfl (by first | exact Or.inl rfl | exact Or.inr rfl)) pgs_nil)))) (fun _ _ _ _ _ => pts_nil) (fun _ _ _ _ _ => (pe_cmpR (u_eq (K := K) hr) (pe_op op_and (pv 3) (pv 4)) (pv 4) (nomark _)))) pa_nil)))))))), ?_⟩)
  · obtain ⟨a, b, os, ys, t, u, rfl, _⟩ := h
    rfl
  · obtain ⟨a, b, os, ys, t, u, rfl, Sa, Sb, oo, oy, lo, ly, q⟩ := h
    refine ⟨_, rfl, a, os, t, rfl, Sa, oo, lo, fun p H1 e1 S1 => ?_⟩
    refine ⟨_, rfl, b, ys, u, rfl, Sb.ex e1, oy, ly, fun H2 e2 => ⟨true, rfl, iteT ?_⟩⟩
    have lw : (os ++ [zc (bitsL os)]).length = 31 := by simp; omega
    have wk := walk_zm (t := u) (u := true) (K := K) (a := b) (b := p) (xs := IV ys) (ys := IV (os ++ [zc (bitsL os)])) (n := 31) (by rw [iv_len, iv_len]; omega)
    have S2 : Sv true K H2 p (IV (os ++ [zc (bitsL os)])) := Sv.ex (t := true) S1 e2
    have B2 := Sb.ex (e1.trans e2)
    refine ⟨_, rfl, _, rfl, u, true, b, p, _, _, rfl, B2, S2, fun D hD => ?_⟩
    refine lc_pureVZ (us := (covers ys (os ++ [zc (bitsL os)])).map V.bl) wk (fun H' ex => ⟨B2.ex ex, S2.ex ex⟩) (by rw [List.length_map, covers_len (by omega)]; exact ly) (by omega) hD (fun _ _ => rfl) ?_ ?_
    · intro i x y v H' Q' hx hy hv ex k
      obtain ⟨m, hm, rfl⟩ := iv_get hx
      obtain ⟨n, hn, rfl⟩ := iv_get hy
      rw [List.getElem?_map, covers_get hm hn] at hv
      cases hv
      refine ⟨_, rfl, _, rfl, _, _, rfl, rfl, _, rfl, .inl ⟨rfl, ?_⟩⟩
      have kk := k H' (Evl.Ex.refl _)
      rw [dec_int]
      exact kk
    · intro H' ex h3
      refine ⟨D, covers ys (os ++ [zc (bitsL os)]), rfl, SqL.of h3, ?_⟩
      rw [covers_rest oo oy lo ly]
      exact q _ ((e1.trans e2).trans ex)
end
end K10
namespace K10
open PySem PySem.Spec PyProof.Rows L2 VB BM
section
variable {P : Program} {w : World} {K : PySem.W.Frag} {mg : Str → Option Value} {base : Heap} {f : Addr} {fd : FuncData}
/-- a chip's fields -/
structure Cp where
  blocks : Int
  pages : Int
  bad : Int
  ops : Int
  cuts : Int
  o : Addr
  e : Addr
  t : Addr
  p : Addr
  q : Addr
  r : Addr
def Cp.fs (c : Cp) : List (Str × V) := [("blocks", .int c.blocks), ("pages", .int c.pages), ("bad", .int c.bad), ("ops", .int c.ops), ("cuts", .int c.cuts), ("_octets", .ref c.o), ("_erased", .ref c.e), ("_turned_bad", .ref c.t), ("_cut_plans", .ref c.p), ("_fail_plans", .ref c.q), ("_reads", .ref c.r)]
abbrev Ch (K : PySem.W.Frag) : Addr := He.ga K "Chip"
def InsAt (K : PySem.W.Frag) (H : Hp) (a : Addr) (c : Cp) : Prop := ∃ dx, H a = some (.ins (Ch K) dx c.fs)
structure TxC (K : PySem.W.Frag) : Prop where
  cls : Cls K (Ch K)
  no : ∀ x ∈ (["blocks", "pages", "bad", "ops", "cuts", "_octets", "_erased", "_turned_bad", "_cut_plans", "_fail_plans", "_reads"] : List Str), NoAttr K (Ch K) x
def spIntFrom : Sp := fun vs H Q _ => ∃ i l g : Int, vs = [.int i, .int l, .int g] ∧ l ≤ i ∧ i ≤ g ∧ Q (.bl true) H
def spChkB (K : PySem.W.Frag) : Sp := fun vs H Q _ => ∃ (a : Addr) (c : Cp) (b : Int), vs = [.ref a, .int b] ∧ InsAt K H a c ∧ 0 ≤ b ∧ b < c.blocks ∧ RV .non H Q
theorem ok_check_block (T : Txt K mg) (TC : TxC K) (F : FnM K "_check_block" "Chip._check_block" s_Chip___check_block f fd) (C_is_int_from : Cal P w K mg base CX0 2 "is_int_from" ["value", "least", "greatest"] spIntFrom) :
    Fg P w K mg base CX0 3 f fd ["self", "block"] (spChkB K) := by
  refine fg_of F sc_Chip___check_block (fun vs H Q E h => ?_) (fun cdv A outer s H vs Q E hr h => ⟨_, (PSs.nox (pss_one (ps_if (pt_not (pt_tru (K := K) (pe_cal C_is_int_from hr.le pass0 (pa_cons (pv 1) (pa_cons pe_int (pa_cons (pe_op op_sub (pe_fldU (K := K) (pv 0) rfl) pe_int) pa_nil)))) (by intro _; rfl)))
  (pss_one ps_never) pss_nil))), ?_⟩)
  · obtain ⟨a, c, b, rfl, _⟩ := h
    rfl
  · obtain ⟨a, c, b, rfl, ⟨dx, ha⟩, b0, b1, q⟩ := h
    exact ⟨_, rfl, _, rfl, a, _, dx, _, _, rfl, ha, TC.cls, TC.no _ (by simp), rfl, _, _, rfl, rfl, b, 0, c.blocks - 1, rfl, b0, by omega, true, rfl, iteF (q _ (Evl.Ex.refl _))⟩
def spChkP (K : PySem.W.Frag) : Sp := fun vs H Q _ => ∃ (a : Addr) (c : Cp) (b : Int), vs = [.ref a, .int b] ∧ InsAt K H a c ∧ 0 ≤ b ∧ b < c.pages ∧ RV .non H Q
theorem ok_check_page (T : Txt K mg) (TC : TxC K) (F : FnM K "_check_page" "Chip._check_page" s_Chip___check_page f fd) (C_is_int_from : Cal P w K mg base CX0 2 "is_int_from" ["value", "least", "greatest"] spIntFrom) :
    Fg P w K mg base CX0 3 f fd ["self", "page"] (spChkP K) := by
  refine fg_of F sc_Chip___check_page (fun vs H Q E h => ?_) (fun cdv A outer s H vs Q E hr h => ⟨_, (PSs.nox (pss_one (ps_if (pt_not (pt_tru (K := K) (pe_cal C_is_int_from hr.le pass0 (pa_cons (pv 1) (pa_cons pe_int (pa_cons (pe_op op_sub (pe_fldU (K := K) (pv 0) rfl) pe_int) pa_nil)))) (by intro _; rfl)))
  (pss_one ps_never) pss_nil))), ?_⟩)
  · obtain ⟨a, c, b, rfl, _⟩ := h
    rfl
  · obtain ⟨a, c, b, rfl, ⟨dx, ha⟩, b0, b1, q⟩ := h
    exact ⟨_, rfl, _, rfl, a, _, dx, _, _, rfl, ha, TC.cls, TC.no _ (by simp), rfl, _, _, rfl, rfl, b, 0, c.pages - 1, rfl, b0, by omega, true, rfl, iteF (q _ (Evl.Ex.refl _))⟩
theorem InsAt.ex {H H' : Hp} {a : Addr} {c : Cp} (h : InsAt K H a c) (e : Evl.Ex H H') : InsAt K H' a c := by
  obtain ⟨dx, h⟩ := h
  exact ⟨dx, e _ _ h⟩
/-- the number of a block's erases -/
def spErases (K : PySem.W.Frag) : Sp := fun vs H Q _ => ∃ (a : Addr) (c : Cp) (b : Nat) (er : List Int), vs = [.ref a, .int (b : Int)] ∧ InsAt K H a c ∧ (b : Int) < c.blocks ∧ H c.e = some (.lst (IV er)) ∧ b < er.length ∧ RV (.int (er.getD b 0)) H Q
end
end K10
namespace K10
open PySem PySem.Spec PyProof.Rows L2 VB BM
section
variable {P : Program} {w : World} {K : PySem.W.Frag} {mg : Str → Option Value} {base : Heap} {f : Addr} {fd : FuncData}
abbrev BV (bs : List Bool) : List V := bs.map V.bl
theorem bv_at {bs : List Bool} {i : Nat} (h : i < bs.length) : atI (BV bs) (i : Int) = some (.bl (bs.getD i false)) := by
  refine atI_nat ?_
  rw [List.getElem?_map, List.getD_eq_getElem?_getD]
  simp [h]
/-- the blocks' octets, each a tuple, at the refs -/
def Tups (K : PySem.W.Frag) (H : Hp) (rs : List Addr) (os : List (List Int)) : Prop := rs.length = os.length ∧ ∀ i, i < os.length → SqT K H (rs.getD i 0) (IV (os.getD i []))
def spIsBad (K : PySem.W.Frag) : Sp := fun vs H Q _ => ∃ (a : Addr) (c : Cp) (b : Nat) (tb : List Bool), vs = [.ref a, .int (b : Int)] ∧ InsAt K H a c ∧ (b : Int) < c.blocks ∧ H c.t = some (.lst (BV tb)) ∧ b < tb.length ∧ RV (.bl (tb.getD b false)) H Q
theorem tup_ix {H : Hp} {l : Addr} {rs : List Addr} {b : Nat} {Q : VK} (h : H l = some (.lst (rs.map V.ref))) (hb : b < rs.length) (q : Q (.ref (rs.getD b 0)) H) : rIx K (.ref l) (.int (b : Int)) H Q := by
  refine Sv.ix (x := .non) (Sv.lst h) (i := (b : Int)) ?_ q
  refine atI_nat ?_
  rw [List.getElem?_map, List.getD_eq_getElem?_getD]
  simp [hb]
def spRead (K : PySem.W.Frag) : Sp := fun vs H Q _ => ∃ (a : Addr) (c : Cp) (b p : Nat) (rs : List Addr) (os : List Int), vs = [.ref a, .int (b : Int), .int (p : Int)] ∧ InsAt K H a c ∧ (b : Int) < c.blocks ∧ (p : Int) < c.pages ∧ H c.o = some (.lst (rs.map V.ref)) ∧ b < rs.length ∧
  SqT K H (rs.getD b 0) (IV os) ∧ os.length = 31 * c.pages.toNat ∧ 8 ≤ c.pages ∧ c.pages ≤ 16 ∧ ∀ (r : Addr) (H' : Hp), H r = none → Evl.Ex H H' → H' r = some (.tup (IV ((os.drop (31 * p)).take 31))) → Q (.ref r) H'
theorem ok_read (T : Txt K mg) (TC : TxC K) (F : FnM K "read" "Chip.read" s_Chip__read f fd) (M_Chip___check_block : CalM P w K mg base CX0 3 (Ch K) "_check_block" ["self", "block"] (spChkB K))
    (M_Chip___check_page : CalM P w K mg base CX0 3 (Ch K) "_check_page" ["self", "page"] (spChkP K)) : Fg P w K mg base CX0 4 f fd ["self", "block", "page"] (spRead K) := by
  refine fg_of F sc_Chip__read (fun vs H Q E h => ?_) (fun cdv A outer s H vs Q E hr h => ⟨_, (PSs.nox (pss_cons (ps_expr (pe_calM M_Chip___check_block hr.le pass0 (pv 0) (pa_cons (pv 1) pa_nil)))
  (pss_cons (ps_expr (pe_calM M_Chip___check_page hr.le pass0 (pv 0) (pa_cons (pv 2) pa_nil)))
  (pss_one (ps_ret (pe_slice (u_sl (K := K)) (pe_ix (u_ix (K := K)) (pe_fldU (K := K) (pv 0) rfl) (pv 1) (fun _ _ => rfl)) (po_some (pe_op (u_mul (K := K)) (pv 2) (pe_globI rfl T.g_PAGE_OCTETS))) (po_some (pe_op (u_mul (K := K)) (pe_op (u_add (K := K)) (pv 2) pe_int) (pe_globI rfl T.g_PAGE_OCTETS))))))))), ?_⟩)
  · obtain ⟨a, c, b, p, rs, os, rfl, _⟩ := h
    rfl
  · obtain ⟨a, c, b, p, rs, os, rfl, ⟨dx, ha⟩, b1, p1, ho, hb, S, lo, g1, g2, q⟩ := h
    refine ⟨_, rfl, a, dx, _, rfl, ha, rfl, _, rfl, a, c, (b : Int), rfl, ⟨dx, ha⟩, by omega, b1, fun H1 e1 => ?_⟩
    refine ⟨_, rfl, a, dx, _, rfl, e1 _ _ ha, rfl, _, rfl, a, c, (p : Int), rfl, ⟨dx, e1 _ _ ha⟩, by omega, p1, fun H2 e2 => ?_⟩
    have E2 := e1.trans e2
    refine ⟨_, rfl, a, _, dx, _, _, rfl, E2 _ _ ha, TC.cls, TC.no _ (by simp), rfl, _, rfl, tup_ix (E2 _ _ ho) hb ?_⟩
    have p16 : p < 16 := by omega
    have mx : ∀ z : Int, 0 ≤ z → z ≤ 16 → CMulX z 31 := fun z _ _ => mulx_ok (a := 30) (b := 30) (by show _ < 1073741824; omega) (by decide) (by decide)
    refine ⟨_, rfl, .inl ⟨_, _, rfl, rfl, mx _ (by omega) (by omega), _, rfl, _, rfl, .inl ⟨_, _, rfl, rfl, .inl ⟨_, _, rfl, rfl, mx _ (by omega) (by omega), _, rfl, ?_⟩⟩⟩⟩
    have ea : (p : Int) * 31 = ((31 * p : Nat) : Int) := by omega
    have eb : ((p : Int) + 1) * 31 = ((31 * p + 31 : Nat) : Int) := by omega
    have ec : cutV (IV os) (some ((p : Int) * 31)) (some (((p : Int) + 1) * 31)) = IV ((os.drop (31 * p)).take 31) := by
      unfold cutV
      have m1 : min (31 * p) (IV os).length = 31 * p := by rw [iv_len]; omega
      have m2 : min (31 * p + 31) (IV os).length = 31 * p + 31 := by rw [iv_len]; omega
      rw [ea, eb, HT.sIx_nat, HT.sIx_nat, m1, m2, ← List.map_drop, ← List.map_take]
      congr 2
      omega
    refine .inr (.inl ⟨_, _, rfl, Evl.ex_t E2 S, ?_, fun r nr => ?_⟩)
    · rintro ⟨h0, h⟩
      rw [eb, HT.sIx_nat, iv_len] at h
      rw [ea, HT.sIx_nat, iv_len] at h0
      omega
    · rw [ec]
      exact q r _ (Evl.fresh_back E2 nr) (E2.trans (Evl.Ex.new nr)) upd_same
end
end K10
namespace K10
open PySem PySem.Spec PyProof.Rows L2 VB BM
section
variable {P : Program} {w : World} {K : PySem.W.Frag} {mg : Str → Option Value} {base : Heap} {f : Addr} {fd : FuncData}
def spIsInt : Sp := fun vs H Q _ => ∃ i : Int, vs = [.int i] ∧ Q (.bl true) H
theorem ok_is_int (T : Txt K mg) (F : FnP K "is_int" s_is_int f fd) : Fg P w K mg base CX0 1 f fd ["value"] spIsInt := by
  refine fg_of F sc_is_int (fun vs H Q E h => ?_) (fun cdv A outer s H vs Q E hr h => ⟨_, (PSs.nox (pss_one (ps_ret (pe_and (pe_callB (u_isi (K := K)) (by rfl) T.f_isinstance (by decide +kernel) (pa_cons (pv 0) (pa_cons (pe_bltn (v := .ty "int") rfl T.f_int (by decide +kernel) rfl) pa_nil))) (pe_one (pe_not (pe_callB (u_isi (K := K)) (by rfl) T.f_isinstance (by decide +kernel) (pa_cons (pv 0) (pa_cons (pe_bltn (v := .ty "bool") rfl T.f_bool (by decide +kernel) rfl) pa_nil))))))))), ?_⟩)
  · obtain ⟨i, rfl, _⟩ := h
    rfl
  · obtain ⟨i, rfl, q⟩ := h
    refine ⟨_, rfl, _, _, _, _, true, rfl, .ty _, ty_int K H i, kit_ty (by decide +kernel), true, rfl, iteT ?_⟩
    exact ⟨_, rfl, _, _, _, _, false, rfl, .ty _, ty_int K H i, kit_ty (by decide +kernel), false, rfl, q⟩
theorem ok_int_from (T : Txt K mg) (F : FnP K "is_int_from" s_is_int_from f fd) : Fg P w K mg base CX0 2 f fd ["value", "least", "greatest"] spIntFrom := by
  refine fg_of F sc_is_int_from (fun vs H Q E h => ?_) (fun cdv A outer s H vs Q E hr h => ⟨_, (PSs.nox (pss_one (ps_ret (pe_and (pe_callB (u_isi (K := K)) (by rfl) T.f_isinstance (by decide +kernel) (pa_cons (pv 0) (pa_cons (pe_bltn (v := .ty "int") rfl T.f_int (by decide +kernel) rfl) pa_nil))) (pe_and (pe_not (pe_callB (u_isi (K := K)) (by rfl) T.f_isinstance (by decide +kernel) (pa_cons (pv 0) (pa_cons (pe_bltn (v := .ty "bool") rfl T.f_bool (by decide +kernel) rfl) pa_nil)))) (pe_one (pe_chain op_le op_le (pv 1) (pv 0) (pv 2)))))))), ?_⟩)
  · obtain ⟨i, l, g, rfl, _⟩ := h
    rfl
  · obtain ⟨i, l, g, rfl, h1, h2, q⟩ := h
    refine ⟨_, rfl, _, _, _, _, true, rfl, .ty _, ty_int K H i, kit_ty (by decide +kernel), true, rfl, iteT ?_⟩
    refine ⟨_, rfl, _, _, _, _, false, rfl, .ty _, ty_int K H i, kit_ty (by decide +kernel), false, rfl, true, rfl, iteT ?_⟩
    refine ⟨_, rfl, _, rfl, _, _, rfl, rfl, _, rfl, ?_⟩
    rw [decide_eq_true h1]
    refine iteT ⟨_, rfl, _, _, rfl, rfl, ?_⟩
    dsimp only
    rw [decide_eq_true h2]
    exact q
def spChk (K : PySem.W.Frag) : Sp := fun vs H Q _ => ∃ (a : Addr) (os : List Int) (t : Bool), vs = [.ref a] ∧ Sv t K H a (IV os) ∧ Oct os ∧ os.length ≤ 20000 ∧ RV .non H Q
theorem ok_chk (T : Txt K mg) (F : FnP K "_check_octets" s__check_octets f fd) (C_is_octets : Cal P w K mg base CX0 3 "is_octets" ["value"] (spIsOct K)) : Fg P w K mg base CX0 4 f fd ["octets"] (spChk K) := by
  refine fg_of F sc__check_octets (fun vs H Q E h => ?_) (fun cdv A outer s H vs Q E hr h => ⟨_, (PSs.nox (pss_one (ps_if (pt_not (pt_tru (K := K) (pe_cal C_is_octets hr.le pass0 (pa_cons (pv 0) pa_nil)) (by intro _; rfl)))
  (pss_one ps_never) pss_nil))), ?_⟩)
  · obtain ⟨a, os, t, rfl, _⟩ := h
    rfl
  · obtain ⟨a, os, t, rfl, S, ho, hl, q⟩ := h
    exact ⟨_, rfl, a, os, t, rfl, S, ho, hl, fun H1 e1 => ⟨true, rfl, iteF (q _ e1)⟩⟩
def spPair (K : PySem.W.Frag) : Sp := fun vs H Q _ => ∃ (a b : Addr) (xs ys : List Int) (t u : Bool), vs = [.ref a, .ref b] ∧ Sv t K H a (IV xs) ∧ Sv u K H b (IV ys) ∧ Oct xs ∧ Oct ys ∧ xs.length = ys.length ∧ xs.length ≤ 20000 ∧ RV .non H Q
theorem ok_pair (T : Txt K mg) (F : FnP K "_check_pair" s__check_pair f fd) (C__check_octets : Cal P w K mg base CX0 4 "_check_octets" ["octets"] (spChk K)) : Fg P w K mg base CX0 5 f fd ["old", "new"] (spPair K) := by
  refine fg_of F sc__check_pair (fun vs H Q E h => ?_) (fun cdv A outer s H vs Q E hr h => ⟨_, (PSs.nox (pss_cons (ps_expr (pe_cal C__check_octets hr.le pass0 (pa_cons (pv 0) pa_nil)))
  (pss_cons (ps_expr (pe_cal C__check_octets hr.le pass0 (pa_cons (pv 1) pa_nil)))
  (pss_one (ps_if (pt_cmpR (u_ne (K := K) hr) (pe_callB (u_len (K := K)) (by rfl) T.f_len (by decide +kernel) (pa_cons (pv 0) pa_nil)) (pe_callB (u_len (K := K)) (by rfl) T.f_len (by decide +kernel) (pa_cons (pv 1) pa_nil)) (nomark _))
  (pss_one ps_never) pss_nil))))), ?_⟩)
  · obtain ⟨a, b, xs, ys, t, u, rfl, _⟩ := h
    rfl
  · obtain ⟨a, b, xs, ys, t, u, rfl, Sa, Sb, ox, oy, hl, hm, q⟩ := h
    refine ⟨_, rfl, a, xs, t, rfl, Sa, ox, hm, fun H1 e1 => ?_⟩
    refine ⟨_, rfl, b, ys, u, rfl, Sb.ex e1, oy, by omega, fun H2 e2 => ?_⟩
    have E2 := e1.trans e2
    refine ⟨_, rfl, _, _, rfl, (Sa.ex E2).len, _, rfl, _, _, rfl, (Sb.ex E2).len, .inl ⟨rfl, _, rfl, same_int ?_ (q _ E2)⟩⟩
    rw [iv_len, iv_len, hl]
def spWorth : Sp := fun vs H Q _ => ∃ n : Nat, vs = [.int (n : Int)] ∧ Q (.int (128 / 2 ^ (n % 8))) H
theorem ok_worth (T : Txt K mg) (F : FnP K "_worth" s__worth f fd) : Fg P w K mg base CX0 1 f fd ["bit"] spWorth := by
  refine fg_of F sc__worth (fun vs H Q E h => ?_) (fun cdv A outer s H vs Q E hr h => ⟨_, (PSs.nox (pss_one (ps_ret (pe_op op_shrN pe_int (pe_op u_mod (pv 0) pe_int))))), ?_⟩)
  · obtain ⟨n, rfl, _⟩ := h
    rfl
  · obtain ⟨n, rfl, q⟩ := h
    have n8 : (0 : Int) < 8 := by decide
    exact ⟨_, rfl, _, _, rfl, rfl, n8, 128, n % 8, rfl, rfl, q⟩
def spOnes (K : PySem.W.Frag) : Sp := fun vs H Q _ => ∃ (a : Addr) (os : List Int), vs = [.ref a] ∧ SqL K H a (IV os) ∧ Oct os ∧ os.length ≤ 700 ∧ RL (IV (onesL 0 (bitsL os))) H Q
theorem ok_ones (T : Txt K mg) (F : FnP K "_ones" s__ones f fd) (C__worth : Cal P w K mg base CX0 1 "_worth" ["bit"] spWorth) : Fg P w K mg base CX0 2 f fd ["octets"] (spOnes K) := by
  refine fg_of F sc__ones (fun vs H Q E h => ?_) (fun cdv A outer s H vs Q E hr h => ⟨_, (PSs.nox (pss_one (ps_ret (pe_lc (own := [("bit", 1)]) rfl sc__ones.nd (pi_range1 rfl T.f_range (pa_cons (pe_op (u_mul (K := K)) pe_int (pe_callB (u_len (K := K)) (by rfl) T.f_len (by decide +kernel) (pa_cons (pv 0) pa_nil))) pa_nil)) (blkOk_by (own := [("bit", 1)]) (N := ["octets", "bit"]) (sc := defScope s__ones) (by decide +kernel)) (fun _ _ _ _ _ => (pg_name (i := 1) sc__ones.nd rfl (by first | exact Or.inl rfl | exact Or.inr rfl))) (fun _ _ _ _ _ => (pts_one (pt_tru (K := K) (pe_op op_and (pe_ix (u_ix (K := K)) (pv 0) (pe_op u_fdiv (pv 1) pe_int) (fun _ _ => rfl)) (pe_cal C__worth hr.le pass0 (pa_cons (pv 1) pa_nil))) (by intro _; rfl)))) (fun _ _ _ _ _ => (pv 1)))))), ?_⟩)
  · obtain ⟨a, os, rfl, _⟩ := h
    rfl
  · obtain ⟨a, os, rfl, S, ho, hl, q⟩ := h
    have lb := bitsL_len os
    have n8 : (0 : Int) < 8 ∧ (8 : Int) < 1073741824 := by decide
    have cm : CMulX 8 ((IV os).length : Int) := mulx_ok (a := 4) (b := 10) (by decide) (by rw [iv_len]; omega) (by decide)
    have il := iv_len os
    refine ⟨_, rfl, _, _, rfl, .inl ⟨_, S, rfl⟩, .inl ⟨_, _, rfl, rfl, cm, _, rfl, by omega, by omega, fun D hD => ?_⟩⟩
    have nn : (8 * ((IV os).length : Int)).toNat = 8 * os.length := by omega
    rw [nn]
    refine lc_range (lo := 0) (n := 8 * os.length) (fun i H' => Evl.Ex H H' ∧ i ≤ 8 * os.length ∧ H' D = some (.lst (IV (onesL 0 ((bitsL os).take i))))) ⟨Evl.Ex.new hD, Nat.zero_le _, upd_same⟩ ?_ ?_
    · rintro i H1 hi ⟨e1, hi2, h1⟩
      obtain ⟨o, ho2, hx, hb⟩ := at_bit ho hi
      have e0 : (0 : Int) + (i : Int) = (i : Int) := Int.zero_add _
      rw [e0]
      have S1 := Evl.ex_l e1 S
      obtain ⟨b, hbi⟩ := get_lt (l := bitsL os) (i := i) (by omega)
      have len : ((bitsL os).take i).length = i := by rw [List.length_take]; omega
      have sn := onesL_snoc ((bitsL os).take i) b
      rw [len, ← take_snoc hbi] at sn
      have on := bit_on o ho2 (i % 8) (by omega)
      rw [← hb, hbi] at on
      refine ⟨rfl, _, rfl, _, rfl, _, _, rfl, rfl, n8, .inl ⟨a, _, _, _, rfl, rfl, S1, iv_at hx, _, rfl, i, rfl, _, _, rfl, rfl, ?_⟩⟩
      refine ⟨_, rfl, ?_⟩
      rw [worth_nat, VB.bitAnd_nn]
      by_cases z : o &&& 128 / 2 ^ (i % 8) = 0
      · have b1 : ¬ b = 1 := fun y => (on.mpr (by rw [y])) z
        rw [z]
        refine iteF ⟨e1, hi, ?_⟩
        rw [sn, if_neg b1, List.append_nil]
        exact h1
      · have b1 : b = 1 := Option.some.inj (on.mp z)
        have nz : (((o &&& 128 / 2 ^ (i % 8) : Nat) : Int) != 0) = true := by
          have : ((o &&& 128 / 2 ^ (i % 8) : Nat) : Int) ≠ 0 := by omega
          simpa using this
        rw [nz]
        refine iteT ⟨_, rfl, _, h1, ?_, Evl.Ex.mut e1 hD, hi, ?_⟩
        · rw [iv_len]
          have := onesL_len ((bitsL os).take i) 0
          exact Evl.sz_lt (by omega)
        · rw [upd_same, sn, if_pos b1, iv_snoc]
    · rintro H1 ⟨e1, _, h1⟩
      rw [← lb, List.take_length] at h1
      exact q D H1 hD e1 h1
end
end K10
namespace K10
open PySem PySem.Spec PyProof.Rows L2 VB BM
/-- one unlike bit on -/
theorem one_turn {os done as' bs' U : List Int} {m : Int} {i : Nat} {p : Int} {rest : List Int} (ho : Oct os) (hb : bitsL os = done ++ as') (bb : Bit bs') (hl : as'.length = bs'.length) (hu : diffL (done.length : Int) as' bs' = p :: rest) :
    ∃ (n o : Nat) (x y : Int) (pre as2 bs2 : List Int), p = (n : Int) ∧ o < 256 ∧ os[n / 8]? = some (o : Int) ∧ n / 8 < os.length ∧ as'.length = pre.length + 1 + as2.length ∧ as2.length = bs2.length ∧ Bit bs2 ∧
      (∀ m, turned as' bs' m = pre ++ (if m % 2 = 1 then y else x) :: turned as2 bs2 (m / 2)) ∧ rest = diffL ((done.length + pre.length + 1 : Nat) : Int) as2 bs2 ∧ bitsL os = (done ++ pre ++ [x]) ++ as2 ∧
      Oct (os.set (n / 8) ((o ^^^ (128 / 2 ^ (n % 8)) : Nat) : Int)) ∧ bitsL (os.set (n / 8) ((o ^^^ (128 / 2 ^ (n % 8)) : Nat) : Int)) = (done ++ pre ++ [y]) ++ as2 := by
  obtain ⟨pre, x, y, as2, bs2, h1, h2, h3, h4, h5, h6, h7⟩ := diff_at as' bs' _ p rest hl hu
  have lb := bitsL_len os
  have hn : done.length + pre.length < 8 * os.length := by
    rw [← lb, hb, h1]
    simp
  obtain ⟨o, o1, o2, o3⟩ := at_bit ho hn
  have bx : (bitsL os)[done.length + pre.length]? = some x := by
    rw [hb, h1, List.getElem?_append_right (by omega), Nat.add_sub_cancel_left, List.getElem?_append_right (by omega)]
    simp
  have bx2 : (bitsOf (o : Int))[(done.length + pre.length) % 8]? = some x := by rw [← o3]; exact bx
  have hx : x = 0 ∨ x = 1 := bitsL_bit os x (List.mem_of_getElem? bx)
  have hy : y = 0 ∨ y = 1 := bb y (by rw [h2]; simp)
  have yx : y = 1 - x := by omega
  obtain ⟨t1, t2⟩ := bit_turn o o1 ((done.length + pre.length) % 8) (by omega)
  have gd : (bitsOf (o : Int)).getD ((done.length + pre.length) % 8) 0 = x := by rw [List.getD_eq_getElem?_getD, bx2]; rfl
  rw [gd, ← yx] at t2
  have st := bitsL_set os ((done.length + pre.length) / 8) ((done.length + pre.length) % 8) _ _ _ (by omega) o2 t2
  have e8 : 8 * ((done.length + pre.length) / 8) + (done.length + pre.length) % 8 = done.length + pre.length := by omega
  rw [e8] at st
  refine ⟨done.length + pre.length, o, x, y, pre, as2, bs2, by rw [h4]; simp, o1, o2, by omega, by rw [h1]; simp; omega, h6, fun b hbm => bb b (by rw [h2]; simp [hbm]), h7, by rw [h5, h4]; congr 1, ?_, ?_, ?_⟩
  · rw [hb, h1]
    simp
  · intro z hz
    rcases List.mem_or_eq_of_mem_set hz with z1 | z1
    · exact ho z z1
    · omega
  · rw [st, hb, h1, List.append_assoc, List.append_assoc, List.set_append_right _ _ (by omega), Nat.add_sub_cancel_left]
    congr 1
    rw [List.set_append_right _ _ (Nat.le_refl _), Nat.sub_self]
    rfl
section
variable {P : Program} {w : World} {K : PySem.W.Frag} {mg : Str → Option Value} {base : Heap} {f : Addr} {fd : FuncData}
def spChanged (K : PySem.W.Frag) : Sp := fun vs H Q _ => ∃ (a b : Addr) (xs ys : List Int) (t u : Bool) (m : Int), vs = [.ref a, .ref b, .int m] ∧ Sv t K H a (IV xs) ∧ Sv u K H b (IV ys) ∧ Oct xs ∧ Oct ys ∧ xs.length = ys.length ∧ xs.length ≤ 700 ∧
  0 ≤ m ∧ m < MM ∧ RT (IV (octetsL (turned (bitsL xs) (bitsL ys) m))) H Q
def spIsMask : Sp := fun vs H Q _ => ∃ m : Int, vs = [.int m] ∧ 0 ≤ m ∧ m < MM ∧ Q (.bl true) H
theorem ok_is_mask (T : Txt K mg) (F : FnP K "is_mask" s_is_mask f fd) (C_is_int : Cal P w K mg base CX0 1 "is_int" ["value"] spIsInt) : Fg P w K mg base CX0 2 f fd ["value"] spIsMask := by
  refine fg_of F sc_is_mask (fun vs H Q E h => ?_) (fun cdv A outer s H vs Q E hr h => ⟨_, (PSs.nox (pss_one (ps_ret (pe_and (pe_cal C_is_int hr.le pass0 (pa_cons (pv 0) pa_nil)) (pe_and (pe_cmpR op_ge (pv 0) pe_int (nomark _)) (pe_one (pe_cmpR op_le (pe_bits (pv 0)) (pe_globI rfl T.g_MASK_BITS) (nomark _)))))))), ?_⟩)
  · obtain ⟨m, rfl, _⟩ := h
    rfl
  · obtain ⟨m, rfl, h0, h1, q⟩ := h
    have b := PyProof.Rows.intBits_le (lt_natAbs (n := 4096) h0 h1)
    refine ⟨_, rfl, _, rfl, true, rfl, iteT ⟨_, rfl, _, _, rfl, rfl, _, rfl, ?_⟩⟩
    rw [decide_eq_true (show m ≥ 0 from h0)]
    refine iteT ⟨_, rfl, m, rfl, _, _, rfl, rfl, ?_⟩
    dsimp only
    rw [decide_eq_true (show ((Builtin.Int.intBits m : Nat) : Int) ≤ 4096 by omega)]
    exact q
theorem ok_changed (T : Txt K mg) (F : FnP K "changed" s_changed f fd) (C__check_pair : Cal P w K mg base CX0 5 "_check_pair" ["old", "new"] (spPair K)) (C__ones : Cal P w K mg base CX0 2 "_ones" ["octets"] (spOnes K))
    (C_is_mask : Cal P w K mg base CX0 2 "is_mask" ["value"] spIsMask) (C__worth : Cal P w K mg base CX0 1 "_worth" ["bit"] spWorth) : Fg P w K mg base CX0 6 f fd ["old", "new", "mask"] (spChanged K) := by
  refine fg_of F sc_changed (fun vs H Q E h => ?_) (fun cdv A outer s H vs Q E hr h => ⟨_, (PSs.nox (pss_cons (ps_expr (pe_cal C__check_pair hr.le pass0 (pa_cons (pv 0) (pa_cons (pv 1) pa_nil))))
  (pss_cons (ps_if (pt_not (pt_tru (K := K) (pe_cal C_is_mask hr.le pass0 (pa_cons (pv 2) pa_nil)) (by intro _; rfl)))
  (pss_one ps_never) pss_nil)
  (pss_cons (ps_set (i := 3) sc_changed.nd rfl (by first | exact Or.inl rfl | exact Or.inr rfl) (pe_cal C__ones hr.le pass0 (pa_cons (pe_lc (own := [("was", 7), ("now", 8)]) rfl sc_changed.nd (pi_zm (K := K) rfl T.f_zip (pa_cons (pv 0) (pa_cons (pv 1) pa_nil))) (blkOk_by (own := [("was", 7), ("now", 8)]) (N := ["old", "new", "mask", "unlike", "octets", "k", "bit", "was", "now"]) (sc := defScope s_changed) (by decide +kernel)) (fun _ _ _ _ _ => (pg_tupU (K := K) (n := 2) rfl (pgs_cons (pg_name (i := 7) sc_changed.nd rfl (by first | exact Or.inl rfl | exact Or.inr rfl)) (pgs_cons (pg_name (i := 8) sc_changed.nd rfl (by first | exact Or.inl rfl | exact Or.inr rfl)) pgs_nil)))) (fun _ _ _ _ _ => pts_nil) (fun _ _ _ _ _ => (pe_op op_xor (pv 7) (pv 8)))) pa_nil)))
  (pss_cons (ps_set (i := 4) sc_changed.nd rfl (by first | exact Or.inl rfl | exact Or.inr rfl) (pe_callTy (u_list (K := K)) (by rfl) T.f_list (by decide +kernel) (pa_cons (pv 0) pa_nil)))
  (pss_cons (ps_for PassesOwn.never rfl (pi_enu (K := K) rfl T.f_enumerate (pa_cons (pv 3) pa_nil)) (pg_tupU (K := K) (n := 2) rfl (pgs_cons (pg_name (i := 5) sc_changed.nd rfl (by first | exact Or.inl rfl | exact Or.inr rfl)) (pgs_cons (pg_name (i := 6) sc_changed.nd rfl (by first | exact Or.inl rfl | exact Or.inr rfl)) pgs_nil)))
  (pss_one (ps_if (pt_tru (K := K) (pe_op op_and (pe_op op_shrN (pv 2) (pv 5)) pe_int) (by intro _; rfl))
  (pss_one (ps_asg (pe_op op_xor (pe_ix (u_ix (K := K)) (pv 4) (pe_op u_fdiv (pv 6) pe_int) (fun _ _ => rfl)) (pe_cal C__worth hr.le pass0 (pa_cons (pv 6) pa_nil))) (pg_sub (pv 4) (pe_op u_fdiv (pv 6) pe_int) set_list))) pss_nil)))
  (pss_one (ps_ret (pe_callTy (u_tup (K := K)) (by rfl) T.f_tuple (by decide +kernel) (pa_cons (pv 4) pa_nil)))))))))), ?_⟩)
  · obtain ⟨a, b, xs, ys, t, u, m, rfl, _⟩ := h
    rfl
  · obtain ⟨a, b, xs, ys, t, u, m, rfl, Sa, Sb, ox, oy, hl, hm, m0, m1, q⟩ := h
    have lx := bitsL_len xs
    have ly := bitsL_len ys
    refine ⟨_, rfl, _, rfl, a, b, xs, ys, t, u, rfl, Sa, Sb, ox, oy, hl, by omega, fun H1 e1 => ?_⟩
    refine ⟨_, rfl, m, rfl, m0, m1, true, rfl, iteF ?_⟩
    have L := both_len (f := Builtin.bitXor) (xs := xs) (ys := ys) hl
    have wk := walk_zm (t := t) (u := u) (K := K) (a := a) (b := b) (xs := IV xs) (ys := IV ys) (n := xs.length) (by rw [iv_len, iv_len]; omega)
    refine ⟨_, rfl, _, rfl, t, u, a, b, _, _, rfl, Sa.ex e1, Sb.ex e1, fun D hD => ?_⟩
    refine lc_pureVZ (us := IV (both Builtin.bitXor xs ys)) wk (fun H' ex => ⟨(Sa.ex e1).ex ex, (Sb.ex e1).ex ex⟩) (by rw [iv_len]; exact L) (by omega) hD (fun _ _ => rfl) ?_ ?_
    · intro i x y v H' Q' hx hy hv ex k
      obtain ⟨m, n, rfl, rfl, rfl⟩ := both_at hx hy hv
      exact ⟨_, rfl, _, rfl, _, _, rfl, rfl, k H' (Evl.Ex.refl _)⟩
    · intro H2 ex h3
      refine ⟨D, both Builtin.bitXor xs ys, rfl, SqL.of h3, both_oct ox oy (fun _ _ => xor_range), by omega, fun pu H3 np e3 hp => ?_⟩
      rw [ones_diff ox oy hl] at hp
      have E3 := (e1.trans ex).trans e3
      refine ⟨_, rfl, a, _, rfl, (Sa.ex E3).either, fun l nl => ?_⟩
      have El := E3.trans (Evl.Ex.new (o := .lst (IV xs)) nl)
      have nlH := Evl.fresh_back E3 nl
      generalize hU : diffL 0 (bitsL xs) (bitsL ys) = U at hp
      have hp4 := Evl.Ex.new (o := .lst (IV xs)) nl _ _ hp
      have pul : pu ≠ l := by
        rintro rfl
        rw [nl] at hp
        cases hp
      refine ⟨_, rfl, pu, _, rfl, SqL.of hp4, ?_⟩
      refine for_it (walk_enum (K := K) (a := pu) (xs := IV U)) (fun i σ H' => ∃ (v5 v6 : Option V) (os done as' bs' : List Int), σ = [some (.ref a), some (.ref b), some (.int m), some (.ref pu), some (.ref l), v5, v6, none, none] ∧ Evl.Ex H H' ∧ H' pu = some (.lst (IV U)) ∧ i ≤ U.length ∧
        Oct os ∧ os.length = xs.length ∧ H' l = some (.lst (IV os)) ∧ bitsL os = done ++ as' ∧ Bit bs' ∧ as'.length = bs'.length ∧ U.drop i = diffL (done.length : Int) as' bs' ∧ turned (bitsL xs) (bitsL ys) m = done ++ turned as' bs' (m / 2 ^ i))
        ⟨none, none, xs, [], bitsL xs, bitsL ys, rfl, El, hp4, Nat.zero_le _, ox, rfl, upd_same, rfl, bitsL_bit ys, by omega, hU.symm, by simp⟩ ?_ ?_ ?_
      · rintro i σ H' _ ⟨v5, v6, os, done, as', bs', rfl, _, h, _⟩
        exact SqL.of h
      · rintro i x σ H4 H5 hi ⟨v5, v6, os, done, as', bs', rfl, e4, hp5, hiU, oo, lo, hos, hb, bb, ll, hd, ht⟩ ⟨Tp, x1, y1, rfl, nT, rfl, hx1, hy1⟩
        cases hx1
        obtain ⟨p, hpi, rfl⟩ := iv_get hy1
        have eT := Evl.Ex.new (o := .tup [V.int (i : Int), V.int p]) nT
        refine ⟨Tp, _, rfl, SqT.of upd_same, rfl, _, _, rfl, _, _, rfl, rfl, ?_⟩
        rw [drop_get hpi] at hd
        obtain ⟨n, o, x, y, pre, as2, bs2, rfl, o1, o2, o3, l1, l2, b2, tt, hr2, hb1, oo2, hb2⟩ := one_turn (U := U) (m := m) (i := i) oo hb bb ll hd.symm
        have hos5 := eT _ _ hos
        have hp6 := eT _ _ hp5
        have E5 := e4.trans eT
        have lT : l ≠ Tp := by
          rintro rfl
          rw [nT] at hos
          cases hos
        have dv : m / 2 ^ i / 2 = m / 2 ^ (i + 1) := by
          rw [Int.pow_succ, Int.ediv_ediv_of_nonneg (Int.le_of_lt (pow_nn i))]
        have n8 : (0 : Int) < 8 ∧ (8 : Int) < 1073741824 := by decide
        refine ⟨_, rfl, _, rfl, m, i, rfl, rfl, _, _, rfl, rfl, _, rfl, ?_⟩
        rw [bitAnd_m1]
        rw [tt] at ht
        by_cases od : m / 2 ^ i % 2 = 1
        · rw [if_pos od] at ht
          rw [od]
          refine iteT ⟨_, rfl, _, rfl, _, _, rfl, rfl, n8, .inl ⟨l, _, _, _, rfl, rfl, SqL.of hos5, iv_at o2, _, rfl, n, rfl, _, _, rfl, rfl, ?_⟩⟩
          refine ⟨_, rfl, _, rfl, _, _, rfl, rfl, n8, l, _, _, n / 8, rfl, rfl, hos5, Evl.ixN_nat (by rw [iv_len]; exact o3), ?_⟩
          dsimp only
          rw [worth_nat, bitXor_nn, ← List.map_set]
          refine ⟨_, _, _, done ++ pre ++ [y], as2, bs2, rfl, Evl.Ex.mut E5 nlH, ?_, ?_, oo2, ?_, upd_same, hb2, b2, l2, ?_, ?_⟩
          · rw [upd_ne pul]
            exact hp6
          · have := (List.getElem?_eq_some_iff.mp hpi).1
            omega
          · rw [List.length_set]
            exact lo
          · rw [hr2]
            congr 1
            simp
            omega
          · rw [ht, dv]
            simp
        · rw [if_neg od] at ht
          have ez : m / 2 ^ i % 2 = 0 := by omega
          rw [ez]
          refine iteF ⟨_, _, os, done ++ pre ++ [x], as2, bs2, rfl, E5, hp6, by have := (List.getElem?_eq_some_iff.mp hpi).1; omega, oo, lo, hos5, hb1, b2, l2, ?_, ?_⟩
          · rw [hr2]
            congr 1
            simp
            omega
          · rw [ht, dv]
            simp
      · rintro σ H4 ⟨v5, v6, os, done, as', bs', rfl, e4, hp5, hiU, oo, lo, hos, hb, bb, ll, hd, ht⟩
        rw [iv_len, List.drop_length] at hd
        have e := diff_nil _ _ _ ll hd.symm
        subst e
        rw [turned_same, ← hb] at ht
        rw [ht, octetsL_bitsL oo] at q
        exact ⟨_, rfl, l, _, rfl, .inl ⟨SqL.of hos, fun p np => q p _ (Evl.fresh_back e4 np) (e4.trans (Evl.Ex.new np)) upd_same⟩⟩
end
end K10
namespace K10
open PySem PySem.Spec PyProof.Rows L2 VB BM
section
variable {P : Program} {w : World} {K : PySem.W.Frag} {mg : Str → Option Value} {base : Heap} {f : Addr} {fd : FuncData}
def spBC : Sp := fun vs H Q _ => ∃ n : Int, vs = [.int n] ∧ 8 ≤ n ∧ n ≤ 24 ∧ Q (.bl true) H
theorem ok_bc (T : Txt K mg) (F : FnP K "is_block_count" s_is_block_count f fd) (C_is_int_from : Cal P w K mg base CX0 2 "is_int_from" ["value", "least", "greatest"] spIntFrom) : Fg P w K mg base CX0 3 f fd ["value"] spBC := by
  refine fg_of F sc_is_block_count (fun vs H Q E h => ?_) (fun cdv A outer s H vs Q E hr h => ⟨_, (PSs.nox (pss_one (ps_ret (pe_cal C_is_int_from hr.le pass0 (pa_cons (pv 0) (pa_cons (pe_globI rfl T.g_LEAST_BLOCKS) (pa_cons (pe_globI rfl T.g_MOST_BLOCKS) pa_nil))))))), ?_⟩)
  · obtain ⟨n, rfl, _⟩ := h
    rfl
  · obtain ⟨n, rfl, h1, h2, q⟩ := h
    exact ⟨_, rfl, n, 8, 24, rfl, h1, h2, q⟩
def spPC : Sp := fun vs H Q _ => ∃ n : Int, vs = [.int n] ∧ 8 ≤ n ∧ n ≤ 16 ∧ Q (.bl true) H
theorem ok_pc (T : Txt K mg) (F : FnP K "is_page_count" s_is_page_count f fd) (C_is_int_from : Cal P w K mg base CX0 2 "is_int_from" ["value", "least", "greatest"] spIntFrom) : Fg P w K mg base CX0 3 f fd ["value"] spPC := by
  refine fg_of F sc_is_page_count (fun vs H Q E h => ?_) (fun cdv A outer s H vs Q E hr h => ⟨_, (PSs.nox (pss_one (ps_ret (pe_cal C_is_int_from hr.le pass0 (pa_cons (pv 0) (pa_cons (pe_globI rfl T.g_LEAST_PAGES) (pa_cons (pe_globI rfl T.g_MOST_PAGES) pa_nil))))))), ?_⟩)
  · obtain ⟨n, rfl, _⟩ := h
    rfl
  · obtain ⟨n, rfl, h1, h2, q⟩ := h
    exact ⟨_, rfl, n, 8, 16, rfl, h1, h2, q⟩
def spBdC : Sp := fun vs H Q _ => ∃ n b : Int, vs = [.int n, .int b] ∧ 0 ≤ n ∧ n ≤ b - 7 ∧ Q (.bl true) H
theorem ok_bdc (T : Txt K mg) (F : FnP K "is_bad_count" s_is_bad_count f fd) (C_is_int_from : Cal P w K mg base CX0 2 "is_int_from" ["value", "least", "greatest"] spIntFrom) : Fg P w K mg base CX0 3 f fd ["value", "blocks"] spBdC := by
  refine fg_of F sc_is_bad_count (fun vs H Q E h => ?_) (fun cdv A outer s H vs Q E hr h => ⟨_, (PSs.nox (pss_one (ps_ret (pe_cal C_is_int_from hr.le pass0 (pa_cons (pv 0) (pa_cons pe_int (pa_cons (pe_op op_sub (pv 1) (pe_globI rfl T.g_LEAST_GOOD_BLOCKS)) pa_nil))))))), ?_⟩)
  · obtain ⟨n, b, rfl, _⟩ := h
    rfl
  · obtain ⟨n, b, rfl, h1, h2, q⟩ := h
    exact ⟨_, rfl, _, rfl, _, _, rfl, rfl, n, 0, b - 7, rfl, h1, h2, q⟩
def spCB : Sp := fun vs H Q _ => ∃ n : Nat, vs = [.int (n : Int)] ∧ 8 ≤ n ∧ n ≤ 16 ∧ ∀ (r : Addr) (H' : Hp), H r = none → Evl.Ex H H' → H' r = some (.tup (IV (List.replicate (31 * n) 255))) → Q (.ref r) H'
theorem ok_cb (T : Txt K mg) (F : FnP K "_clean_block" s__clean_block f fd) : Fg P w K mg base CX0 1 f fd ["pages"] spCB := by
  refine fg_of F sc__clean_block (fun vs H Q E h => ?_) (fun cdv A outer s H vs Q E hr h => ⟨_, (PSs.nox (pss_one (ps_ret (pe_op (u_mul (K := K)) (pe_tup (pa_cons pe_int pa_nil)) (pe_op (u_mul (K := K)) (pv 0) (pe_globI rfl T.g_PAGE_OCTETS)))))), ?_⟩)
  · obtain ⟨n, rfl, _⟩ := h
    rfl
  · obtain ⟨n, rfl, h1, h2, q⟩ := h
    refine ⟨by show 1 ≤ sizeLine; decide, fun t nt => ⟨_, rfl, .inl ⟨_, _, rfl, rfl, mulx_ok (a := 30) (b := 30) (by show _ < 1073741824; omega) (by decide) (by decide), ?_⟩⟩⟩
    have e : ((n : Int) * 31).toNat = 31 * n := by omega
    refine .inr (.inr ⟨t, _, [V.int 255], rfl, rfl, SqT.of upd_same, by simp, by show (2 : Int) ≤ (n : Int) * 31; omega, by show (n : Int) * 31 ≤ 1000; omega, by decide, fun p np => ?_⟩)
    have x0 := Evl.Ex.new (o := .tup [V.int 255]) nt
    have ef : (List.replicate ((n : Int) * 31).toNat [V.int 255]).flatten = IV (List.replicate (31 * n) 255) := by rw [e, rep_flat]
    show Q (.ref p) (upd _ p (.tup (List.replicate ((n : Int) * 31).toNat [V.int 255]).flatten))
    rw [ef]
    exact q p _ (Evl.fresh_back x0 np) (x0.trans (Evl.Ex.new np)) upd_same
theorem putF_new {f : Str} {v : V} : ∀ {fs : List (Str × V)}, (fs.map (·.1)).all (fun g => decide (g ≠ f)) = true → putF f v fs = fs ++ [(f, v)]
  | [], _ => rfl
  | (g, x) :: r, h => by
    rw [List.map_cons, List.all_cons, Bool.and_eq_true] at h
    have hg : g ≠ f := of_decide_eq_true h.1
    have hr := putF_new (v := v) h.2
    show (if g = f then (g, v) :: r else (g, x) :: putF f v r) = _
    rw [if_neg hg, hr]
    rfl
/-- one value many times -/
theorem repV {H : Hp} {t : Addr} {n : Nat} {v : V} {Q : VK} (S : H t = some (.lst [v])) (h1 : n ≤ 1000) (q : ∀ p, H p = none → Q (.ref p) (upd H p (.lst (List.replicate n v)))) : rMulU K (.ref t) (.int (n : Int)) H Q := by
  have e : (List.replicate ((n : Int)).toNat [v]).flatten = List.replicate n v := by
    have : ((n : Int)).toNat = n := by omega
    rw [this]
    simp
  refine .inr (.inl ⟨t, n, _, rfl, rfl, S, by omega, by omega, ?_, fun p hp => ?_⟩)
  · exact Evl.sz_of (by simp; omega)
  · rw [e]
    exact q p hp
/-- what Chip(..) makes of a new instance -/
def spInitC (K : PySem.W.Frag) : Sp := fun vs H Q _ => ∃ (x dx : Addr) (n pg bd : Nat), vs = [.ref x, .int (n : Int), .int (pg : Int), .int (bd : Int)] ∧ H x = some (.ins (Ch K) dx []) ∧ 8 ≤ n ∧ n ≤ 24 ∧ 8 ≤ pg ∧ pg ≤ 16 ∧ (bd : Int) ≤ (n : Int) - 7 ∧
  ∀ (c : Cp) (rs : List Addr) (H' : Hp), c.blocks = n → c.pages = pg → c.bad = bd → c.ops = 0 → c.cuts = 0 → (∀ b o, b ≠ x → H b = some o → H' b = some o) → H' x = some (.ins (Ch K) dx c.fs) →
    rs.length = n → (∀ r ∈ rs, H' r = some (.tup (IV (List.replicate (31 * pg) 255)))) → H' c.o = some (.lst (rs.map V.ref)) → H' c.e = some (.lst (IV (List.replicate n 0))) → H' c.t = some (.lst (BV (List.replicate n false))) →
    H' c.p = some (.dK []) → H' c.q = some (.dK []) → H' c.r = some (.dK []) → c.o ≠ c.e → c.o ≠ c.t → c.e ≠ c.t → c.p ≠ c.q → c.p ≠ c.r → c.q ≠ c.r → H c.o = none → H c.e = none → H c.t = none → H c.p = none → H c.q = none → H c.r = none → Q .non H'
theorem ok_init (T : Txt K mg) (TC : TxC K) (F : FnM K "__init__" "Chip.__init__" s_Chip____init__ f fd) (C_is_block_count : Cal P w K mg base CX0 3 "is_block_count" ["value"] spBC) (C_is_page_count : Cal P w K mg base CX0 3 "is_page_count" ["value"] spPC)
    (C_is_bad_count : Cal P w K mg base CX0 3 "is_bad_count" ["value", "blocks"] spBdC) (C__clean_block : Cal P w K mg base CX0 1 "_clean_block" ["pages"] spCB) : Fg P w K mg base CX0 4 f fd ["self", "blocks", "pages", "bad"] (spInitC K) := by
  refine fg_of F sc_Chip____init__ (fun vs H Q E h => ?_) (fun cdv A outer s H vs Q E hr h => ⟨_, (PSs.nox (pss_cons (ps_if (pt_not (pt_tru (K := K) (pe_cal C_is_block_count hr.le pass0 (pa_cons (pv 1) pa_nil)) (by intro _; rfl)))
  (pss_one ps_never) pss_nil)
  (pss_cons (ps_if (pt_not (pt_tru (K := K) (pe_cal C_is_page_count hr.le pass0 (pa_cons (pv 2) pa_nil)) (by intro _; rfl)))
  (pss_one ps_never) pss_nil)
  (pss_cons (ps_if (pt_not (pt_tru (K := K) (pe_cal C_is_bad_count hr.le pass0 (pa_cons (pv 3) (pa_cons (pv 1) pa_nil))) (by intro _; rfl)))
  (pss_one ps_never) pss_nil)
  (pss_cons (ps_fldU (K := K) (pv 0) (pv 1) rfl)
  (pss_cons (ps_fldU (K := K) (pv 0) (pv 2) rfl)
  (pss_cons (ps_fldU (K := K) (pv 0) (pv 3) rfl)
  (pss_cons (ps_fldU (K := K) (pv 0) pe_int rfl)
  (pss_cons (ps_fldU (K := K) (pv 0) pe_int rfl)
  (pss_cons (ps_fldU (K := K) (pv 0) (pe_lc (own := [("_", 4)]) rfl sc_Chip____init__.nd (pi_range1 rfl T.f_range (pa_cons (pv 1) pa_nil)) (blkOk_by (own := [("_", 4)]) (N := ["self", "blocks", "pages", "bad", "_"]) (sc := defScope s_Chip____init__) (by decide +kernel)) (fun _ _ _ _ _ => (pg_name (i := 4) sc_Chip____init__.nd rfl (by first | exact Or.inl rfl | exact Or.inr rfl))) (fun _ _ _ _ _ => pts_nil) (fun _ _ _ _ _ => (pe_cal C__clean_block hr.le pass0 (pa_cons (pv 2) pa_nil)))) rfl)
  (pss_cons (ps_fldU (K := K) (pv 0) (pe_op (u_mul (K := K)) (pe_lst (pa_cons pe_int pa_nil)) (pv 1)) rfl)
  (pss_cons (ps_fldU (K := K) (pv 0) (pe_op (u_mul (K := K)) (pe_lst (pa_cons pe_bl pa_nil)) (pv 1)) rfl)
  (pss_cons (ps_fldU (K := K) (pv 0) pe_dnewK rfl)
  (pss_cons (ps_fldU (K := K) (pv 0) pe_dnewK rfl)
  (pss_one (ps_fldU (K := K) (pv 0) pe_dnewK rfl)))))))))))))))), ?_⟩)
  · obtain ⟨x, dx, n, pg, bd, rfl, _⟩ := h
    rfl
  · obtain ⟨x, dx, n, pg, bd, rfl, hx, n1, n2, g1, g2, b1, q⟩ := h
    refine ⟨_, rfl, (n : Int), rfl, by omega, by omega, true, rfl, iteF ?_⟩
    refine ⟨_, rfl, (pg : Int), rfl, by omega, by omega, true, rfl, iteF ?_⟩
    refine ⟨_, rfl, _, rfl, (bd : Int), (n : Int), rfl, by omega, by omega, true, rfl, iteF ?_⟩
    -- the numbers
    refine ⟨_, rfl, _, rfl, x, _, dx, _, rfl, hx, TC.cls, TC.no _ (by simp), by show 0 < 1000; decide, ?_⟩
    rw [putF_new (f := "blocks") rfl]
    have e1 : Exb x H (upd H x (HO.ins (Ch K) dx (([] : List (Str × V)) ++ [(("blocks" : Str), V.int (n : Int))]))) := Exb.upd
    have h1 := upd_same (H := H) (a := x) (o := HO.ins (Ch K) dx (([] : List (Str × V)) ++ [(("blocks" : Str), V.int (n : Int))]))
    generalize upd H x (HO.ins (Ch K) dx (([] : List (Str × V)) ++ [(("blocks" : Str), V.int (n : Int))])) = H1 at e1 h1 ⊢
    refine ⟨_, rfl, _, rfl, x, _, dx, _, rfl, h1, TC.cls, TC.no _ (by simp), by show 1 < 1000; decide, ?_⟩
    rw [putF_new (f := "pages") rfl]
    have e2 : Exb x H1 (upd H1 x (HO.ins (Ch K) dx (([] : List (Str × V)) ++ [(("blocks" : Str), V.int (n : Int))] ++ [(("pages" : Str), V.int (pg : Int))]))) := Exb.upd
    have h2 := upd_same (H := H1) (a := x) (o := HO.ins (Ch K) dx (([] : List (Str × V)) ++ [(("blocks" : Str), V.int (n : Int))] ++ [(("pages" : Str), V.int (pg : Int))]))
    generalize upd H1 x (HO.ins (Ch K) dx (([] : List (Str × V)) ++ [(("blocks" : Str), V.int (n : Int))] ++ [(("pages" : Str), V.int (pg : Int))])) = H2 at e2 h2 ⊢
    refine ⟨_, rfl, _, rfl, x, _, dx, _, rfl, h2, TC.cls, TC.no _ (by simp), by show 2 < 1000; decide, ?_⟩
    rw [putF_new (f := "bad") rfl]
    have e3 : Exb x H2 (upd H2 x (HO.ins (Ch K) dx (([] : List (Str × V)) ++ [(("blocks" : Str), V.int (n : Int))] ++ [(("pages" : Str), V.int (pg : Int))] ++ [(("bad" : Str), V.int (bd : Int))]))) := Exb.upd
    have h3 := upd_same (H := H2) (a := x) (o := HO.ins (Ch K) dx (([] : List (Str × V)) ++ [(("blocks" : Str), V.int (n : Int))] ++ [(("pages" : Str), V.int (pg : Int))] ++ [(("bad" : Str), V.int (bd : Int))]))
    generalize upd H2 x (HO.ins (Ch K) dx (([] : List (Str × V)) ++ [(("blocks" : Str), V.int (n : Int))] ++ [(("pages" : Str), V.int (pg : Int))] ++ [(("bad" : Str), V.int (bd : Int))])) = H3 at e3 h3 ⊢
    refine ⟨_, rfl, x, _, dx, _, rfl, h3, TC.cls, TC.no _ (by simp), by show 3 < 1000; decide, ?_⟩
    rw [putF_new (f := "ops") rfl]
    have e4 : Exb x H3 (upd H3 x (HO.ins (Ch K) dx (([] : List (Str × V)) ++ [(("blocks" : Str), V.int (n : Int))] ++ [(("pages" : Str), V.int (pg : Int))] ++ [(("bad" : Str), V.int (bd : Int))] ++ [(("ops" : Str), V.int 0)]))) := Exb.upd
    have h4 := upd_same (H := H3) (a := x) (o := HO.ins (Ch K) dx (([] : List (Str × V)) ++ [(("blocks" : Str), V.int (n : Int))] ++ [(("pages" : Str), V.int (pg : Int))] ++ [(("bad" : Str), V.int (bd : Int))] ++ [(("ops" : Str), V.int 0)]))
    generalize upd H3 x (HO.ins (Ch K) dx (([] : List (Str × V)) ++ [(("blocks" : Str), V.int (n : Int))] ++ [(("pages" : Str), V.int (pg : Int))] ++ [(("bad" : Str), V.int (bd : Int))] ++ [(("ops" : Str), V.int 0)])) = H4 at e4 h4 ⊢
    refine ⟨_, rfl, x, _, dx, _, rfl, h4, TC.cls, TC.no _ (by simp), by show 4 < 1000; decide, ?_⟩
    rw [putF_new (f := "cuts") rfl]
    have e5 : Exb x H4 (upd H4 x (HO.ins (Ch K) dx (([] : List (Str × V)) ++ [(("blocks" : Str), V.int (n : Int))] ++ [(("pages" : Str), V.int (pg : Int))] ++ [(("bad" : Str), V.int (bd : Int))] ++ [(("ops" : Str), V.int 0)] ++ [(("cuts" : Str), V.int 0)]))) := Exb.upd
    have h5 := upd_same (H := H4) (a := x) (o := HO.ins (Ch K) dx (([] : List (Str × V)) ++ [(("blocks" : Str), V.int (n : Int))] ++ [(("pages" : Str), V.int (pg : Int))] ++ [(("bad" : Str), V.int (bd : Int))] ++ [(("ops" : Str), V.int 0)] ++ [(("cuts" : Str), V.int 0)]))
    generalize upd H4 x (HO.ins (Ch K) dx (([] : List (Str × V)) ++ [(("blocks" : Str), V.int (n : Int))] ++ [(("pages" : Str), V.int (pg : Int))] ++ [(("bad" : Str), V.int (bd : Int))] ++ [(("ops" : Str), V.int 0)] ++ [(("cuts" : Str), V.int 0)])) = H5 at e5 h5 ⊢
    have E5 := (((e1.trans e2).trans e3).trans e4).trans e5
    clear e1 e2 e3 e4 e5 h1 h2 h3 h4 hx
    -- the octets
    refine ⟨_, rfl, (n : Int), rfl, by omega, by omega, fun D hD => ?_⟩
    have nn : ((n : Int)).toNat = n := by omega
    rw [nn]
    have nD : D ≠ x := fun z => by rw [z, h5] at hD; cases hD
    refine lc_range (lo := 0) (n := n) (fun i H' => i ≤ n ∧ Evl.Ex H5 H' ∧ ∃ rs : List Addr, rs.length = i ∧ H' D = some (.lst (rs.map V.ref)) ∧ ∀ r ∈ rs, r ≠ D ∧ H5 r = none ∧ H' r = some (.tup (IV (List.replicate (31 * pg) 255)))) ⟨by omega, Evl.Ex.new hD, [], rfl, upd_same, fun _ h => (by cases h)⟩ ?_ ?_
    · rintro i H6 hi ⟨_, e6, rs, lr, hrs, ar⟩
      refine ⟨rfl, _, rfl, pg, rfl, g1, g2, fun r H7 nr e7 hr7 => ?_⟩
      have hD7 := e7 _ _ hrs
      have rD : r ≠ D := fun z => by rw [z, hrs] at nr; cases nr
      refine ⟨_, hD7, by rw [List.length_map, lr]; exact Evl.sz_lt (by omega), by omega, Evl.Ex.mut (e6.trans e7) hD, rs ++ [r], by simp [lr], by rw [upd_same, List.map_append]; rfl, ?_⟩
      intro q' hq'
      rcases List.mem_append.mp hq' with h | h
      · obtain ⟨a1, a2, a3⟩ := ar q' h
        exact ⟨a1, a2, by rw [upd_ne a1]; exact e7 _ _ a3⟩
      · have : q' = r := by simpa using h
        subst this
        exact ⟨rD, Evl.fresh_back e6 nr, by rw [upd_ne rD]; exact hr7⟩
    rintro H6 ⟨_, e6, rs, lr, hrs, ar⟩
    have xD : D ≠ x := nD
    refine ⟨_, rfl, x, _, dx, _, rfl, e6 _ _ h5, TC.cls, TC.no _ (by simp), by show 5 < 1000; decide, ?_⟩
    rw [putF_new (f := "_octets") rfl]
    have f7 : Exb x H6 (upd H6 x (HO.ins (Ch K) dx (([] : List (Str × V)) ++ [(("blocks" : Str), V.int (n : Int))] ++ [(("pages" : Str), V.int (pg : Int))] ++ [(("bad" : Str), V.int (bd : Int))] ++ [(("ops" : Str), V.int 0)] ++ [(("cuts" : Str), V.int 0)] ++ [(("_octets" : Str), V.ref D)]))) := Exb.upd
    have h7 := upd_same (H := H6) (a := x) (o := HO.ins (Ch K) dx (([] : List (Str × V)) ++ [(("blocks" : Str), V.int (n : Int))] ++ [(("pages" : Str), V.int (pg : Int))] ++ [(("bad" : Str), V.int (bd : Int))] ++ [(("ops" : Str), V.int 0)] ++ [(("cuts" : Str), V.int 0)] ++ [(("_octets" : Str), V.ref D)]))
    generalize upd H6 x (HO.ins (Ch K) dx (([] : List (Str × V)) ++ [(("blocks" : Str), V.int (n : Int))] ++ [(("pages" : Str), V.int (pg : Int))] ++ [(("bad" : Str), V.int (bd : Int))] ++ [(("ops" : Str), V.int 0)] ++ [(("cuts" : Str), V.int 0)] ++ [(("_octets" : Str), V.ref D)])) = H7 at f7 h7 ⊢
    have E7 := (E5.trans (Exb.of e6)).trans f7
    have hD7 := f7 D _ nD hrs
    have fD : H D = none := Exb.fresh E5 hD nD
    -- the erases
    refine ⟨by show 1 ≤ sizeLine; decide, fun l0 n0 => ⟨_, rfl, repV upd_same (by omega) fun l1 n1 => ?_⟩⟩
    have x0 := Evl.Ex.new (o := .lst [V.int 0]) n0
    have x1 := Evl.Ex.new (o := .lst (List.replicate n (V.int 0))) n1
    have g7 := Evl.fresh_back x0 n1
    have nl1 : l1 ≠ x := fun z => by rw [z, h7] at g7; cases g7
    have Dl1 : D ≠ l1 := fun z => by rw [← z, hD7] at g7; cases g7
    have k1 := upd_same (H := upd H7 l0 (.lst [V.int 0])) (a := l1) (o := .lst (List.replicate n (V.int 0)))
    have X1 := x0.trans x1
    have h7' := X1 _ _ h7
    have hD8 := X1 _ _ hD7
    generalize upd (upd H7 l0 (.lst [V.int 0])) l1 (.lst (List.replicate n (V.int 0))) = H8 at k1 X1 h7' hD8 ⊢
    refine ⟨_, rfl, x, _, dx, _, rfl, h7', TC.cls, TC.no _ (by simp), by show 6 < 1000; decide, ?_⟩
    rw [putF_new (f := "_erased") rfl]
    have f9 : Exb x H8 (upd H8 x (HO.ins (Ch K) dx (([] : List (Str × V)) ++ [(("blocks" : Str), V.int (n : Int))] ++ [(("pages" : Str), V.int (pg : Int))] ++ [(("bad" : Str), V.int (bd : Int))] ++ [(("ops" : Str), V.int 0)] ++ [(("cuts" : Str), V.int 0)] ++ [(("_octets" : Str), V.ref D)] ++ [(("_erased" : Str), V.ref l1)]))) := Exb.upd
    have h9 := upd_same (H := H8) (a := x) (o := HO.ins (Ch K) dx (([] : List (Str × V)) ++ [(("blocks" : Str), V.int (n : Int))] ++ [(("pages" : Str), V.int (pg : Int))] ++ [(("bad" : Str), V.int (bd : Int))] ++ [(("ops" : Str), V.int 0)] ++ [(("cuts" : Str), V.int 0)] ++ [(("_octets" : Str), V.ref D)] ++ [(("_erased" : Str), V.ref l1)]))
    generalize upd H8 x (HO.ins (Ch K) dx (([] : List (Str × V)) ++ [(("blocks" : Str), V.int (n : Int))] ++ [(("pages" : Str), V.int (pg : Int))] ++ [(("bad" : Str), V.int (bd : Int))] ++ [(("ops" : Str), V.int 0)] ++ [(("cuts" : Str), V.int 0)] ++ [(("_octets" : Str), V.ref D)] ++ [(("_erased" : Str), V.ref l1)])) = H9 at f9 h9 ⊢
    have E9 := (E7.trans (Exb.of X1)).trans f9
    have hD9 := f9 D _ nD hD8
    have k9 := f9 l1 _ nl1 k1
    have fl1 : H l1 = none := Exb.fresh E7 g7 nl1
    -- the flags
    refine ⟨by show 1 ≤ sizeLine; decide, fun l2 n2 => ⟨_, rfl, repV upd_same (by omega) fun l3 n3 => ?_⟩⟩
    have x2 := Evl.Ex.new (o := .lst [V.bl false]) n2
    have x3 := Evl.Ex.new (o := .lst (List.replicate n (V.bl false))) n3
    have g9 := Evl.fresh_back x2 n3
    have nl3 : l3 ≠ x := fun z => by rw [z, h9] at g9; cases g9
    have Dl3 : D ≠ l3 := fun z => by rw [← z, hD9] at g9; cases g9
    have l13 : l1 ≠ l3 := fun z => by rw [← z, k9] at g9; cases g9
    have k3 := upd_same (H := upd H9 l2 (.lst [V.bl false])) (a := l3) (o := .lst (List.replicate n (V.bl false)))
    have X3 := x2.trans x3
    have h9' := X3 _ _ h9
    have hD10 := X3 _ _ hD9
    have k10 := X3 _ _ k9
    generalize upd (upd H9 l2 (.lst [V.bl false])) l3 (.lst (List.replicate n (V.bl false))) = H10 at k3 X3 h9' hD10 k10 ⊢
    refine ⟨_, rfl, x, _, dx, _, rfl, h9', TC.cls, TC.no _ (by simp), by show 7 < 1000; decide, ?_⟩
    rw [putF_new (f := "_turned_bad") rfl]
    have f11 : Exb x H10 (upd H10 x (HO.ins (Ch K) dx (([] : List (Str × V)) ++ [(("blocks" : Str), V.int (n : Int))] ++ [(("pages" : Str), V.int (pg : Int))] ++ [(("bad" : Str), V.int (bd : Int))] ++ [(("ops" : Str), V.int 0)] ++ [(("cuts" : Str), V.int 0)] ++ [(("_octets" : Str), V.ref D)] ++ [(("_erased" : Str), V.ref l1)] ++ [(("_turned_bad" : Str), V.ref l3)]))) := Exb.upd
    have h11 := upd_same (H := H10) (a := x) (o := HO.ins (Ch K) dx (([] : List (Str × V)) ++ [(("blocks" : Str), V.int (n : Int))] ++ [(("pages" : Str), V.int (pg : Int))] ++ [(("bad" : Str), V.int (bd : Int))] ++ [(("ops" : Str), V.int 0)] ++ [(("cuts" : Str), V.int 0)] ++ [(("_octets" : Str), V.ref D)] ++ [(("_erased" : Str), V.ref l1)] ++ [(("_turned_bad" : Str), V.ref l3)]))
    generalize upd H10 x (HO.ins (Ch K) dx (([] : List (Str × V)) ++ [(("blocks" : Str), V.int (n : Int))] ++ [(("pages" : Str), V.int (pg : Int))] ++ [(("bad" : Str), V.int (bd : Int))] ++ [(("ops" : Str), V.int 0)] ++ [(("cuts" : Str), V.int 0)] ++ [(("_octets" : Str), V.ref D)] ++ [(("_erased" : Str), V.ref l1)] ++ [(("_turned_bad" : Str), V.ref l3)])) = H11 at f11 h11 ⊢
    have E11 := (E9.trans (Exb.of X3)).trans f11
    have hD11 := f11 D _ nD hD10
    have k11 := f11 l1 _ nl1 k10
    have j11 := f11 l3 _ nl3 k3
    have fl3 : H l3 = none := Exb.fresh E9 g9 nl3
    -- the plans
    refine fun p1 np1 => ?_
    have y1 := Evl.Ex.new (o := .dK []) np1
    have m1 := upd_same (H := H11) (a := p1) (o := .dK [])
    have np1x : p1 ≠ x := fun z => by rw [z, h11] at np1; cases np1
    have h11' := y1 _ _ h11
    have hD12 := y1 _ _ hD11
    have k12 := y1 _ _ k11
    have j12 := y1 _ _ j11
    have fp1 : H p1 = none := Exb.fresh E11 np1 np1x
    generalize upd H11 p1 (.dK []) = H12 at y1 m1 h11' hD12 k12 j12 ⊢
    refine ⟨_, rfl, x, _, dx, _, rfl, h11', TC.cls, TC.no _ (by simp), by show 8 < 1000; decide, ?_⟩
    rw [putF_new (f := "_cut_plans") rfl]
    have f13 : Exb x H12 (upd H12 x (HO.ins (Ch K) dx (([] : List (Str × V)) ++ [(("blocks" : Str), V.int (n : Int))] ++ [(("pages" : Str), V.int (pg : Int))] ++ [(("bad" : Str), V.int (bd : Int))] ++ [(("ops" : Str), V.int 0)] ++ [(("cuts" : Str), V.int 0)] ++ [(("_octets" : Str), V.ref D)] ++ [(("_erased" : Str), V.ref l1)] ++ [(("_turned_bad" : Str), V.ref l3)] ++ [(("_cut_plans" : Str), V.ref p1)]))) := Exb.upd
    have h13 := upd_same (H := H12) (a := x) (o := HO.ins (Ch K) dx (([] : List (Str × V)) ++ [(("blocks" : Str), V.int (n : Int))] ++ [(("pages" : Str), V.int (pg : Int))] ++ [(("bad" : Str), V.int (bd : Int))] ++ [(("ops" : Str), V.int 0)] ++ [(("cuts" : Str), V.int 0)] ++ [(("_octets" : Str), V.ref D)] ++ [(("_erased" : Str), V.ref l1)] ++ [(("_turned_bad" : Str), V.ref l3)] ++ [(("_cut_plans" : Str), V.ref p1)]))
    generalize upd H12 x (HO.ins (Ch K) dx (([] : List (Str × V)) ++ [(("blocks" : Str), V.int (n : Int))] ++ [(("pages" : Str), V.int (pg : Int))] ++ [(("bad" : Str), V.int (bd : Int))] ++ [(("ops" : Str), V.int 0)] ++ [(("cuts" : Str), V.int 0)] ++ [(("_octets" : Str), V.ref D)] ++ [(("_erased" : Str), V.ref l1)] ++ [(("_turned_bad" : Str), V.ref l3)] ++ [(("_cut_plans" : Str), V.ref p1)])) = H13 at f13 h13 ⊢
    have E13 := (E11.trans (Exb.of y1)).trans f13
    refine fun p2 np2 => ?_
    have y2 := Evl.Ex.new (o := .dK []) np2
    have m2 := upd_same (H := H13) (a := p2) (o := .dK [])
    have np2x : p2 ≠ x := fun z => by rw [z, h13] at np2; cases np2
    have m1' := f13 p1 _ np1x m1
    have p12 : p1 ≠ p2 := fun z => by rw [← z, m1'] at np2; cases np2
    have h13' := y2 _ _ h13
    have fp2 : H p2 = none := Exb.fresh E13 np2 np2x
    have G := (f13.trans (Exb.of y2))
    have hD14 := G D _ nD hD12
    have k14 := G l1 _ nl1 k12
    have j14 := G l3 _ nl3 j12
    have m14 := y2 _ _ m1'
    have E14 := E13.trans (Exb.of y2)
    have ar14 : ∀ r ∈ rs, r ≠ x ∧ upd H13 p2 (.dK []) r = some (.tup (IV (List.replicate (31 * pg) 255))) := by
      intro r hr
      obtain ⟨a1, a2, a3⟩ := ar r hr
      have rx : r ≠ x := fun z => by rw [z, h5] at a2; cases a2
      exact ⟨rx, ((((f7.trans (Exb.of X1)).trans f9).trans (Exb.of X3)).trans ((f11.trans (Exb.of y1)).trans G)) r _ rx a3⟩
    generalize upd H13 p2 (.dK []) = H14 at y2 m2 h13' G hD14 k14 j14 m14 E14 ar14 ⊢
    refine ⟨_, rfl, x, _, dx, _, rfl, h13', TC.cls, TC.no _ (by simp), by show 9 < 1000; decide, ?_⟩
    rw [putF_new (f := "_fail_plans") rfl]
    have f15 : Exb x H14 (upd H14 x (HO.ins (Ch K) dx (([] : List (Str × V)) ++ [(("blocks" : Str), V.int (n : Int))] ++ [(("pages" : Str), V.int (pg : Int))] ++ [(("bad" : Str), V.int (bd : Int))] ++ [(("ops" : Str), V.int 0)] ++ [(("cuts" : Str), V.int 0)] ++ [(("_octets" : Str), V.ref D)] ++ [(("_erased" : Str), V.ref l1)] ++ [(("_turned_bad" : Str), V.ref l3)] ++ [(("_cut_plans" : Str), V.ref p1)] ++ [(("_fail_plans" : Str), V.ref p2)]))) := Exb.upd
    have h15 := upd_same (H := H14) (a := x) (o := HO.ins (Ch K) dx (([] : List (Str × V)) ++ [(("blocks" : Str), V.int (n : Int))] ++ [(("pages" : Str), V.int (pg : Int))] ++ [(("bad" : Str), V.int (bd : Int))] ++ [(("ops" : Str), V.int 0)] ++ [(("cuts" : Str), V.int 0)] ++ [(("_octets" : Str), V.ref D)] ++ [(("_erased" : Str), V.ref l1)] ++ [(("_turned_bad" : Str), V.ref l3)] ++ [(("_cut_plans" : Str), V.ref p1)] ++ [(("_fail_plans" : Str), V.ref p2)]))
    generalize upd H14 x (HO.ins (Ch K) dx (([] : List (Str × V)) ++ [(("blocks" : Str), V.int (n : Int))] ++ [(("pages" : Str), V.int (pg : Int))] ++ [(("bad" : Str), V.int (bd : Int))] ++ [(("ops" : Str), V.int 0)] ++ [(("cuts" : Str), V.int 0)] ++ [(("_octets" : Str), V.ref D)] ++ [(("_erased" : Str), V.ref l1)] ++ [(("_turned_bad" : Str), V.ref l3)] ++ [(("_cut_plans" : Str), V.ref p1)] ++ [(("_fail_plans" : Str), V.ref p2)])) = H15 at f15 h15 ⊢
    have E15 := E14.trans f15
    have hD15 := f15 D _ nD hD14
    have k15 := f15 l1 _ nl1 k14
    have j15 := f15 l3 _ nl3 j14
    have m15 := f15 p1 _ np1x m14
    have m25 := f15 p2 _ np2x m2
    refine fun p3 np3 => ?_
    have y3 := Evl.Ex.new (o := .dK []) np3
    have m3 := upd_same (H := H15) (a := p3) (o := .dK [])
    have np3x : p3 ≠ x := fun z => by rw [z, h15] at np3; cases np3
    have p13 : p1 ≠ p3 := fun z => by rw [← z, m15] at np3; cases np3
    have p23 : p2 ≠ p3 := fun z => by rw [← z, m25] at np3; cases np3
    have h15' := y3 _ _ h15
    have fp3 : H p3 = none := Exb.fresh E15 np3 np3x
    have hD16 := y3 _ _ hD15
    have k16 := y3 _ _ k15
    have j16 := y3 _ _ j15
    have m16 := y3 _ _ m15
    have m26 := y3 _ _ m25
    have E16 := E15.trans (Exb.of y3)
    have ar16 : ∀ r ∈ rs, r ≠ x ∧ upd H15 p3 (.dK []) r = some (.tup (IV (List.replicate (31 * pg) 255))) := fun r hr => ⟨(ar14 r hr).1, y3 _ _ (f15 r _ (ar14 r hr).1 (ar14 r hr).2)⟩
    generalize upd H15 p3 (.dK []) = H16 at y3 m3 h15' hD16 k16 j16 m16 m26 E16 ar16 ⊢
    refine ⟨_, rfl, x, _, dx, _, rfl, h15', TC.cls, TC.no _ (by simp), by show 10 < 1000; decide, ?_⟩
    rw [putF_new (f := "_reads") rfl]
    have f17 : Exb x H16 (upd H16 x (HO.ins (Ch K) dx (([] : List (Str × V)) ++ [(("blocks" : Str), V.int (n : Int))] ++ [(("pages" : Str), V.int (pg : Int))] ++ [(("bad" : Str), V.int (bd : Int))] ++ [(("ops" : Str), V.int 0)] ++ [(("cuts" : Str), V.int 0)] ++ [(("_octets" : Str), V.ref D)] ++ [(("_erased" : Str), V.ref l1)] ++ [(("_turned_bad" : Str), V.ref l3)] ++ [(("_cut_plans" : Str), V.ref p1)] ++ [(("_fail_plans" : Str), V.ref p2)] ++ [(("_reads" : Str), V.ref p3)]))) := Exb.upd
    have h17 := upd_same (H := H16) (a := x) (o := HO.ins (Ch K) dx (([] : List (Str × V)) ++ [(("blocks" : Str), V.int (n : Int))] ++ [(("pages" : Str), V.int (pg : Int))] ++ [(("bad" : Str), V.int (bd : Int))] ++ [(("ops" : Str), V.int 0)] ++ [(("cuts" : Str), V.int 0)] ++ [(("_octets" : Str), V.ref D)] ++ [(("_erased" : Str), V.ref l1)] ++ [(("_turned_bad" : Str), V.ref l3)] ++ [(("_cut_plans" : Str), V.ref p1)] ++ [(("_fail_plans" : Str), V.ref p2)] ++ [(("_reads" : Str), V.ref p3)]))
    generalize upd H16 x (HO.ins (Ch K) dx (([] : List (Str × V)) ++ [(("blocks" : Str), V.int (n : Int))] ++ [(("pages" : Str), V.int (pg : Int))] ++ [(("bad" : Str), V.int (bd : Int))] ++ [(("ops" : Str), V.int 0)] ++ [(("cuts" : Str), V.int 0)] ++ [(("_octets" : Str), V.ref D)] ++ [(("_erased" : Str), V.ref l1)] ++ [(("_turned_bad" : Str), V.ref l3)] ++ [(("_cut_plans" : Str), V.ref p1)] ++ [(("_fail_plans" : Str), V.ref p2)] ++ [(("_reads" : Str), V.ref p3)])) = H17 at f17 h17 ⊢
    have bv : List.replicate n (V.bl false) = BV (List.replicate n false) := List.map_replicate.symm
    have iv0 : List.replicate n (V.int 0) = IV (List.replicate n 0) := List.map_replicate.symm
    rw [bv] at j16
    rw [iv0] at k16
    exact q ⟨n, pg, bd, 0, 0, D, l1, l3, p1, p2, p3⟩ rs H17 rfl rfl rfl rfl rfl (E16.trans f17) h17 lr (fun r hr => f17 r _ (ar16 r hr).1 (ar16 r hr).2) (f17 D _ nD hD16) (f17 l1 _ nl1 k16) (f17 l3 _ nl3 j16) (f17 p1 _ np1x m16) (f17 p2 _ np2x m26) (f17 p3 _ np3x m3) Dl1 Dl3 l13 p12 p13 p23 fD fl1 fl3 fp1 fp2 fp3
end
end K10
namespace K10
open PySem PySem.Spec PyProof.Rows L2 VB BM
section
variable {P : Program} {w : World} {K : PySem.W.Frag} {mg : Str → Option Value} {base : Heap} {f : Addr} {fd : FuncData}
def spChkPl (K : PySem.W.Frag) : Sp := fun vs H Q _ => ∃ (a : Addr) (c : Cp) (o m : Int), vs = [.ref a, .int o, .int m] ∧ InsAt K H a c ∧ c.ops ≤ o ∧ 0 ≤ m ∧ m < MM ∧ Q .non H
theorem ok_check_plan (T : Txt K mg) (TC : TxC K) (F : FnM K "_check_plan" "Chip._check_plan" s_Chip___check_plan f fd) (C_is_int : Cal P w K mg base CX0 1 "is_int" ["value"] spIsInt) (C_is_mask : Cal P w K mg base CX0 2 "is_mask" ["value"] spIsMask) :
    Fg P w K mg base CX0 3 f fd ["self", "op", "mask"] (spChkPl K) := by
  refine fg_of F sc_Chip___check_plan (fun vs H Q E h => ?_) (fun cdv A outer s H vs Q E hr h => ⟨_, (PSs.nox (pss_cons (ps_if (PW.pt (pw_or (pt_not (pt_tru (K := K) (pe_cal C_is_int hr.le pass0 (pa_cons (pv 1) pa_nil)) (by intro _; rfl))) (pw_or1 (pt_cmpR op_lt (pv 1) (pe_fldU (K := K) (pv 0) rfl) (nomark _)))))
  (pss_one ps_never) pss_nil)
  (pss_one (ps_if (pt_not (pt_tru (K := K) (pe_cal C_is_mask hr.le pass0 (pa_cons (pv 2) pa_nil)) (by intro _; rfl)))
  (pss_one ps_never) pss_nil)))), ?_⟩)
  · obtain ⟨a, c, o, m, rfl, _⟩ := h
    rfl
  · obtain ⟨a, c, o, m, rfl, ⟨dx, ha⟩, h1, h2, h3, q⟩ := h
    refine ⟨_, rfl, o, rfl, true, rfl, iteF ⟨_, rfl, _, rfl, a, _, dx, _, _, rfl, ha, TC.cls, TC.no _ (by simp), rfl, _, _, rfl, rfl, _, rfl, ?_⟩⟩
    rw [decide_eq_false (by omega)]
    exact iteF ⟨_, rfl, m, rfl, h2, h3, true, rfl, iteF q⟩
def spCut (K : PySem.W.Frag) : Sp := fun vs H Q _ => ∃ (a : Addr) (c : Cp) (o m : Int) (ks : List (Key × V)), vs = [.ref a, .int o, .int m] ∧ InsAt K H a c ∧ c.ops ≤ o ∧ 0 ≤ m ∧ m < MM ∧ H c.p = some (.dK ks) ∧ ks.length < 1000 ∧ Q .non (upd H c.p (.dK (putK ks (Sum.inl o : Key) (V.int m))))
theorem ok_cut (T : Txt K mg) (TC : TxC K) (F : FnM K "cut" "Chip.cut" s_Chip__cut f fd) (M_Chip___check_plan : CalM P w K mg base CX0 3 (Ch K) "_check_plan" ["self", "op", "mask"] (spChkPl K)) :
    Fg P w K mg base CX0 4 f fd ["self", "op", "mask"] (spCut K) := by
  refine fg_of F sc_Chip__cut (fun vs H Q E h => ?_) (fun cdv A outer s H vs Q E hr h => ⟨_, (PSs.nox (pss_cons (ps_expr (pe_calM M_Chip___check_plan hr.le pass0 (pv 0) (pa_cons (pv 1) (pa_cons (pv 2) pa_nil))))
  (pss_one (ps_asg (pv 2) (pg_sub (pe_fldU (K := K) (pv 0) rfl) (pv 1) (L2.set_dict (Nat.lt_of_le_of_lt (Nat.add_le_add_left (by decide : 1 ≤ 64) _) hr.rm.units))))))), ?_⟩)
  · obtain ⟨a, c, o, m, ks, rfl, _⟩ := h
    rfl
  · obtain ⟨a, c, o, m, ks, rfl, ⟨dx, ha⟩, h1, h2, h3, hk, lk, q⟩ := h
    refine ⟨_, rfl, a, dx, _, rfl, ha, rfl, _, rfl, _, rfl, a, c, o, m, rfl, ⟨dx, ha⟩, h1, h2, h3, ?_⟩
    exact ⟨_, rfl, _, rfl, a, _, dx, _, _, rfl, ha, TC.cls, TC.no _ (by simp), rfl, _, rfl, c.p, _, rfl, DPut.k (k := (Sum.inl o : Key)) hk (Evl.sz_lt (by omega)), q⟩
def spFail (K : PySem.W.Frag) : Sp := fun vs H Q _ => ∃ (a : Addr) (c : Cp) (o m : Int) (ks : List (Key × V)), vs = [.ref a, .int o, .int m] ∧ InsAt K H a c ∧ c.ops ≤ o ∧ 0 ≤ m ∧ m < MM ∧ H c.q = some (.dK ks) ∧ ks.length < 1000 ∧ Q .non (upd H c.q (.dK (putK ks (Sum.inl o : Key) (V.int m))))
theorem ok_fail (T : Txt K mg) (TC : TxC K) (F : FnM K "fail" "Chip.fail" s_Chip__fail f fd) (M_Chip___check_plan : CalM P w K mg base CX0 3 (Ch K) "_check_plan" ["self", "op", "mask"] (spChkPl K)) :
    Fg P w K mg base CX0 4 f fd ["self", "op", "mask"] (spFail K) := by
  refine fg_of F sc_Chip__fail (fun vs H Q E h => ?_) (fun cdv A outer s H vs Q E hr h => ⟨_, (PSs.nox (pss_cons (ps_expr (pe_calM M_Chip___check_plan hr.le pass0 (pv 0) (pa_cons (pv 1) (pa_cons (pv 2) pa_nil))))
  (pss_one (ps_asg (pv 2) (pg_sub (pe_fldU (K := K) (pv 0) rfl) (pv 1) (L2.set_dict (Nat.lt_of_le_of_lt (Nat.add_le_add_left (by decide : 1 ≤ 64) _) hr.rm.units))))))), ?_⟩)
  · obtain ⟨a, c, o, m, ks, rfl, _⟩ := h
    rfl
  · obtain ⟨a, c, o, m, ks, rfl, ⟨dx, ha⟩, h1, h2, h3, hk, lk, q⟩ := h
    refine ⟨_, rfl, a, dx, _, rfl, ha, rfl, _, rfl, _, rfl, a, c, o, m, rfl, ⟨dx, ha⟩, h1, h2, h3, ?_⟩
    exact ⟨_, rfl, _, rfl, a, _, dx, _, _, rfl, ha, TC.cls, TC.no _ (by simp), rfl, _, rfl, c.q, _, rfl, DPut.k (k := (Sum.inl o : Key)) hk (Evl.sz_lt (by omega)), q⟩
/-- the bad ones, in order -/
def badL (tb : List Bool) : List Int := ((List.range tb.length).filter fun i => tb.getD i false).map fun (i : Nat) => (i : Int)
def spBadB (K : PySem.W.Frag) : Sp := fun vs H Q _ => ∃ (a : Addr) (c : Cp) (tb : List Bool), vs = [.ref a] ∧ InsAt K H a c ∧ c.blocks = tb.length ∧ tb.length ≤ 24 ∧ H c.t = some (.lst (BV tb)) ∧ RL (IV (badL tb)) H Q
theorem ok_bad_blocks (T : Txt K mg) (TC : TxC K) (F : FnM K "bad_blocks" "Chip.bad_blocks" s_Chip__bad_blocks f fd) : Fg P w K mg base CX0 1 f fd ["self"] (spBadB K) := by
  refine fg_of F sc_Chip__bad_blocks (fun vs H Q E h => ?_) (fun cdv A outer s H vs Q E hr h => ⟨_, (PSs.nox (pss_one (ps_ret (pe_lc (own := [("block", 1)]) rfl sc_Chip__bad_blocks.nd (pi_range1 rfl T.f_range (pa_cons (pe_fldU (K := K) (pv 0) rfl) pa_nil)) (blkOk_by (own := [("block", 1)]) (N := ["self", "block"]) (sc := defScope s_Chip__bad_blocks) (by decide +kernel)) (fun _ _ _ _ _ => (pg_name (i := 1) sc_Chip__bad_blocks.nd rfl (by first | exact Or.inl rfl | exact Or.inr rfl))) (fun _ _ _ _ _ => (pts_one (pt_tru (K := K) (pe_ix (u_ix (K := K)) (pe_fldU (K := K) (pv 0) rfl) (pv 1) (fun _ _ => rfl)) (by intro _; rfl)))) (fun _ _ _ _ _ => (pv 1)))))), ?_⟩)
  · obtain ⟨a, c, tb, rfl, _⟩ := h
    rfl
  · obtain ⟨a, c, tb, rfl, ⟨dx, ha⟩, hb, hl, ht, q⟩ := h
    refine ⟨_, rfl, a, _, dx, _, _, rfl, ha, TC.cls, TC.no _ (by simp), rfl, c.blocks, rfl, by omega, by omega, fun D hD => ?_⟩
    have nn : c.blocks.toNat = tb.length := by omega
    rw [nn]
    refine lc_range (lo := 0) (n := tb.length) (fun i H' => i ≤ tb.length ∧ Evl.Ex H H' ∧ H' D = some (.lst (IV (((List.range i).filter fun i => tb.getD i false).map fun (i : Nat) => (i : Int))))) ⟨by omega, Evl.Ex.new hD, upd_same⟩ ?_ ?_
    · rintro i H1 hi ⟨_, e1, h1⟩
      have e0 : (0 : Int) + (i : Int) = (i : Int) := Int.zero_add _
      rw [e0]
      refine ⟨rfl, _, rfl, a, _, dx, _, _, rfl, e1 _ _ ha, TC.cls, TC.no _ (by simp), rfl, _, rfl, Sv.ix (x := .non) (Sv.lst (e1 _ _ ht)) (i := (i : Int)) (bv_at hi) ⟨_, rfl, ?_⟩⟩
      have st : (List.range (i + 1)).filter (fun i => tb.getD i false) = (List.range i).filter (fun i => tb.getD i false) ++ (if tb.getD i false then [i] else []) := by
        rw [List.range_succ, List.filter_append, List.filter_cons, List.filter_nil]
      have ll : ((List.range i).filter fun i => tb.getD i false).length ≤ i := by
        have := List.length_filter_le (fun i => tb.getD i false) (List.range i)
        rw [List.length_range] at this
        exact this
      cases hv : tb.getD i false with
      | true =>
        refine iteT ⟨_, rfl, _, h1, by rw [iv_len, List.length_map]; exact Evl.sz_lt (by omega), by omega, Evl.Ex.mut e1 hD, ?_⟩
        rw [upd_same, st, hv, if_pos rfl, List.map_append, iv_snoc]
        rfl
      | false =>
        refine iteF ⟨by omega, e1, ?_⟩
        rw [st, hv, if_neg (by simp), List.append_nil]
        exact h1
    · rintro H1 ⟨_, e1, h1⟩
      exact q D H1 hD e1 h1
end
end K10
namespace K10
open PySem PySem.Spec PyProof.Rows L2 VB BM
section
variable {P : Program} {w : World} {K : PySem.W.Frag} {mg : Str → Option Value} {base : Heap} {f : Addr} {fd : FuncData}
/-- what a chip is, beside its fields -/
structure CS where
  c : Cp
  rs : List Addr
  os : List (List Int)
  er : List Int
  tb : List Bool
  kp : List (Key × V)
  kq : List (Key × V)
structure ChipAt (K : PySem.W.Frag) (H : Hp) (a dx : Addr) (s : CS) : Prop where
  ins : H a = some (.ins (Ch K) dx s.c.fs)
  o : H s.c.o = some (.lst (s.rs.map V.ref))
  e : H s.c.e = some (.lst (IV s.er))
  t : H s.c.t = some (.lst (BV s.tb))
  p : H s.c.p = some (.dK s.kp)
  q : H s.c.q = some (.dK s.kq)
  tup : ∀ i, i < s.os.length → H (s.rs.getD i 0) = some (.tup (IV (s.os.getD i [])))
  oe : s.c.o ≠ s.c.e
  ot : s.c.o ≠ s.c.t
  et : s.c.e ≠ s.c.t
  pq : s.c.p ≠ s.c.q
  nr : s.rs.length = s.os.length
  ne : s.er.length = s.os.length
  nt : s.tb.length = s.os.length
  nb : s.c.blocks = s.os.length
  b8 : s.os.length ≤ 24
  g8 : 8 ≤ s.c.pages ∧ s.c.pages ≤ 16
  oct : ∀ i, i < s.os.length → Oct (s.os.getD i []) ∧ (s.os.getD i []).length = 31 * s.c.pages.toNat
  rr : H s.c.r = some (.dK []) ∧ s.c.p ≠ s.c.r ∧ s.c.q ≠ s.c.r
theorem put_ops (c : Cp) (n : Int) : putF "ops" (.int n) c.fs = ({ c with ops := n } : Cp).fs := rfl
theorem put_cuts (c : Cp) (n : Int) : putF "cuts" (.int n) c.fs = ({ c with cuts := n } : Cp).fs := rfl
theorem ChipAt.setc {H : Hp} {a dx : Addr} {s : CS} (h : ChipAt K H a dx s) (c' : Cp) (e1 : c'.o = s.c.o) (e2 : c'.e = s.c.e) (e3 : c'.t = s.c.t) (e4 : c'.p = s.c.p) (e5 : c'.q = s.c.q) (e6 : c'.blocks = s.c.blocks) (e7 : c'.pages = s.c.pages) (e8 : c'.r = s.c.r) :
    ChipAt K (upd H a (.ins (Ch K) dx c'.fs)) a dx { s with c := c' } := by
  have nl : ∀ {b : Addr} {xs : List V}, H b = some (.lst xs) → b ≠ a := fun hb z => by rw [z, h.ins] at hb; cases hb
  have nd : ∀ {b : Addr} {xs : List (Key × V)}, H b = some (.dK xs) → b ≠ a := fun hb z => by rw [z, h.ins] at hb; cases hb
  have nt : ∀ {b : Addr} {xs : List V}, H b = some (.tup xs) → b ≠ a := fun hb z => by rw [z, h.ins] at hb; cases hb
  refine ⟨upd_same, ?_, ?_, ?_, ?_, ?_, fun i hi => ?_, ?_, ?_, ?_, ?_, h.nr, h.ne, h.nt, ?_, h.b8, ?_, ?_, ?_, ?_, ?_⟩
  · show upd H a _ c'.o = _
    rw [e1, upd_ne (nl h.o)]
    exact h.o
  · show upd H a _ c'.e = _
    rw [e2, upd_ne (nl h.e)]
    exact h.e
  · show upd H a _ c'.t = _
    rw [e3, upd_ne (nl h.t)]
    exact h.t
  · show upd H a _ c'.p = _
    rw [e4, upd_ne (nd h.p)]
    exact h.p
  · show upd H a _ c'.q = _
    rw [e5, upd_ne (nd h.q)]
    exact h.q
  · rw [upd_ne (nt (h.tup i hi))]
    exact h.tup i hi
  · show c'.o ≠ c'.e
    rw [e1, e2]
    exact h.oe
  · show c'.o ≠ c'.t
    rw [e1, e3]
    exact h.ot
  · show c'.e ≠ c'.t
    rw [e2, e3]
    exact h.et
  · show c'.p ≠ c'.q
    rw [e4, e5]
    exact h.pq
  · show c'.blocks = _
    rw [e6]
    exact h.nb
  · show 8 ≤ c'.pages ∧ c'.pages ≤ 16
    rw [e7]
    exact h.g8
  · show ∀ i, i < s.os.length → Oct (s.os.getD i []) ∧ (s.os.getD i []).length = 31 * c'.pages.toNat
    rw [e7]
    exact h.oct
  · show upd H a _ c'.r = _
    rw [e8, upd_ne (nd h.rr.1)]
    exact h.rr.1
  · show c'.p ≠ c'.r
    rw [e4, e8]
    exact h.rr.2.1
  · show c'.q ≠ c'.r
    rw [e5, e8]
    exact h.rr.2.2
theorem ChipAt.ex {H H' : Hp} {a dx : Addr} {s : CS} (h : ChipAt K H a dx s) (e : Evl.Ex H H') : ChipAt K H' a dx s :=
  ⟨e _ _ h.ins, e _ _ h.o, e _ _ h.e, e _ _ h.t, e _ _ h.p, e _ _ h.q, fun i hi => e _ _ (h.tup i hi), h.oe, h.ot, h.et, h.pq, h.nr, h.ne, h.nt, h.nb, h.b8, h.g8, h.oct, ⟨e _ _ h.rr.1, h.rr.2⟩⟩
theorem ChipAt.setp {H : Hp} {a dx : Addr} {s : CS} (h : ChipAt K H a dx s) (k : List (Key × V)) : ChipAt K (upd H s.c.p (.dK k)) a dx { s with kp := k } := by
  have n : ∀ {b : Addr} {o : HO}, H b = some o → (∀ z, o ≠ .dK z) → b ≠ s.c.p := fun hb d => ne_of hb h.p (d _)
  exact ⟨by rw [upd_ne (n h.ins (fun _ z => by cases z))]; exact h.ins, by rw [upd_ne (n h.o (fun _ z => by cases z))]; exact h.o, by rw [upd_ne (n h.e (fun _ z => by cases z))]; exact h.e, by rw [upd_ne (n h.t (fun _ z => by cases z))]; exact h.t, upd_same,
    by rw [upd_ne (Ne.symm h.pq)]; exact h.q, fun i hi => by rw [upd_ne (n (h.tup i hi) (fun _ z => by cases z))]; exact h.tup i hi, h.oe, h.ot, h.et, h.pq, h.nr, h.ne, h.nt, h.nb, h.b8, h.g8, h.oct, ⟨by rw [upd_ne (Ne.symm h.rr.2.1)]; exact h.rr.1, h.rr.2⟩⟩
theorem ChipAt.setq {H : Hp} {a dx : Addr} {s : CS} (h : ChipAt K H a dx s) (k : List (Key × V)) : ChipAt K (upd H s.c.q (.dK k)) a dx { s with kq := k } := by
  have n : ∀ {b : Addr} {o : HO}, H b = some o → (∀ z, o ≠ .dK z) → b ≠ s.c.q := fun hb d => ne_of hb h.q (d _)
  exact ⟨by rw [upd_ne (n h.ins (fun _ z => by cases z))]; exact h.ins, by rw [upd_ne (n h.o (fun _ z => by cases z))]; exact h.o, by rw [upd_ne (n h.e (fun _ z => by cases z))]; exact h.e, by rw [upd_ne (n h.t (fun _ z => by cases z))]; exact h.t,
    by rw [upd_ne h.pq]; exact h.p, upd_same, fun i hi => by rw [upd_ne (n (h.tup i hi) (fun _ z => by cases z))]; exact h.tup i hi, h.oe, h.ot, h.et, h.pq, h.nr, h.ne, h.nt, h.nb, h.b8, h.g8, h.oct, ⟨by rw [upd_ne (Ne.symm h.rr.2.2)]; exact h.rr.1, h.rr.2⟩⟩
theorem getD_set {α : Type} (xs : List α) (b i : Nat) (y d : α) (h : b < xs.length) : (xs.set b y).getD i d = if i = b then y else xs.getD i d := by
  rw [List.getD_eq_getElem?_getD, List.getD_eq_getElem?_getD, List.getElem?_set]
  by_cases e : b = i
  · subst e
    rw [if_pos rfl, if_pos rfl, if_pos h]
    rfl
  · rw [if_neg e, if_neg (Ne.symm e)]
theorem ChipAt.seto {H : Hp} {a dx : Addr} {s : CS} (h : ChipAt K H a dx s) {b : Nat} (hb : b < s.os.length) {r : Addr} {ys : List Int} (hr : H r = some (.tup (IV ys))) (oy : Oct ys) (ly : ys.length = 31 * s.c.pages.toNat) :
    ChipAt K (upd H s.c.o (.lst ((s.rs.map V.ref).set b (.ref r)))) a dx { s with rs := s.rs.set b r, os := s.os.set b ys } := by
  have nd : ∀ {b : Addr} {o : HO}, H b = some o → (∀ z, o ≠ .lst z) → b ≠ s.c.o := fun hb d => ne_of hb h.o (d _)
  refine ⟨?_, ?_, ?_, ?_, ?_, ?_, fun i hi => ?_, h.oe, h.ot, h.et, h.pq, ?_, ?_, ?_, ?_, ?_, h.g8, fun i hi => ?_, ?_, h.rr.2⟩
  · rw [upd_ne (nd h.ins (fun _ z => by cases z))]
    exact h.ins
  · rw [upd_same]
    show some (HO.lst ((s.rs.map V.ref).set b (.ref r))) = some (HO.lst ((s.rs.set b r).map V.ref))
    rw [List.map_set]
  · rw [upd_ne (Ne.symm h.oe)]
    exact h.e
  · rw [upd_ne (Ne.symm h.ot)]
    exact h.t
  · rw [upd_ne (nd h.p (fun _ z => by cases z))]
    exact h.p
  · rw [upd_ne (nd h.q (fun _ z => by cases z))]
    exact h.q
  · have hi' : i < s.os.length := by
      have : i < (s.os.set b ys).length := hi
      rwa [List.length_set] at this
    show upd H s.c.o _ ((s.rs.set b r).getD i 0) = some (.tup (IV ((s.os.set b ys).getD i [])))
    rw [getD_set _ _ _ _ _ (by rw [h.nr]; exact hb), getD_set _ _ _ _ _ hb]
    by_cases e : i = b
    · rw [if_pos e, if_pos e, upd_ne (nd hr (fun _ z => by cases z))]
      exact hr
    · rw [if_neg e, if_neg e, upd_ne (nd (h.tup i hi') (fun _ z => by cases z))]
      exact h.tup i hi'
  · show (s.rs.set b r).length = (s.os.set b ys).length
    rw [List.length_set, List.length_set]
    exact h.nr
  · show s.er.length = (s.os.set b ys).length
    rw [List.length_set]
    exact h.ne
  · show s.tb.length = (s.os.set b ys).length
    rw [List.length_set]
    exact h.nt
  · show s.c.blocks = (s.os.set b ys).length
    rw [List.length_set]
    exact h.nb
  · show (s.os.set b ys).length ≤ 24
    rw [List.length_set]
    exact h.b8
  · have hi' : i < s.os.length := by
      have : i < (s.os.set b ys).length := hi
      rwa [List.length_set] at this
    show Oct ((s.os.set b ys).getD i []) ∧ ((s.os.set b ys).getD i []).length = _
    rw [getD_set _ _ _ _ _ hb]
    by_cases e : i = b
    · rw [if_pos e]
      exact ⟨oy, ly⟩
    · rw [if_neg e]
      exact h.oct i hi'
  · rw [upd_ne (nd h.rr.1 (fun _ z => by cases z))]
    exact h.rr.1
theorem ChipAt.sett {H : Hp} {a dx : Addr} {s : CS} (h : ChipAt K H a dx s) (b : Nat) (v : Bool) : ChipAt K (upd H s.c.t (.lst ((BV s.tb).set b (.bl v)))) a dx { s with tb := s.tb.set b v } := by
  have nd : ∀ {b : Addr} {o : HO}, H b = some o → (∀ z, o ≠ .lst z) → b ≠ s.c.t := fun hb d => ne_of hb h.t (d _)
  exact ⟨by rw [upd_ne (nd h.ins (fun _ z => by cases z))]; exact h.ins, by rw [upd_ne h.ot]; exact h.o, by rw [upd_ne h.et]; exact h.e, by rw [upd_same]; show _ = some (HO.lst ((s.tb.set b v).map V.bl)); rw [List.map_set], by rw [upd_ne (nd h.p (fun _ z => by cases z))]; exact h.p,
    by rw [upd_ne (nd h.q (fun _ z => by cases z))]; exact h.q, fun i hi => by rw [upd_ne (nd (h.tup i hi) (fun _ z => by cases z))]; exact h.tup i hi, h.oe, h.ot, h.et, h.pq, h.nr, h.ne, by show (s.tb.set b v).length = _; rw [List.length_set]; exact h.nt, h.nb, h.b8, h.g8, h.oct, ⟨by rw [upd_ne (nd h.rr.1 (fun _ z => by cases z))]; exact h.rr.1, h.rr.2⟩⟩
theorem drop_none {ks : List (Key × V)} {k : Key} (h : valV ks k = none) : dropK ks k = ks := by
  unfold dropK
  rw [List.filter_eq_self]
  intro p hp
  rw [decide_eq_true_iff]
  intro e
  unfold valV at h
  rw [Option.map_eq_none_iff, List.find?_eq_none] at h
  exact h p hp (by simp [e])
/-- all but the chip's own is as it was -/
def Fr (a : Addr) (c : Cp) (H H' : Hp) : Prop := ∀ x u, x ≠ a → x ≠ c.o → x ≠ c.e → x ≠ c.t → x ≠ c.p → x ≠ c.q → x ≠ c.r → H x = some u → H' x = some u
theorem Fr.ex {a : Addr} {c : Cp} {H H1 H2 : Hp} (f : Fr a c H H1) (e : Evl.Ex H1 H2) : Fr a c H H2 := fun x u n1 n2 n3 n4 n5 n6 n7 h => e _ _ (f x u n1 n2 n3 n4 n5 n6 n7 h)
theorem Fr.at {a y : Addr} {c : Cp} {H H1 : Hp} {o : HO} (f : Fr a c H H1) (hy : y = a ∨ y = c.o ∨ y = c.e ∨ y = c.t ∨ y = c.p ∨ y = c.q ∨ y = c.r) : Fr a c H (upd H1 y o) := fun x u n1 n2 n3 n4 n5 n6 n7 h => by
  have n : x ≠ y := by
    rintro rfl
    rcases hy with e | e | e | e | e | e | e
    · exact n1 e
    · exact n2 e
    · exact n3 e
    · exact n4 e
    · exact n5 e
    · exact n6 e
    · exact n7 e
  rw [upd_ne n]
  exact f x u n1 n2 n3 n4 n5 n6 n7 h
theorem Fr.refl (a : Addr) (c : Cp) (H : Hp) : Fr a c H H := fun _ _ _ _ _ _ _ _ _ h => h
theorem ChipAt.tupK {H H' : Hp} {a dx nw : Addr} {s : CS} {xs : List V} (h : ChipAt K H a dx s) (f : Fr a s.c H H') (hn : H nw = some (.tup xs)) : H' nw = some (.tup xs) :=
  f nw _ (ne_of hn h.ins (fun z => by cases z)) (ne_of hn h.o (fun z => by cases z)) (ne_of hn h.e (fun z => by cases z)) (ne_of hn h.t (fun z => by cases z)) (ne_of hn h.p (fun z => by cases z)) (ne_of hn h.q (fun z => by cases z)) (ne_of hn h.rr.1 (fun z => by cases z)) hn
theorem ChipAt.back {H H' : Hp} {a dx d : Addr} {s : CS} (h : ChipAt K H' a dx s) (f : Fr a s.c H H') (hd : H' d = none) : H d = none := by
  cases z : H d with
  | none => rfl
  | some o =>
    have n : ∀ {x : Addr} {u : HO}, H' x = some u → d ≠ x := fun hx e => by rw [← e, hd] at hx; cases hx
    have := f d o (n h.ins) (n h.o) (n h.e) (n h.t) (n h.p) (n h.q) (n h.rr.1) z
    rw [hd] at this
    cases this
/-- behind the count of an op, its plans gone -/
def CS.begun (s : CS) : CS := { s with c := { s.c with ops := s.c.ops + 1 }, kp := dropK s.kp (Sum.inl s.c.ops : Key), kq := dropK s.kq (Sum.inl s.c.ops : Key) }
def mix (s : CS) (b : Nat) (ns : List Int) (m : Int) : List Int := octetsL (turned (bitsL (s.os.getD b [])) (bitsL ns) m)
def Plan (ks : List (Key × V)) : Prop := ∀ k v, valV ks k = some v → ∃ m : Int, v = .int m ∧ 0 ≤ m ∧ m < MM
def spSetO (K : PySem.W.Frag) : Sp := fun vs H Q _ => ∃ (a dx : Addr) (s : CS) (b : Nat) (r : Addr), vs = [.ref a, .int (b : Int), .ref r] ∧ ChipAt K H a dx s ∧ b < s.os.length ∧ Q .non (upd H s.c.o (.lst ((s.rs.map V.ref).set b (.ref r))))
theorem ok_set_octets (T : Txt K mg) (TC : TxC K) (F : FnM K "_set_octets" "Chip._set_octets" s_Chip___set_octets f fd) : Fg P w K mg base CX0 1 f fd ["self", "block", "octets"] (spSetO K) := by
  refine fg_of F sc_Chip___set_octets (fun vs H Q E h => ?_) (fun cdv A outer s₀ H vs Q E hr h => ⟨_, (PSs.nox (pss_cons (ps_asg (pv 2) (pg_sub (pe_fldU (K := K) (pv 0) rfl) (pv 1) set_list))
  (pss_one (ps_expr (pe_dpop2U (pe_fldU (K := K) (pv 0) rfl) (pv 1) pe_non))))), ?_⟩)
  · obtain ⟨a, dx, s, b, r, rfl, _⟩ := h
    rfl
  · obtain ⟨a, dx, s, b, r, rfl, hc, hb, q⟩ := h
    have br : b < s.rs.length := by rw [hc.nr]; exact hb
    refine ⟨_, rfl, _, rfl, a, _, dx, _, _, rfl, hc.ins, TC.cls, TC.no _ (by simp), rfl, _, rfl, s.c.o, _, _, b, rfl, rfl, hc.o, Evl.ixN_nat (by rw [List.length_map]; exact br), ?_⟩
    have i' : upd H s.c.o (.lst ((s.rs.map V.ref).set b (.ref r))) a = some (.ins (Ch K) dx s.c.fs) := by
      rw [upd_ne (ne_of hc.ins hc.o (fun z => by cases z))]
      exact hc.ins
    have r' : upd H s.c.o (.lst ((s.rs.map V.ref).set b (.ref r))) s.c.r = some (.dK []) := by
      rw [upd_ne (ne_of hc.rr.1 hc.o (fun z => by cases z))]
      exact hc.rr.1
    refine ⟨_, rfl, a, _, dx, _, _, rfl, i', TC.cls, TC.no _ (by simp), rfl, s.c.r, rfl, .inl ⟨_, Rd.of r'⟩, _, rfl, [], (Sum.inl (b : Int) : Key), r', rfl, fun v hv => ?_, fun hv => q⟩
    cases hv
def spDo (K : PySem.W.Frag) (CP : Addr) : Sp := fun vs H Q E => ∃ (a dx : Addr) (s : CS) (b : Nat) (nw : Addr) (ns : List Int), vs = [.ref a, .int (b : Int), .ref nw] ∧ ChipAt K H a dx s ∧ b < s.os.length ∧ H nw = some (.tup (IV ns)) ∧ Oct ns ∧ ns.length = 31 * s.c.pages.toNat ∧ Plan s.kp ∧ Plan s.kq ∧
  (∀ (m : Int) (s' : CS) (d : Addr) (H' : Hp), valV s.kp (Sum.inl s.c.ops : Key) = some (.int m) → Fr a s.c H H' → H d = none → H' d = some (.xd [("op", .int s.c.ops)]) → ChipAt K H' a dx s' →
    (∃ r, s' = (if s.tb.getD b false then { s.begun with c := { s.begun.c with cuts := s.c.cuts + 1 } } else { s.begun with c := { s.begun.c with cuts := s.c.cuts + 1 }, rs := s.rs.set b r, os := s.os.set b (mix s b ns m) })) → E (.ref CP) (some d) H') ∧
  (∀ (s' : CS) (v : Bool) (H' : Hp), valV s.kp (Sum.inl s.c.ops : Key) = none → Fr a s.c H H' → ChipAt K H' a dx s' →
    ((s.tb.getD b false = true ∧ v = false ∧ s' = s.begun) ∨
     (s.tb.getD b false = false ∧ ∃ (m : Int) (r : Addr), valV s.kq (Sum.inl s.c.ops : Key) = some (.int m) ∧ ((badL s.tb).length : Int) < s.c.bad ∧ v = false ∧ s' = { s.begun with rs := s.rs.set b r, os := s.os.set b (mix s b ns m), tb := s.tb.set b true }) ∨
     (s.tb.getD b false = false ∧ ¬ (valV s.kq (Sum.inl s.c.ops : Key) ≠ none ∧ ((badL s.tb).length : Int) < s.c.bad) ∧ v = true ∧ s' = { s.begun with rs := s.rs.set b nw, os := s.os.set b ns })) → Q (.bl v) H')
theorem ok_do_op {fI CP : Addr} (T : Txt K mg) (TC : TxC K) (F : FnM K "_do_op" "Chip._do_op" s_Chip___do_op f fd) (E_PowerCut : MkE P w K mg base "PowerCut" "op" CP fI) (C_changed : Cal P w K mg base CX0 6 "changed" ["old", "new", "mask"] (spChanged K))
    (M_Chip__bad_blocks : CalM P w K mg base CX0 1 (Ch K) "bad_blocks" ["self"] (spBadB K)) (M_Chip___set_octets : CalM P w K mg base CX0 1 (Ch K) "_set_octets" ["self", "block", "octets"] (spSetO K)) :
    Fg P w K mg base (CX P w) 7 f fd ["self", "block", "new"] (spDo K CP) := by
  refine fg_of F sc_Chip___do_op (fun vs H Q E h => ?_) (fun cdv A outer s₀ H vs Q E hr h => ⟨_, ((pss_cons (ps_set (i := 3) sc_Chip___do_op.nd rfl (by first | exact Or.inl rfl | exact Or.inr rfl) (pe_fldU (K := K) (pv 0) rfl))
  (pss_cons (ps_fldaugU (K := K) (pv 0) pe_int in_add)
  (pss_cons (ps_set (i := 4) sc_Chip___do_op.nd rfl (by first | exact Or.inl rfl | exact Or.inr rfl) (pe_dpop2U (pe_fldU (K := K) (pv 0) rfl) (pv 3) pe_non))
  (pss_cons (ps_set (i := 5) sc_Chip___do_op.nd rfl (by first | exact Or.inl rfl | exact Or.inr rfl) (pe_dpop2U (pe_fldU (K := K) (pv 0) rfl) (pv 3) pe_non))
  (pss_cons (ps_if (pt_cmpR op_notN (pv 4) pe_non (nomark _))
  (pss_cons (ps_fldaugU (K := K) (pv 0) pe_int in_add)
  (pss_cons (ps_if (pt_not (pt_tru (K := K) (pe_ix (u_ix (K := K)) (pe_fldU (K := K) (pv 0) rfl) (pv 1) (fun _ _ => rfl)) (by intro _; rfl)))
  (pss_one (ps_expr (pe_calM M_Chip___set_octets hr.le pass0 (pv 0) (pa_cons (pv 1) (pa_cons (pe_cal C_changed hr.le pass0 (pa_cons (pe_ix (u_ix (K := K)) (pe_fldU (K := K) (pv 0) rfl) (pv 1) (fun _ _ => rfl)) (pa_cons (pv 2) (pa_cons (pv 4) pa_nil)))) pa_nil))))) pss_nil)
  (pss_one (ps_raiseE E_PowerCut hr (takes_of rfl rfl rfl rfl) rfl (pa_cons (pv 3) pa_nil))))) pss_nil)
  (pss_cons (ps_if (pt_tru (K := K) (pe_ix (u_ix (K := K)) (pe_fldU (K := K) (pv 0) rfl) (pv 1) (fun _ _ => rfl)) (by intro _; rfl))
  (pss_one (ps_ret pe_bl)) pss_nil)
  (pss_cons (ps_if (PW.pt (pw_and (pt_cmpR op_notN (pv 5) pe_non (nomark _)) (pw_and1 (pt_cmpR op_lt (pe_callB (u_len (K := K)) (by rfl) T.f_len (by decide +kernel) (pa_cons (pe_calM0 M_Chip__bad_blocks hr.le pass0 (pv 0)) pa_nil)) (pe_fldU (K := K) (pv 0) rfl) (nomark _)))))
  (pss_cons (ps_expr (pe_calM M_Chip___set_octets hr.le pass0 (pv 0) (pa_cons (pv 1) (pa_cons (pe_cal C_changed hr.le pass0 (pa_cons (pe_ix (u_ix (K := K)) (pe_fldU (K := K) (pv 0) rfl) (pv 1) (fun _ _ => rfl)) (pa_cons (pv 2) (pa_cons (pv 5) pa_nil)))) pa_nil))))
  (pss_cons (ps_asg pe_bl (pg_sub (pe_fldU (K := K) (pv 0) rfl) (pv 1) set_list))
  (pss_one (ps_ret pe_bl)))) pss_nil)
  (pss_cons (ps_expr (pe_calM M_Chip___set_octets hr.le pass0 (pv 0) (pa_cons (pv 1) (pa_cons (pv 2) pa_nil))))
  (pss_one (ps_ret pe_bl))))))))))), ?_⟩)
  · obtain ⟨a, dx, s, b, nw, ns, rfl, _⟩ := h
    rfl
  · obtain ⟨a, dx, s, b, nw, ns, rfl, hc, hb, hn, on, ln, pl, ql, qE, qQ⟩ := h
    have tail : ∀ (v4 v5 : V) (H3 : Hp), v4 = ((valV s.kp (Sum.inl s.c.ops : Key)).getD .non) → v5 = ((valV s.kq (Sum.inl s.c.ops : Key)).getD .non) → Fr a s.c H H3 → ChipAt K H3 a dx s.begun →
        (tSeq (tIfS (tTest (tOp (fun x y H Q => y = V.non ∧ Q (V.bl !decide (x = V.non)) H) (tVar 4) (tC V.non))) (tSeq (sFldAug K (tVar 0) (tC (V.int 1)) rAdd (Str.ofString "cuts")) (tSeq (tIfS (tNot (tTru K (tOp (rIx K) (tFld K (tVar 0) (Str.ofString "_turned_bad")) (tVar 1)))) (tDrop (tMeth (Ch K) (Str.ofString "_set_octets") (spSetO K) [] E0 (tVar 0) (tCons (tVar 1) (tCons (tCall (spChanged K) [] E0 (tCons (tOp (rIx K) (tFld K (tVar 0) (Str.ofString "_octets")) (tVar 1)) (tCons (tVar 2) (tCons (tVar 4) tNil)))) tNil)))) tNext) fun x σ H_1 => tMkO CP (spInit K (Str.ofString "op")) [] (tCons (tVar 3) tNil) σ H_1 fun cls d H' => E cls d H')) tNext) (tSeq (tIfS (tTru K (tOp (rIx K) (tFld K (tVar 0) (Str.ofString "_turned_bad")) (tVar 1))) (tRet (tC (V.bl false))) tNext) (tSeq (tIfS (tAnd (tTest (tOp (fun x y H Q => y = V.non ∧ Q (V.bl !decide (x = V.non)) H) (tVar 5) (tC V.non))) (tTest (tOp (rI0 fun i j => V.bl (decide (i < j))) (tCB (rLenU K) (tCons (tMeth (Ch K) (Str.ofString "bad_blocks") (spBadB K) [] E0 (tVar 0) tNil) tNil)) (tFld K (tVar 0) (Str.ofString "bad"))))) (tSeq (tDrop (tMeth (Ch K) (Str.ofString "_set_octets") (spSetO K) [] E0 (tVar 0) (tCons (tVar 1) (tCons (tCall (spChanged K) [] E0 (tCons (tOp (rIx K) (tFld K (tVar 0) (Str.ofString "_octets")) (tVar 1)) (tCons (tVar 2) (tCons (tVar 5) tNil)))) tNil)))) (tSeq (tAsg (tC (V.bl true)) (gSub (tFld K (tVar 0) (Str.ofString "_turned_bad")) (tVar 1) rSetL)) (tRet (tC (V.bl false))))) tNext) (tSeq (tDrop (tMeth (Ch K) (Str.ofString "_set_octets") (spSetO K) [] E0 (tVar 0) (tCons (tVar 1) (tCons (tVar 2) tNil)))) (tRet (tC (V.bl true))))))) { nx := fun x H' => Q V.non H', rt := Q } [some (.ref a), some (.int (b : Int)), some (.ref nw), some (.int s.c.ops), some v4, some v5] H3 := by
      intro v4 v5 H3 e4 e5 fr h3
      have hn3 := hc.tupK fr hn
      have bt : b < s.tb.length := by rw [hc.nt]; exact hb
      have br : b < s.rs.length := by rw [hc.nr]; exact hb
      have o31 := hc.oct b hb
      have g8 := hc.g8
      have l5 : (s.os.getD b []).length ≤ 700 := by rw [o31.2]; omega
      have lm : ∀ m : Int, Oct (mix s b ns m) ∧ (mix s b ns m).length = 31 * s.c.pages.toNat := by
        intro m
        have lb : (bitsL (s.os.getD b [])).length = (bitsL ns).length := by rw [bitsL_len, bitsL_len, o31.2, ln]
        have sp := octetsL_spec (n := (s.os.getD b []).length) (bs := turned (bitsL (s.os.getD b [])) (bitsL ns) m) (by rw [turned_len _ _ _ lb, bitsL_len]) (turned_bit _ _ _ (bitsL_bit _) (bitsL_bit _))
        exact ⟨sp.2.1, sp.2.2.trans o31.2⟩
      cases hp : valV s.kp (Sum.inl s.c.ops : Key) with
      | some v =>
        obtain ⟨m, rfl, m0, m1⟩ := pl _ _ hp
        rw [hp] at e4
        have e4 : v4 = .int m := e4
        subst e4
        refine ⟨_, rfl, rfl, _, rfl, ?_⟩
        rw [decide_eq_false (show ¬ (V.int m = V.non) from fun z => by cases z)]
        refine iteT ⟨_, rfl, a, _, dx, _, _, rfl, h3.ins, TC.cls, TC.no _ (by simp), rfl, _, _, rfl, rfl, dx, _, h3.ins, by show 11 < 1000; decide, ?_⟩
        rw [put_cuts]
        have h4 := h3.setc { s.begun.c with cuts := s.begun.c.cuts + 1 } rfl rfl rfl rfl rfl rfl rfl rfl
        have f4 : Fr a s.c H (upd H3 a (.ins (Ch K) dx ({ s.begun.c with cuts := s.begun.c.cuts + 1 } : Cp).fs)) := fr.at (.inl rfl)
        generalize upd H3 a (.ins (Ch K) dx ({ s.begun.c with cuts := s.begun.c.cuts + 1 } : Cp).fs) = H4 at h4 f4 ⊢
        refine ⟨_, rfl, a, _, dx, _, _, rfl, h4.ins, TC.cls, TC.no _ (by simp), rfl, _, rfl, Sv.ix (x := .non) (Sv.lst h4.t) (i := (b : Int)) (bv_at bt) ⟨_, rfl, ?_⟩⟩
        cases hv : s.tb.getD b false with
        | true =>
          have hv' : s.begun.tb.getD b false = true := hv
          rw [hv']
          refine iteF ⟨_, rfl, made E_PowerCut.err.oex E_PowerCut.err.noG fun d nd => qE m _ d _ hp (f4.ex (Evl.Ex.new nd)) (h4.back f4 nd) upd_same (h4.ex (Evl.Ex.new nd)) ⟨0, ?_⟩⟩
          rw [hv]
          rfl
        | false =>
          have hv' : s.begun.tb.getD b false = false := hv
          rw [hv']
          have hn4 := hc.tupK f4 hn
          refine iteT ⟨_, rfl, a, dx, _, rfl, h4.ins, rfl, _, rfl, _, rfl, a, _, dx, _, _, rfl, h4.ins, TC.cls, TC.no _ (by simp), rfl, _, rfl, tup_ix h4.o br ⟨_, rfl, _, rfl, _, nw, _, ns, true, true, m, rfl, Sv.tup (h4.tup b hb), Sv.tup hn4, o31.1, on, o31.2.trans ln.symm, l5, m0, m1, fun r H5 nr e5' hr5 => ?_⟩⟩
          have h5 := h4.ex e5'
          have f5 := f4.ex e5'
          refine ⟨a, dx, _, b, r, rfl, h5, hb, ?_⟩
          have h6 := h5.seto hb hr5 (lm m).1 (lm m).2
          have f6 := f5.at (o := .lst ((s.rs.map V.ref).set b (.ref r))) (.inr (.inl rfl))
          refine ⟨_, rfl, made E_PowerCut.err.oex E_PowerCut.err.noG fun d nd => qE m _ d _ hp (f6.ex (Evl.Ex.new nd)) (h6.back f6 nd) upd_same (h6.ex (Evl.Ex.new nd)) ⟨r, ?_⟩⟩
          rw [hv]
          rfl
      | none =>
        rw [hp] at e4
        have e4 : v4 = .non := e4
        subst e4
        refine ⟨_, rfl, rfl, _, rfl, ?_⟩
        rw [decide_eq_true (show V.non = V.non from rfl)]
        refine iteF ⟨_, rfl, a, _, dx, _, _, rfl, h3.ins, TC.cls, TC.no _ (by simp), rfl, _, rfl, Sv.ix (x := .non) (Sv.lst h3.t) (i := (b : Int)) (bv_at bt) ⟨_, rfl, ?_⟩⟩
        cases hv : s.tb.getD b false with
        | true =>
          have hv' : s.begun.tb.getD b false = true := hv
          rw [hv']
          exact iteT (qQ _ false _ hp fr h3 (.inl ⟨hv, rfl, rfl⟩))
        | false =>
          have hv' : s.begun.tb.getD b false = false := hv
          rw [hv']
          refine iteF ?_
          have lasts : ∀ (v5' : V) (H4 : Hp), Evl.Ex H3 H4 → ¬ (valV s.kq (Sum.inl s.c.ops : Key) ≠ none ∧ ((badL s.tb).length : Int) < s.c.bad) →
              tSeq (tDrop (tMeth (Ch K) (Str.ofString "_set_octets") (spSetO K) [] E0 (tVar 0) (tCons (tVar 1) (tCons (tVar 2) tNil)))) (tRet (tC (V.bl true))) { nx := fun x H' => Q V.non H', rt := Q } [some (.ref a), some (.int (b : Int)), some (.ref nw), some (.int s.c.ops), some V.non, some v5'] H4 := by
            intro v5' H4 e4' hno
            have h4 := h3.ex e4'
            have f4 := fr.ex e4'
            refine ⟨_, rfl, a, dx, _, rfl, h4.ins, rfl, _, rfl, _, rfl, a, dx, _, b, nw, rfl, h4, hb, ?_⟩
            exact qQ _ true _ hp (f4.at (.inr (.inl rfl))) (h4.seto hb (hc.tupK f4 hn) on ln) (.inr (.inr ⟨hv, hno, rfl, rfl⟩))
          cases hq : valV s.kq (Sum.inl s.c.ops : Key) with
          | none =>
            rw [hq] at e5
            have e5 : v5 = .non := e5
            subst e5
            refine ⟨_, rfl, rfl, _, rfl, ?_⟩
            rw [decide_eq_true (show V.non = V.non from rfl)]
            exact iteF (lasts _ H3 (Evl.Ex.refl _) (fun z => z.1 hq))
          | some v =>
            obtain ⟨m, rfl, m0, m1⟩ := ql _ _ hq
            rw [hq] at e5
            have e5 : v5 = .int m := e5
            subst e5
            refine ⟨_, rfl, rfl, _, rfl, ?_⟩
            rw [decide_eq_false (show ¬ (V.int m = V.non) from fun z => by cases z)]
            refine iteT ⟨_, rfl, a, dx, _, rfl, h3.ins, rfl, a, s.begun.c, s.begun.tb, rfl, ⟨dx, h3.ins⟩, by rw [h3.nt]; exact h3.nb, by rw [h3.nt]; exact h3.b8, h3.t, fun D H4 nD e4' hD => ?_⟩
            have h4 := h3.ex e4'
            refine ⟨_, _, rfl, .inl ⟨_, SqL.of hD, rfl⟩, _, rfl, a, _, dx, _, _, rfl, h4.ins, TC.cls, TC.no _ (by simp), rfl, _, _, rfl, rfl, _, rfl, ?_⟩
            rw [iv_len]
            by_cases hlt : ((badL s.tb).length : Int) < s.c.bad
            · have hlt' : ((badL s.begun.tb).length : Int) < s.begun.c.bad := hlt
              rw [decide_eq_true hlt']
              have f4 := fr.ex e4'
              have hn4 := hc.tupK f4 hn
              refine iteT ⟨_, rfl, a, dx, _, rfl, h4.ins, rfl, _, rfl, _, rfl, a, _, dx, _, _, rfl, h4.ins, TC.cls, TC.no _ (by simp), rfl, _, rfl, tup_ix h4.o br ⟨_, rfl, _, rfl, _, nw, _, ns, true, true, m, rfl, Sv.tup (h4.tup b hb), Sv.tup hn4, o31.1, on, o31.2.trans ln.symm, l5, m0, m1, fun r H5 nr e5' hr5 => ?_⟩⟩
              have h5 := h4.ex e5'
              have f5 := f4.ex e5'
              refine ⟨a, dx, _, b, r, rfl, h5, hb, ?_⟩
              have h6 := h5.seto hb hr5 (lm m).1 (lm m).2
              have f6 := f5.at (o := .lst ((s.rs.map V.ref).set b (.ref r))) (.inr (.inl rfl))
              refine ⟨_, rfl, a, _, dx, _, _, rfl, h6.ins, TC.cls, TC.no _ (by simp), rfl, _, rfl, s.c.t, _, _, b, rfl, rfl, h6.t, Evl.ixN_nat (by rw [List.length_map]; exact bt), ?_⟩
              exact qQ _ false _ hp (f6.at (.inr (.inr (.inr (.inl rfl))))) (h6.sett b true) (.inr (.inl ⟨hv, m, r, hq, hlt, rfl, rfl⟩))
            · have hlt' : ¬ ((badL s.begun.tb).length : Int) < s.begun.c.bad := hlt
              rw [decide_eq_false hlt']
              exact iteF (lasts _ H4 e4' (fun z => hlt z.2))
    have mid : ∀ (v4 : V) (H2 : Hp), v4 = ((valV s.kp (Sum.inl s.c.ops : Key)).getD .non) → Fr a s.c H H2 → ChipAt K H2 a dx { s with c := { s.c with ops := s.c.ops + 1 }, kp := dropK s.kp (Sum.inl s.c.ops : Key) } →
        (tSeq (tAsg (tDPop2 (tFld K (tVar 0) (Str.ofString "_fail_plans")) (tVar 3) (tC V.non)) (gName 5)) (tSeq (tIfS (tTest (tOp (fun x y H Q => y = V.non ∧ Q (V.bl !decide (x = V.non)) H) (tVar 4) (tC V.non))) (tSeq (sFldAug K (tVar 0) (tC (V.int 1)) rAdd (Str.ofString "cuts")) (tSeq (tIfS (tNot (tTru K (tOp (rIx K) (tFld K (tVar 0) (Str.ofString "_turned_bad")) (tVar 1)))) (tDrop (tMeth (Ch K) (Str.ofString "_set_octets") (spSetO K) [] E0 (tVar 0) (tCons (tVar 1) (tCons (tCall (spChanged K) [] E0 (tCons (tOp (rIx K) (tFld K (tVar 0) (Str.ofString "_octets")) (tVar 1)) (tCons (tVar 2) (tCons (tVar 4) tNil)))) tNil)))) tNext) fun x σ H_1 => tMkO CP (spInit K (Str.ofString "op")) [] (tCons (tVar 3) tNil) σ H_1 fun cls d H' => E cls d H')) tNext) (tSeq (tIfS (tTru K (tOp (rIx K) (tFld K (tVar 0) (Str.ofString "_turned_bad")) (tVar 1))) (tRet (tC (V.bl false))) tNext) (tSeq (tIfS (tAnd (tTest (tOp (fun x y H Q => y = V.non ∧ Q (V.bl !decide (x = V.non)) H) (tVar 5) (tC V.non))) (tTest (tOp (rI0 fun i j => V.bl (decide (i < j))) (tCB (rLenU K) (tCons (tMeth (Ch K) (Str.ofString "bad_blocks") (spBadB K) [] E0 (tVar 0) tNil) tNil)) (tFld K (tVar 0) (Str.ofString "bad"))))) (tSeq (tDrop (tMeth (Ch K) (Str.ofString "_set_octets") (spSetO K) [] E0 (tVar 0) (tCons (tVar 1) (tCons (tCall (spChanged K) [] E0 (tCons (tOp (rIx K) (tFld K (tVar 0) (Str.ofString "_octets")) (tVar 1)) (tCons (tVar 2) (tCons (tVar 5) tNil)))) tNil)))) (tSeq (tAsg (tC (V.bl true)) (gSub (tFld K (tVar 0) (Str.ofString "_turned_bad")) (tVar 1) rSetL)) (tRet (tC (V.bl false))))) tNext) (tSeq (tDrop (tMeth (Ch K) (Str.ofString "_set_octets") (spSetO K) [] E0 (tVar 0) (tCons (tVar 1) (tCons (tVar 2) tNil)))) (tRet (tC (V.bl true)))))))) { nx := fun x H' => Q V.non H', rt := Q } [some (.ref a), some (.int (b : Int)), some (.ref nw), some (.int s.c.ops), some v4, none] H2 := by
      intro v4 H2 e4 fr h2
      refine ⟨_, rfl, a, _, dx, _, _, rfl, h2.ins, TC.cls, TC.no _ (by simp), rfl, s.c.q, rfl, .inl ⟨_, Rd.of h2.q⟩, _, rfl, s.kq, (Sum.inl s.c.ops : Key), h2.q, rfl, fun v hv => ?_, fun hv => ?_⟩
      · exact tail v4 v _ e4 (by rw [hv]; rfl) (fr.at (.inr (.inr (.inr (.inr (.inr (.inl rfl))))))) (h2.setq _)
      · refine tail v4 .non _ e4 (by rw [hv]; rfl) fr ?_
        unfold CS.begun
        rw [drop_none hv]
        exact h2
    refine ⟨_, rfl, a, _, dx, _, _, rfl, hc.ins, TC.cls, TC.no _ (by simp), rfl, ?_⟩
    refine ⟨_, rfl, a, _, dx, _, _, rfl, hc.ins, TC.cls, TC.no _ (by simp), rfl, _, _, rfl, rfl, dx, _, hc.ins, by show 11 < 1000; decide, ?_⟩
    rw [put_ops]
    have h1 := hc.setc { s.c with ops := s.c.ops + 1 } rfl rfl rfl rfl rfl rfl rfl rfl
    have f1 : Fr a s.c H (upd H a (.ins (Ch K) dx ({ s.c with ops := s.c.ops + 1 } : Cp).fs)) := (Fr.refl a s.c H).at (.inl rfl)
    refine ⟨_, rfl, a, _, dx, _, _, rfl, h1.ins, TC.cls, TC.no _ (by simp), rfl, s.c.p, rfl, .inl ⟨_, Rd.of h1.p⟩, _, rfl, s.kp, (Sum.inl s.c.ops : Key), h1.p, rfl, fun v hv => ?_, fun hv => ?_⟩
    · exact mid v _ (by rw [hv]; rfl) (f1.at (.inr (.inr (.inr (.inr (.inl rfl)))))) (h1.setp _)
    · refine mid .non _ (by rw [hv]; rfl) f1 ?_
      rw [drop_none hv]
      exact h1
end
end K10
namespace K10
open PySem PySem.Spec PyProof.Rows L2 VB BM
section
variable {P : Program} {w : World} {K : PySem.W.Frag} {mg : Str → Option Value} {base : Heap} {f : Addr} {fd : FuncData}
theorem Fr.trans {a : Addr} {c : Cp} {H H1 H2 : Hp} (f : Fr a c H H1) (g : Fr a c H1 H2) : Fr a c H H2 := fun x u n1 n2 n3 n4 n5 n6 n7 h => g x u n1 n2 n3 n4 n5 n6 n7 (f x u n1 n2 n3 n4 n5 n6 n7 h)
/-- what comes of an op that is to make these a block's octets -/
def Ends (K : PySem.W.Frag) (CP a dx : Addr) (s : CS) (b : Nat) (ns : List Int) (H : Hp) (Q : VK) (E : XK) : Prop :=
  (∀ (m : Int) (s' : CS) (d : Addr) (H' : Hp), valV s.kp (Sum.inl s.c.ops : Key) = some (.int m) → Fr a s.c H H' → H d = none → H' d = some (.xd [("op", .int s.c.ops)]) → ChipAt K H' a dx s' →
    (∃ r, s' = (if s.tb.getD b false then { s.begun with c := { s.begun.c with cuts := s.c.cuts + 1 } } else { s.begun with c := { s.begun.c with cuts := s.c.cuts + 1 }, rs := s.rs.set b r, os := s.os.set b (mix s b ns m) })) → E (.ref CP) (some d) H') ∧
  (∀ (s' : CS) (v : Bool) (H' : Hp), valV s.kp (Sum.inl s.c.ops : Key) = none → Fr a s.c H H' → ChipAt K H' a dx s' → (∃ nw : Addr,
    ((s.tb.getD b false = true ∧ v = false ∧ s' = s.begun) ∨
     (s.tb.getD b false = false ∧ ∃ (m : Int) (r : Addr), valV s.kq (Sum.inl s.c.ops : Key) = some (.int m) ∧ ((badL s.tb).length : Int) < s.c.bad ∧ v = false ∧ s' = { s.begun with rs := s.rs.set b r, os := s.os.set b (mix s b ns m), tb := s.tb.set b true }) ∨
     (s.tb.getD b false = false ∧ ¬ (valV s.kq (Sum.inl s.c.ops : Key) ≠ none ∧ ((badL s.tb).length : Int) < s.c.bad) ∧ v = true ∧ s' = { s.begun with rs := s.rs.set b nw, os := s.os.set b ns }))) → Q (.bl v) H')
/-- an op's promise from a later heap -/
theorem Ends.op {CP a dx : Addr} {s : CS} {b : Nat} {nw : Addr} {ns : List Int} {H H1 : Hp} {Q : VK} {E : XK} (q : Ends K CP a dx s b ns H Q E) (f : Fr a s.c H H1) (h : ChipAt K H1 a dx s) (hb : b < s.os.length) (hn : H1 nw = some (.tup (IV ns))) (on : Oct ns) (ln : ns.length = 31 * s.c.pages.toNat) (pl : Plan s.kp) (ql : Plan s.kq) :
    spDo K CP [.ref a, .int (b : Int), .ref nw] H1 Q E :=
  ⟨a, dx, s, b, nw, ns, rfl, h, hb, hn, on, ln, pl, ql, fun m s' d H' h1 f' hd h2 h3 h4 => q.1 m s' d H' h1 (f.trans f') (h.back f hd) h2 h3 h4, fun s' v H' h1 f' h2 h3 => q.2 s' v H' h1 (f.trans f') h2 ⟨nw, h3⟩⟩
def CS.erased (s : CS) (b : Nat) : CS := if s.tb.getD b false = true then s else { s with er := s.er.set b (s.er.getD b 0 + 1) }
theorem ChipAt.sete {H : Hp} {a dx : Addr} {s : CS} (h : ChipAt K H a dx s) (b : Nat) (v : Int) : ChipAt K (upd H s.c.e (.lst (IV (s.er.set b v)))) a dx { s with er := s.er.set b v } := by
  have nd : ∀ {b : Addr} {o : HO}, H b = some o → (∀ z, o ≠ .lst z) → b ≠ s.c.e := fun hb d => ne_of hb h.e (d _)
  exact ⟨by rw [upd_ne (nd h.ins (fun _ z => by cases z))]; exact h.ins, by rw [upd_ne h.oe]; exact h.o, upd_same, by rw [upd_ne (Ne.symm h.et)]; exact h.t, by rw [upd_ne (nd h.p (fun _ z => by cases z))]; exact h.p,
    by rw [upd_ne (nd h.q (fun _ z => by cases z))]; exact h.q, fun i hi => by rw [upd_ne (nd (h.tup i hi) (fun _ z => by cases z))]; exact h.tup i hi, h.oe, h.ot, h.et, h.pq, h.nr, by show (s.er.set b v).length = _; rw [List.length_set]; exact h.ne, h.nt, h.nb, h.b8, h.g8, h.oct, ⟨by rw [upd_ne (nd h.rr.1 (fun _ z => by cases z))]; exact h.rr.1, h.rr.2⟩⟩
def spEr (K : PySem.W.Frag) (CP : Addr) : Sp := fun vs H Q E => ∃ (a dx : Addr) (s : CS) (b : Nat), vs = [.ref a, .int (b : Int)] ∧ ChipAt K H a dx s ∧ b < s.os.length ∧ Plan s.kp ∧ Plan s.kq ∧ Ends K CP a dx (s.erased b) b (List.replicate (31 * s.c.pages.toNat) 255) H Q E
theorem ok_erase {CP : Addr} (T : Txt K mg) (TC : TxC K) (F : FnM K "erase" "Chip.erase" s_Chip__erase f fd) (M_Chip___check_block : CalM P w K mg base CX0 3 (Ch K) "_check_block" ["self", "block"] (spChkB K))
    (C__clean_block : Cal P w K mg base CX0 1 "_clean_block" ["pages"] spCB) (M_Chip___do_op : CalM P w K mg base (CX P w) 7 (Ch K) "_do_op" ["self", "block", "new"] (spDo K CP)) :
    Fg P w K mg base (CX P w) 8 f fd ["self", "block"] (spEr K CP) := by
  refine fg_of F sc_Chip__erase (fun vs H Q E h => ?_) (fun cdv A outer s₀ H vs Q E hr h => ⟨_, ((pss_cons (ps_expr (pe_calM M_Chip___check_block hr.le pass0 (pv 0) (pa_cons (pv 1) pa_nil)))
  (pss_cons (ps_if (pt_not (pt_tru (K := K) (pe_ix (u_ix (K := K)) (pe_fldU (K := K) (pv 0) rfl) (pv 1) (fun _ _ => rfl)) (by intro _; rfl)))
  (pss_one (ps_augS (pe_fldU (K := K) (pv 0) rfl) (pv 1) (get_list (K := K)) pe_int ip_add set_list)) pss_nil)
  (pss_one (ps_ret (pe_calM M_Chip___do_op hr.le (passes_call (takes_of rfl rfl rfl rfl) (fun _ _ _ _ h => h)) (pv 0) (pa_cons (pv 1) (pa_cons (pe_cal C__clean_block hr.le pass0 (pa_cons (pe_fldU (K := K) (pv 0) rfl) pa_nil)) pa_nil)))))))), ?_⟩)
  · obtain ⟨a, dx, s, b, rfl, _⟩ := h
    rfl
  · obtain ⟨a, dx, s, b, rfl, hc, hb, pl, ql, q⟩ := h
    have bt : b < s.tb.length := by rw [hc.nt]; exact hb
    have be : b < s.er.length := by rw [hc.ne]; exact hb
    have eb : (s.erased b).os = s.os ∧ (s.erased b).c = s.c ∧ (s.erased b).kp = s.kp ∧ (s.erased b).kq = s.kq := by
      unfold CS.erased
      split <;> exact ⟨rfl, rfl, rfl, rfl⟩
    have rest : ∀ H2 : Hp, Fr a s.c H H2 → ChipAt K H2 a dx (s.erased b) → (tRet
        (tMeth (Ch K) (Str.ofString "_do_op") (spDo K CP) [] E (tVar 0)
          (tCons (tVar 1) (tCons (tCall spCB [] E0 (tCons (tFld K (tVar 0) (Str.ofString "pages")) tNil)) tNil)))) { nx := fun x H' => Q V.non H', rt := Q } [some (.ref a), some (.int (b : Int))] H2 := by
      intro H2 f2 h2
      have g8 := hc.g8
      have i2 : H2 a = some (.ins (Ch K) dx s.c.fs) := by rw [← eb.2.1]; exact h2.ins
      refine ⟨_, rfl, a, dx, _, rfl, i2, rfl, _, rfl, _, rfl, a, _, dx, _, _, rfl, i2, TC.cls, TC.no _ (by simp), rfl, s.c.pages.toNat, ?_, by omega, by omega, fun r H3 nr e3 hr3 => ?_⟩
      · show [V.int s.c.pages] = [V.int ((s.c.pages.toNat : Nat) : Int)]
        rw [show ((s.c.pages.toNat : Nat) : Int) = s.c.pages by omega]
      · exact Ends.op q (by rw [eb.2.1]; exact f2.ex e3) (h2.ex e3) (by rw [eb.1]; exact hb) hr3 (fun z hz => by rw [List.eq_of_mem_replicate hz]; omega) (by rw [List.length_replicate, eb.2.1]) (by rw [eb.2.2.1]; exact pl) (by rw [eb.2.2.2]; exact ql)
    refine ⟨_, rfl, a, dx, _, rfl, hc.ins, rfl, _, rfl, a, s.c, (b : Int), rfl, ⟨dx, hc.ins⟩, by omega, by rw [hc.nb]; omega, fun H1 e1 => ?_⟩
    have h1 := hc.ex e1
    have f1 : Fr a s.c H H1 := (Fr.refl a s.c H).ex e1
    refine ⟨_, rfl, a, _, dx, _, _, rfl, h1.ins, TC.cls, TC.no _ (by simp), rfl, _, rfl, Sv.ix (x := .non) (Sv.lst h1.t) (i := (b : Int)) (bv_at bt) ⟨_, rfl, ?_⟩⟩
    cases hv : s.tb.getD b false with
    | true =>
      refine iteF (rest H1 f1 ?_)
      unfold CS.erased
      rw [if_pos hv]
      exact h1
    | false =>
      refine iteT ⟨_, rfl, a, _, dx, _, _, rfl, h1.ins, TC.cls, TC.no _ (by simp), rfl, _, rfl, s.c.e, IV s.er, b, .int (s.er.getD b 0), rfl, rfl, SqL.of h1.e, ?_, by have := hc.b8; omega, ?_⟩
      · rw [List.getElem?_map, getD_get be]
        rfl
      refine ⟨_, _, rfl, rfl, s.c.e, _, _, b, rfl, rfl, h1.e, Evl.ixN_nat (by rw [iv_len]; exact be), ?_⟩
      have es : (IV s.er).set b (V.int (s.er.getD b 0 + 1)) = IV (s.er.set b (s.er.getD b 0 + 1)) := List.map_set.symm
      rw [es]
      refine rest _ (f1.at (.inr (.inr (.inl rfl)))) ?_
      unfold CS.erased
      rw [if_neg (by rw [hv]; exact Bool.false_ne_true)]
      exact h1.sete b _
end
end K10
namespace K10
open PySem PySem.Spec PyProof.Rows L2 VB BM
section
variable {P : Program} {w : World} {K : PySem.W.Frag} {mg : Str → Option Value} {base : Heap} {f : Addr} {fd : FuncData}
theorem catA {H : Hp} {a b : Addr} {xs ys : List V} {Q : VK} (ha : H a = some (.tup xs)) (hb : H b = some (.tup ys)) (hl : xs.length + ys.length ≤ 10000) (q : ∀ r H', Evl.Ex H H' → H' r = some (.tup (xs ++ ys)) → Q (.ref r) H') : rAddA K (.ref a) (.ref b) H Q := by
  refine .inr ⟨a, b, xs, ys, rfl, rfl, SqT.of ha, SqT.of hb, Evl.sz_of (by omega), fun e => q b H (Evl.Ex.refl _) ?_, fun _ e => q a H (Evl.Ex.refl _) ?_, fun _ _ p hp => q p _ (Evl.Ex.new hp) upd_same⟩
  · rw [e]
    exact hb
  · rw [e, List.append_nil]
    exact ha
theorem cut_nn {O : List Int} {i j : Nat} (hi : i ≤ O.length) (hj : j ≤ O.length) : cutV (IV O) (some (i : Int)) (some (j : Int)) = IV ((O.drop i).take (j - i)) := by
  unfold cutV
  have m1 : min i (IV O).length = i := by rw [iv_len]; omega
  have m2 : min j (IV O).length = j := by rw [iv_len]; omega
  rw [HT.sIx_nat, HT.sIx_nat, m1, m2, ← List.map_drop, ← List.map_take]
theorem cut_n0 {O : List Int} {j : Nat} (hj : j ≤ O.length) : cutV (IV O) none (some (j : Int)) = IV (O.take j) := by
  unfold cutV
  have m2 : min j (IV O).length = j := by rw [iv_len]; omega
  have e0 : HT.sIx (IV O).length 0 none = 0 := rfl
  rw [HT.sIx_nat, m2, e0, List.drop_zero, Nat.sub_zero, ← List.map_take]
theorem cut_0n {O : List Int} {i : Nat} (hi : i ≤ O.length) : cutV (IV O) (some (i : Int)) none = IV (O.drop i) := by
  unfold cutV
  have m1 : min i (IV O).length = i := by rw [iv_len]; omega
  have e0 : HT.sIx (IV O).length (IV O).length none = (IV O).length := rfl
  rw [HT.sIx_nat, m1, e0, ← List.map_drop, ← List.map_take, List.take_of_length_le (by rw [List.length_drop, iv_len]; exact Nat.le_refl _)]
/-- a page of a block, written -/
def wrote (os ws : List Int) (p : Nat) : List Int := os.take (31 * p) ++ (both Builtin.bitAnd ((os.drop (31 * p)).take 31) ws ++ os.drop (31 * p + 31))
def spWr (K : PySem.W.Frag) (CP : Addr) : Sp := fun vs H Q E => ∃ (a dx : Addr) (s : CS) (b p : Nat) (w : Addr) (ws : List Int) (t : Bool), vs = [.ref a, .int (b : Int), .int (p : Int), .ref w] ∧ ChipAt K H a dx s ∧ b < s.os.length ∧ (p : Int) < s.c.pages ∧ Sv t K H w (IV ws) ∧ Oct ws ∧ ws.length = 31 ∧ Plan s.kp ∧ Plan s.kq ∧
  Ends K CP a dx s b (wrote (s.os.getD b []) ws p) H Q E
theorem ok_write {CP : Addr} (T : Txt K mg) (TC : TxC K) (F : FnM K "write" "Chip.write" s_Chip__write f fd) (M_Chip___check_block : CalM P w K mg base CX0 3 (Ch K) "_check_block" ["self", "block"] (spChkB K))
    (M_Chip___check_page : CalM P w K mg base CX0 3 (Ch K) "_check_page" ["self", "page"] (spChkP K)) (C_is_octets_of : Cal P w K mg base CX0 4 "is_octets_of" ["value", "count"] (spOctOf K)) (M_Chip___do_op : CalM P w K mg base (CX P w) 7 (Ch K) "_do_op" ["self", "block", "new"] (spDo K CP)) :
    Fg P w K mg base (CX P w) 8 f fd ["self", "block", "page", "octets"] (spWr K CP) := by
  refine fg_of F sc_Chip__write (fun vs H Q E h => ?_) (fun cdv A outer s₀ H vs Q E hr h => ⟨_, ((pss_cons (ps_expr (pe_calM M_Chip___check_block hr.le pass0 (pv 0) (pa_cons (pv 1) pa_nil)))
  (pss_cons (ps_expr (pe_calM M_Chip___check_page hr.le pass0 (pv 0) (pa_cons (pv 2) pa_nil)))
  (pss_cons (ps_if (pt_not (pt_tru (K := K) (pe_cal C_is_octets_of hr.le pass0 (pa_cons (pv 3) (pa_cons (pe_globI rfl T.g_PAGE_OCTETS) pa_nil))) (by intro _; rfl)))
  (pss_one ps_never) pss_nil)
  (pss_cons (ps_set (i := 4) sc_Chip__write.nd rfl (by first | exact Or.inl rfl | exact Or.inr rfl) (pe_op (u_mul (K := K)) (pv 2) (pe_globI rfl T.g_PAGE_OCTETS)))
  (pss_cons (ps_set (i := 5) sc_Chip__write.nd rfl (by first | exact Or.inl rfl | exact Or.inr rfl) (pe_op (u_addA (K := K)) (pv 4) (pe_globI rfl T.g_PAGE_OCTETS)))
  (pss_cons (ps_set (i := 6) sc_Chip__write.nd rfl (by first | exact Or.inl rfl | exact Or.inr rfl) (pe_ix (u_ix (K := K)) (pe_fldU (K := K) (pv 0) rfl) (pv 1) (fun _ _ => rfl)))
  (pss_cons (ps_set (i := 7) sc_Chip__write.nd rfl (by first | exact Or.inl rfl | exact Or.inr rfl) (pe_callTy (u_tup (K := K)) (by rfl) T.f_tuple (by decide +kernel) (pa_cons (pe_lc (own := [("was", 8), ("octet", 9)]) rfl sc_Chip__write.nd (pi_zm (K := K) rfl T.f_zip (pa_cons (pe_slice (u_sl (K := K)) (pv 6) (po_some (pv 4)) (po_some (pv 5))) (pa_cons (pv 3) pa_nil))) (blkOk_by (own := [("was", 8), ("octet", 9)]) (N := ["self", "block", "page", "octets", "start", "end", "old", "written", "was", "octet"]) (sc := defScope s_Chip__write) (by decide +kernel)) (fun _ _ _ _ _ => (pg_tupU (K := K) (n := 2) rfl (pgs_cons (pg_name (i := 8) sc_Chip__write.nd rfl (by first | exact Or.inl rfl | exact Or.inr rfl)) (pgs_cons (pg_name (i := 9) sc_Chip__write.nd rfl (by first | exact Or.inl rfl | exact Or.inr rfl)) pgs_nil)))) (fun _ _ _ _ _ => pts_nil) (fun _ _ _ _ _ => (pe_op op_and (pv 8) (pv 9)))) pa_nil)))
  (pss_one (ps_ret (pe_calM M_Chip___do_op hr.le (passes_call (takes_of rfl rfl rfl rfl) (fun _ _ _ _ h => h)) (pv 0) (pa_cons (pv 1) (pa_cons (pe_op (u_addA (K := K)) (pe_op (u_addA (K := K)) (pe_slice (u_sl (K := K)) (pv 6) po_none (po_some (pv 4))) (pv 7)) (pe_slice (u_sl (K := K)) (pv 6) (po_some (pv 5)) po_none)) pa_nil))))))))))))), ?_⟩)
  · obtain ⟨a, dx, s, b, p, w, ws, t, rfl, _⟩ := h
    rfl
  · obtain ⟨a, dx, s, b, p, w, ws, t, rfl, hc, hb, hp, S, ow, lw, pl, ql, q⟩ := h
    have g8 := hc.g8
    have o31 := hc.oct b hb
    have br : b < s.rs.length := by rw [hc.nr]; exact hb
    refine ⟨_, rfl, a, dx, _, rfl, hc.ins, rfl, _, rfl, a, s.c, (b : Int), rfl, ⟨dx, hc.ins⟩, by omega, by rw [hc.nb]; omega, fun H1 e1 => ?_⟩
    refine ⟨_, rfl, a, dx, _, rfl, e1 _ _ hc.ins, rfl, _, rfl, a, s.c, (p : Int), rfl, ⟨dx, e1 _ _ hc.ins⟩, by omega, hp, fun H2 e2 => ?_⟩
    have E2 := e1.trans e2
    refine ⟨_, rfl, w, ws, t, 31, rfl, S.ex E2, ow, by omega, by omega, fun H3 e3 => ⟨true, rfl, iteF ?_⟩⟩
    have E3 := E2.trans e3
    have h3 := hc.ex E3
    have mx : CMulX (p : Int) 31 := mulx_ok (a := 30) (b := 30) (by show _ < 1073741824; omega) (by decide) (by decide)
    refine ⟨_, rfl, .inl ⟨_, _, rfl, rfl, mx, _, rfl, .inl (.inl ⟨_, _, rfl, rfl, ?_⟩)⟩⟩
    refine ⟨_, rfl, a, _, dx, _, _, rfl, h3.ins, TC.cls, TC.no _ (by simp), rfl, _, rfl, tup_ix h3.o br ?_⟩
    have ea : (p : Int) * 31 = ((31 * p : Nat) : Int) := by omega
    have eb : (p : Int) * 31 + 31 = ((31 * p + 31 : Nat) : Int) := by omega
    have L : (s.os.getD b []).length = 31 * s.c.pages.toNat := o31.2
    have hT := h3.tup b hb
    have hT : H3 (s.rs.getD b 0) = some (.tup (IV (s.os.getD b []))) := hT
    have oO := o31.1
    generalize hO : s.os.getD b [] = O at L hT oO
    generalize s.rs.getD b 0 = ro at hT
    have p1 : 31 * p + 31 ≤ O.length := by omega
    refine ⟨_, rfl, _, rfl, _, rfl, _, rfl, _, rfl, .inr (.inl ⟨ro, _, rfl, SqT.of hT, ?_, fun z nz => ?_⟩)⟩
    · rintro ⟨h0, h⟩
      rw [eb, HT.sIx_nat, iv_len] at h
      rw [ea, HT.sIx_nat, iv_len] at h0
      omega
    have ec : cutV (IV O) (some ((p : Int) * 31)) (some ((p : Int) * 31 + 31)) = IV ((O.drop (31 * p)).take 31) := by
      rw [eb, ea, cut_nn (by omega) p1]
      congr 2
      omega
    have xz := Evl.Ex.new (o := .tup (IV ((O.drop (31 * p)).take 31))) nz
    show tCons (tVar 3) tNil _ (upd H3 z (.tup (cutV (IV O) (some ((p : Int) * 31)) (some ((p : Int) * 31 + 31))))) _
    rw [ec]
    have lz : ((O.drop (31 * p)).take 31).length = 31 := by rw [List.length_take, List.length_drop]; omega
    have S3 := (S.ex E3).ex xz
    refine ⟨_, rfl, true, t, z, w, _, _, rfl, Sv.tup upd_same, S3, fun D hD => ?_⟩
    have wk := walk_zm (t := true) (u := t) (K := K) (a := z) (b := w) (xs := IV ((O.drop (31 * p)).take 31)) (ys := IV ws) (n := 31) (by rw [iv_len, iv_len, lz, lw]; rfl)
    have lB := both_len (f := Builtin.bitAnd) (xs := (O.drop (31 * p)).take 31) (ys := ws) (by rw [lz, lw])
    refine lc_pureVZ (us := IV (both Builtin.bitAnd ((O.drop (31 * p)).take 31) ws)) wk (fun H' ex => ⟨(Sv.tup upd_same).ex ex, S3.ex ex⟩) (by rw [iv_len, lB, lz]) (by omega) hD (fun _ _ => rfl) ?_ ?_
    · intro i x y v H' Q' hx hy hv ex k
      obtain ⟨m, n, rfl, rfl, rfl⟩ := both_at hx hy hv
      exact ⟨_, rfl, _, rfl, _, _, rfl, rfl, k H' (Evl.Ex.refl _)⟩
    intro H4 e4 h4
    refine ⟨D, _, rfl, .inl ⟨SqL.of h4, fun l nl => ?_⟩⟩
    have xl := Evl.Ex.new (o := .tup (IV (both Builtin.bitAnd ((O.drop (31 * p)).take 31) ws))) nl
    have hl := upd_same (H := H4) (a := l) (o := .tup (IV (both Builtin.bitAnd ((O.drop (31 * p)).take 31) ws)))
    have E5 := E3.trans ((xz.trans e4).trans xl)
    have hT5 := ((xz.trans e4).trans xl) _ _ hT
    generalize upd H4 l (.tup (IV (both Builtin.bitAnd ((O.drop (31 * p)).take 31) ws))) = H5 at hl E5 hT5 ⊢
    refine ⟨_, rfl, a, dx, _, rfl, E5 _ _ hc.ins, rfl, _, rfl, ?_⟩
    refine ⟨_, rfl, _, rfl, _, rfl, .inr (.inl ⟨ro, _, rfl, SqT.of hT5, ?_, fun z1 nz1 => ?_⟩)⟩
    · rintro ⟨_, h⟩
      rw [ea, HT.sIx_nat, iv_len] at h
      omega
    have x1 := Evl.Ex.new (o := .tup (cutV (IV O) none (some ((p : Int) * 31)))) nz1
    have c1 : cutV (IV O) none (some ((p : Int) * 31)) = IV (O.take (31 * p)) := by rw [ea, cut_n0 (by omega)]
    have h1 : upd H5 z1 (.tup (cutV (IV O) none (some ((p : Int) * 31)))) z1 = some (.tup (IV (O.take (31 * p)))) := by rw [upd_same, c1]
    refine ⟨_, rfl, catA h1 (x1 _ _ hl) (by rw [iv_len, iv_len, List.length_take, lB, lz]; omega) fun r1 H6 e6 h6 => ?_⟩
    have E6 := x1.trans e6
    refine ⟨_, rfl, _, rfl, _, rfl, .inr (.inl ⟨ro, _, rfl, SqT.of (E6 _ _ hT5), ?_, fun z2 nz2 => ?_⟩)⟩
    · rintro ⟨h0, _⟩
      rw [eb, HT.sIx_nat, iv_len] at h0
      omega
    have x2 := Evl.Ex.new (o := .tup (cutV (IV O) (some ((p : Int) * 31 + 31)) none)) nz2
    have c2 : cutV (IV O) (some ((p : Int) * 31 + 31)) none = IV (O.drop (31 * p + 31)) := by rw [eb, cut_0n p1]
    have h2 : upd H6 z2 (.tup (cutV (IV O) (some ((p : Int) * 31 + 31)) none)) z2 = some (.tup (IV (O.drop (31 * p + 31)))) := by rw [upd_same, c2]
    refine catA (x2 _ _ h6) h2 (by rw [List.length_append, iv_len, iv_len, iv_len, List.length_take, lB, lz, List.length_drop]; omega) fun r2 H7 e7 h7 => ?_
    have E7 := E5.trans (E6.trans (x2.trans e7))
    have ew : IV (O.take (31 * p)) ++ IV (both Builtin.bitAnd ((O.drop (31 * p)).take 31) ws) ++ IV (O.drop (31 * p + 31)) = IV (wrote O ws p) := by
      unfold wrote
      rw [List.append_assoc, ← List.map_append, ← List.map_append]
    rw [ew] at h7
    have q' : Ends K CP a dx s b (wrote O ws p) H Q E := by rw [← hO]; exact q
    exact Ends.op q' ((Fr.refl a s.c H).ex E7) (hc.ex E7) hb h7 (oct_app (fun x hx => oO x (List.mem_of_mem_take hx)) (oct_app (both_oct (fun x hx => oO x (List.mem_of_mem_drop (List.mem_of_mem_take hx))) ow fun _ _ => and_oct) (fun x hx => oO x (List.mem_of_mem_drop hx))))
      (by unfold wrote; rw [List.length_append, List.length_append, List.length_take, List.length_drop, lB, lz]; omega) pl ql
end
end K10
/-! powers of wide numbers -/
namespace VB
open PySem PySem.Spec PyProof.Rows L2
section
variable {X : Cx}
def CPowW (i j : Int) : Prop := 0 ≤ j ∧ (Builtin.Int.intBits i : Int) * j ≤ 2 ^ 27
theorem op_powW : OpR X (binaryOp .Pow) (rI CPowW fun i j => .int (i ^ j.toNat)) := opI fun _ _ _ _ _ _ _ hc q => pow_int hc.1 hc.2 q
end
end VB
namespace K10
open PySem PySem.Spec PyProof.Rows L2 VB BM
theorem oct_five {x y : Int} (hx : 0 ≤ x ∧ x ≤ 255) (hy : 0 ≤ y ∧ y ≤ 255) : Oct [0, 255, Builtin.bitAnd x y, x, Builtin.bitOr x y] := by
  have h1 := and_oct hx hy
  have h2 := or_oct hx hy
  intro o ho
  simp only [List.mem_cons, List.not_mem_nil, or_false] at ho
  rcases ho with rfl | rfl | rfl | rfl | rfl
  · omega
  · omega
  · exact h1
  · exact hx
  · exact h2
section
variable {P : Program} {w : World} {K : PySem.W.Frag} {mg : Str → Option Value} {base : Heap} {f : Addr} {fd : FuncData}
def spPart : Sp := fun vs H Q _ => ∃ (a : Addr) (n : Int), vs = [.ref a] ∧ Box H a n ∧ n < 80000000 ∧ NewL a (n + 70) H Q (fun xs => xs.length = 31)
theorem ok_part (T : Txt K mg) (F : FnP K "_law_part" s__law_part f fd) (C__law_take : Cal P w K mg base CX0 1 "_law_take" ["_law_box_here", "_law_many"] spTake)
    (C__law_drawn : Cal P w K mg base CX0 2 "_law_drawn" ["_law_box_here", "_law_count"] spLD) : Fg P w K mg base CX0 3 f fd ["_law_box_here"] spPart := by
  refine fg_of F sc__law_part (fun vs H Q E h => ?_) (fun cdv A outer s H vs Q E hr h => ⟨_, (PSs.nox (pss_cons (ps_asg (pe_tup (pa_cons (pe_cal C__law_drawn hr.le pass0 (pa_cons (pv 0) (pa_cons pe_int pa_nil))) (pa_cons (pe_cal C__law_drawn hr.le pass0 (pa_cons (pv 0) (pa_cons pe_int pa_nil))) (pa_cons (pe_cal C__law_take hr.le pass0 (pa_cons (pv 0) (pa_cons pe_int pa_nil))) pa_nil)))) (pg_tupU (K := K) (n := 3) rfl (pgs_cons (pg_name (i := 1) sc__law_part.nd rfl (by first | exact Or.inl rfl | exact Or.inr rfl)) (pgs_cons (pg_name (i := 2) sc__law_part.nd rfl (by first | exact Or.inl rfl | exact Or.inr rfl)) (pgs_cons (pg_name (i := 3) sc__law_part.nd rfl (by first | exact Or.inl rfl | exact Or.inr rfl)) pgs_nil)))))
  (pss_cons (ps_asg (pe_tup (pa_cons (pe_cal C__law_take hr.le pass0 (pa_cons (pv 0) (pa_cons pe_int pa_nil))) (pa_cons (pe_ix (u_ix (K := K)) (pe_lst (pa_cons pe_int (pa_cons pe_int (pa_cons pe_int (pa_cons pe_int (pa_cons pe_int (pa_cons pe_int (pa_cons pe_int (pa_cons pe_int pa_nil))))))))) (pe_cal C__law_take hr.le pass0 (pa_cons (pv 0) (pa_cons pe_int pa_nil))) (fun _ _ => rfl)) pa_nil))) (pg_tupU (K := K) (n := 2) rfl (pgs_cons (pg_name (i := 4) sc__law_part.nd rfl (by first | exact Or.inl rfl | exact Or.inr rfl)) (pgs_cons (pg_name (i := 5) sc__law_part.nd rfl (by first | exact Or.inl rfl | exact Or.inr rfl)) pgs_nil))))
  (pss_cons (ps_if (pt_cmpR op_gt (pv 3) pe_int (nomark _))
  (pss_one (ps_ret (pe_lc (own := [("_law_at", 6)]) rfl sc__law_part.nd (pi_range1 rfl T.f_range (pa_cons pe_int pa_nil)) (blkOk_by (own := [("_law_at", 6)]) (N := ["_law_box_here", "_law_one", "_law_two", "_law_way", "_law_spot", "_law_worth", "_law_at"]) (sc := defScope s__law_part) (by decide +kernel)) (fun _ _ _ _ _ => (pg_name (i := 6) sc__law_part.nd rfl (by first | exact Or.inl rfl | exact Or.inr rfl))) (fun _ _ _ _ _ => pts_nil) (fun _ _ _ _ _ => (pe_op op_sub pe_int (pe_op (u_mul (K := K)) (pv 5) (pe_callTy call_int1 (by rfl) T.f_int (by decide +kernel) (pa_cons (pe_cmpR (u_eq (K := K) hr) (pv 6) (pv 4) (nomark _)) pa_nil)))))))) pss_nil)
  (pss_one (ps_ret (pe_lc (own := [("_law_at", 6)]) rfl sc__law_part.nd (pi_range1 rfl T.f_range (pa_cons pe_int pa_nil)) (blkOk_by (own := [("_law_at", 6)]) (N := ["_law_box_here", "_law_one", "_law_two", "_law_way", "_law_spot", "_law_worth", "_law_at"]) (sc := defScope s__law_part) (by decide +kernel)) (fun _ _ _ _ _ => (pg_name (i := 6) sc__law_part.nd rfl (by first | exact Or.inl rfl | exact Or.inr rfl))) (fun _ _ _ _ _ => pts_nil) (fun _ _ _ _ _ => (pe_ix (u_ix (K := K)) (pe_lst (pa_cons pe_int (pa_cons pe_int (pa_cons (pe_op op_and (pe_ix (u_ix (K := K)) (pv 1) (pv 6) (fun _ _ => rfl)) (pe_ix (u_ix (K := K)) (pv 2) (pv 6) (fun _ _ => rfl))) (pa_cons (pe_ix (u_ix (K := K)) (pv 1) (pv 6) (fun _ _ => rfl)) (pa_cons (pe_op op_or (pe_ix (u_ix (K := K)) (pv 1) (pv 6) (fun _ _ => rfl)) (pe_ix (u_ix (K := K)) (pv 2) (pv 6) (fun _ _ => rfl))) pa_nil)))))) (pv 3) (fun _ _ => rfl)))))))))), ?_⟩)
  · obtain ⟨a, n, rfl, _⟩ := h
    rfl
  · obtain ⟨a, n, rfl, B, hn, q⟩ := h
    refine ⟨_, rfl, a, 31, n, rfl, B, by omega, by omega, fun p H2 xs ox lx na np e2 B2 hp => ⟨_, rfl, a, 31, n + 31, rfl, B2, by omega, by omega, fun p' H3 ys oy ly na' np' e3 B3 hp' => ?_⟩⟩
    refine ⟨_, rfl, a, 7, n + 31 + 31, rfl, B3, by omega, by omega, by omega, fun way H4 w0 w1 e4 B4 => ⟨by show 3 ≤ sizeLine; decide, fun tp nt => ?_⟩⟩
    have xt := Evl.Ex.new (o := .tup [V.ref p, .ref p', .int way]) nt
    have hx5 := xt _ _ (e4 _ _ na (e3 _ _ na hp))
    have hy5 := xt _ _ (e4 _ _ na' hp')
    have E5 := ((e2.trans e3).trans e4).trans (Exb.of xt)
    have B5 := B4.ex xt
    refine ⟨tp, _, rfl, SqT.of upd_same, rfl, _, _, rfl, _, _, rfl, _, _, rfl, rfl, ?_⟩
    generalize upd H4 tp (.tup [V.ref p, .ref p', .int way]) = H5 at hx5 hy5 E5 B5 ⊢
    refine ⟨_, rfl, a, 31, n + 31 + 31 + 1, rfl, B5, by omega, by omega, by omega, fun sp H6 s0 s1 e6 B6 => ⟨by show 8 ≤ sizeLine; decide, fun p8 np8 => ?_⟩⟩
    have x8 := Evl.Ex.new (o := .lst (IV ws8)) np8
    have n8a := B6.at np8
    refine ⟨_, rfl, a, 8, n + 31 + 31 + 1 + 1, rfl, B6.ex x8, by omega, by omega, by omega, fun r2 H7 q0 q1 e7 B7 => ?_⟩
    have h8 := e7 p8 _ n8a (upd_same (H := H6) (a := p8) (o := .lst (IV ws8)))
    obtain ⟨u, hu, u0, u1⟩ : ∃ u : Int, atI (IV ws8) r2 = some (.int u) ∧ 0 < u ∧ u ≤ 128 := by
      obtain ⟨j, rfl⟩ : ∃ j : Nat, r2 = j := ⟨r2.toNat, by omega⟩
      obtain ⟨v, hv⟩ := get_lt (l := ws8) (i := j) (by show j < 8; omega)
      exact ⟨v, iv_at hv, (ws8_get hv).1, (ws8_get hv).2⟩
    refine .inl ⟨p8, _, _, _, rfl, rfl, SqL.of h8, hu, ⟨by show 2 ≤ sizeLine; decide, fun t2 nt2 => ?_⟩⟩
    have x9 := Evl.Ex.new (o := .tup [V.int sp, .int u]) nt2
    have hx9 := x9 _ _ (e7 _ _ na (x8 _ _ (e6 _ _ na hx5)))
    have hy9 := x9 _ _ (e7 _ _ na' (x8 _ _ (e6 _ _ na' hy5)))
    have E9 := (((E5.trans e6).trans (Exb.of x8)).trans e7).trans (Exb.of x9)
    have B9 := B7.ex x9
    refine ⟨t2, _, rfl, SqT.of upd_same, rfl, _, _, rfl, _, _, rfl, rfl, ?_⟩
    generalize upd H7 t2 (.tup [V.int sp, .int u]) = H9 at hx9 hy9 E9 B9 ⊢
    have lx' : xs.length = 31 := lx
    have ly' : ys.length = 31 := ly
    have fin : ∀ (D : Addr) (H' : Hp) (zs : List Int), H9 D = none → Evl.Ex H9 H' → zs.length = 31 → Oct zs → H' D = some (.lst (IV zs)) → Q (.ref D) H' := fun D H' zs hD e5 lz oz hz =>
      q D H' zs oz lz (B9.at hD) (Exb.fresh E9 hD (B9.at hD)) (E9.trans (Exb.of e5)) ((B9.ex e5).le (by omega)) hz
    refine ⟨_, rfl, _, _, rfl, rfl, _, rfl, if_dec (fun h => ?_) (fun h => ?_)⟩
    · refine ⟨31, rfl, by omega, by omega, fun D hD => ?_⟩
      refine lc_range (lo := 0) (n := 31) (fun i H' => i ≤ 31 ∧ Evl.Ex H9 H' ∧ ∃ zs : List Int, zs.length = i ∧ Oct zs ∧ H' D = some (.lst (IV zs))) ⟨by omega, Evl.Ex.new hD, [], rfl, fun _ h => (by cases h), upd_same⟩ ?_ ?_
      · rintro i Hz hi ⟨_, e5, zs, lz, oz, hz⟩
        have e0 : (0 : Int) + (i : Int) = (i : Int) := Int.zero_add _
        rw [e0]
        refine ⟨rfl, _, rfl, _, rfl, _, rfl, .inl ⟨rfl, .inr ⟨_, rfl, ?_⟩⟩⟩
        obtain ⟨z, hz2, z0, z1⟩ : ∃ z : Int, (if decide (V.int (i : Int) = V.int sp) = true then (1 : Int) else 0) = z ∧ 0 ≤ z ∧ z ≤ 1 := ⟨_, rfl, by split <;> omega, by split <;> omega⟩
        rw [hz2]
        have ov : 0 ≤ 255 - u * z ∧ 255 - u * z ≤ 255 := by
          have c : z = 0 ∨ z = 1 := by omega
          rcases c with rfl | rfl <;> omega
        refine .inl ⟨_, _, rfl, rfl, mulx_ok (a := 30) (b := 30) (by show _ < 1073741824; omega) (by show _ < 1073741824; omega) (by decide), _, _, rfl, rfl, ?_⟩
        exact ⟨_, hz, by rw [iv_len, lz]; exact Evl.sz_lt (by omega), by omega, Evl.Ex.mut e5 hD, zs ++ [255 - u * z], by simp [lz], oct_snoc oz ov.1 ov.2, by rw [upd_same, iv_snoc]⟩
      · rintro Hz ⟨_, e5, zs, lz, oz, hz⟩
        exact fin D Hz zs hD e5 lz oz hz
    · refine ⟨31, rfl, by omega, by omega, fun D hD => ?_⟩
      refine lc_range (lo := 0) (n := 31) (fun i H' => i ≤ 31 ∧ Evl.Ex H9 H' ∧ ∃ zs : List Int, zs.length = i ∧ Oct zs ∧ H' D = some (.lst (IV zs))) ⟨by omega, Evl.Ex.new hD, [], rfl, fun _ h => (by cases h), upd_same⟩ ?_ ?_
      · rintro i Hz hi ⟨_, e5, zs, lz, oz, hz⟩
        obtain ⟨x, hx⟩ := get_lt (l := xs) (i := i) (by omega)
        obtain ⟨y, hy⟩ := get_lt (l := ys) (i := i) (by omega)
        have bx := ox x (List.mem_of_getElem? hx)
        have by_ := oy y (List.mem_of_getElem? hy)
        obtain ⟨v, v0, v1, hv⟩ := pick (xs := [0, 255, Builtin.bitAnd x y, x, Builtin.bitOr x y]) (oct_five bx by_) (r := way) (by omega) (by show way < 5; omega)
        have e0 : (0 : Int) + (i : Int) = (i : Int) := Int.zero_add _
        rw [e0]
        refine ⟨rfl, ?_⟩
        refine ⟨_, rfl, _, rfl, .inl ⟨p, _, _, _, rfl, rfl, SqL.of (e5 _ _ hx9), iv_at hx, _, rfl, _, rfl, .inl ⟨p', _, _, _, rfl, rfl, SqL.of (e5 _ _ hy9), iv_at hy, _, _, rfl, rfl, ?_⟩⟩⟩
        refine ⟨_, rfl, _, rfl, .inl ⟨p, _, _, _, rfl, rfl, SqL.of (e5 _ _ hx9), iv_at hx, ?_⟩⟩
        refine ⟨_, rfl, _, rfl, .inl ⟨p, _, _, _, rfl, rfl, SqL.of (e5 _ _ hx9), iv_at hx, _, rfl, _, rfl, .inl ⟨p', _, _, _, rfl, rfl, SqL.of (e5 _ _ hy9), iv_at hy, _, _, rfl, rfl, ?_⟩⟩⟩
        refine ⟨by show 5 ≤ sizeLine; decide, fun t nt => ⟨_, rfl, .inl ⟨t, _, _, _, rfl, rfl, SqL.of upd_same, hv, ?_⟩⟩⟩
        have xn := Evl.Ex.new (o := .lst (IV [0, 255, Builtin.bitAnd x y, x, Builtin.bitOr x y])) nt
        refine ⟨_, xn D _ hz, by rw [iv_len, lz]; exact Evl.sz_lt (by omega), by omega, Evl.Ex.mut (e5.trans xn) hD, zs ++ [v], by simp [lz], oct_snoc oz v0 v1, by rw [upd_same, iv_snoc]⟩
      · rintro Hz ⟨_, e5, zs, lz, oz, hz⟩
        exact fin D Hz zs hD e5 lz oz hz
def LL : Int := 2 ^ 2600
theorem ll_le : LL ≤ MM := by
  have e1 : LL = ((2 ^ 2600 : Nat) : Int) := (Int.natCast_pow 2 2600).symm
  have e2 : MM = ((2 ^ 4096 : Nat) : Int) := (Int.natCast_pow 2 4096).symm
  rw [e1, e2]
  exact Int.ofNat_le.mpr (Nat.pow_le_pow_right (by decide) (by decide))
theorem ll_pos : 0 < LL := by
  unfold LL
  exact Int.pow_pos (by decide)
theorem long_bound {x y : Int} (x0 : 0 ≤ x) (x1 : x < 1048576) (y0 : 0 ≤ y) (y1 : y < 1048576) : 0 ≤ (2 * (x * 1048576 + y) + 1) ^ 61 / 8 ∧ (2 * (x * 1048576 + y) + 1) ^ 61 / 8 < LL := by
  have b0 : 0 ≤ 2 * (x * 1048576 + y) + 1 := by omega
  have b1 : 2 * (x * 1048576 + y) + 1 ≤ 2 ^ 42 := by
    have : (2 : Int) ^ 42 = 4398046511104 := by decide
    omega
  have p0 : 0 ≤ (2 * (x * 1048576 + y) + 1) ^ 61 := Int.pow_nonneg b0
  have p1 : (2 * (x * 1048576 + y) + 1) ^ 61 ≤ (2 ^ 42) ^ 61 := by
    obtain ⟨k, hk⟩ : ∃ k : Nat, 2 * (x * 1048576 + y) + 1 = k := ⟨(2 * (x * 1048576 + y) + 1).toNat, by omega⟩
    rw [hk] at b1 ⊢
    have e : (2 : Int) ^ 42 = ((2 ^ 42 : Nat) : Int) := (Int.natCast_pow 2 42).symm
    rw [e, ← Int.natCast_pow, ← Int.natCast_pow]
    rw [e] at b1
    exact Int.ofNat_le.mpr (Nat.pow_le_pow_left (Int.ofNat_le.mp b1) 61)
  have p2 : ((2 : Int) ^ 42) ^ 61 < LL := by
    rw [← Int.pow_mul]
    unfold LL
    exact Int.pow_lt_pow_of_lt (by decide) (by decide)
  generalize (2 * (x * 1048576 + y) + 1) ^ 61 = z at *
  generalize ((2 : Int) ^ 42) ^ 61 = w at *
  omega
def spLong : Sp := fun vs H Q _ => ∃ (a : Addr) (n : Int), vs = [.ref a] ∧ Box H a n ∧ n < 90000000 ∧ ∀ (v : Int) (H' : Hp), 0 ≤ v → v < LL → Exb a H H' → Box H' a (n + 2) → Q (.int v) H'
theorem ok_long (T : Txt K mg) (F : FnP K "_law_long" s__law_long f fd) (C__law_take : Cal P w K mg base CX0 1 "_law_take" ["_law_box_here", "_law_many"] spTake) : Fg P w K mg base CX0 2 f fd ["_law_box_here"] spLong := by
  refine fg_of F sc__law_long (fun vs H Q E h => ?_) (fun cdv A outer s H vs Q E hr h => ⟨_, (PSs.nox (pss_one (ps_ret (pe_op u_fdiv (pe_callTy call_int1 (by rfl) T.f_int (by decide +kernel) (pa_cons (pe_op op_pow (pe_op (u_add (K := K)) (pe_op (u_mul (K := K)) pe_int (pe_op (u_add (K := K)) (pe_op (u_mul (K := K)) (pe_cal C__law_take hr.le pass0 (pa_cons (pv 0) (pa_cons (pe_op op_pow pe_int pe_int) pa_nil))) (pe_op op_pow pe_int pe_int)) (pe_cal C__law_take hr.le pass0 (pa_cons (pv 0) (pa_cons (pe_op op_pow pe_int pe_int) pa_nil))))) pe_int) pe_int) pa_nil)) pe_int)))), ?_⟩)
  · obtain ⟨a, n, rfl, _⟩ := h
    rfl
  · obtain ⟨a, n, rfl, B, hn, q⟩ := h
    have cp : CPow 2 20 := ⟨by decide, by decide, by decide⟩
    have e20 : (2 : Int) ^ (20 : Int).toNat = 1048576 := by decide
    refine ⟨_, rfl, _, _, rfl, rfl, cp, a, 2 ^ (20 : Int).toNat, n, rfl, B, by rw [e20]; decide, by rw [e20]; decide, by omega, fun x H1 x0 x1 e1 B1 => ?_⟩
    rw [e20] at x1
    refine ⟨_, _, rfl, rfl, cp, .inl ⟨_, _, rfl, rfl, ?_, ?_⟩⟩
    · rw [e20]
      exact mulx_ok (a := 30) (b := 30) (by show _ < 1073741824; omega) (by decide) (by decide)
    refine ⟨_, rfl, _, _, rfl, rfl, cp, a, 2 ^ (20 : Int).toNat, n + 1, rfl, B1, by rw [e20]; decide, by rw [e20]; decide, by omega, fun y H2 y0 y1 e2 B2 => ?_⟩
    rw [e20] at y1
    rw [e20]
    have bd := long_bound x0 x1 y0 y1
    refine .inl ⟨_, _, rfl, rfl, .inl ⟨_, _, rfl, rfl, mulx_ok (a := 30) (b := 60) (by decide) (by show _ < 1152921504606846976; omega) (by decide), .inl ⟨_, _, rfl, rfl, _, _, rfl, rfl, ⟨by decide, by decide, by show _ < 18446744073709551616; omega⟩, .inl ⟨_, rfl, ?_⟩⟩⟩⟩
    have cd8 : (0 : Int) < 8 ∧ (8 : Int) < 1073741824 := by decide
    exact ⟨_, _, rfl, rfl, cd8, q _ _ bd.1 bd.2 (e1.trans e2) (B2.le (by omega))⟩
theorem most_eq : ((2 : Int) ^ (64 : Int).toNat) ^ (64 : Int).toNat - 1 = MM - 1 := by
  have e : (64 : Int).toNat = 64 := rfl
  rw [e, ← Int.pow_mul]
  rfl
def spMask : Sp := fun vs H Q _ => ∃ (a : Addr) (n : Int), vs = [.ref a] ∧ Box H a n ∧ n < 80000000 ∧ ∀ (v : Int) (H' : Hp), 0 ≤ v → v < MM → Exb a H H' → Box H' a (n + 6) → Q (.int v) H'
theorem ok_mask (T : Txt K mg) (F : FnP K "_law_mask" s__law_mask f fd) (C__law_take : Cal P w K mg base CX0 1 "_law_take" ["_law_box_here", "_law_many"] spTake) (C__law_long : Cal P w K mg base CX0 2 "_law_long" ["_law_box_here"] spLong) : Fg P w K mg base CX0 3 f fd ["_law_box_here"] spMask := by
  refine fg_of F sc__law_mask (fun vs H Q E h => ?_) (fun cdv A outer s H vs Q E hr h => ⟨_, (PSs.nox (pss_cons (ps_par3 (i := 1) (j := 2) (l := 3) rfl sc__law_mask.nd rfl rfl rfl (by decide) (by decide) (by decide) rfl rfl rfl (pa_cons (pe_op op_sub (pe_op op_powW (pe_op op_powW pe_int pe_int) pe_int) pe_int) (pa_cons (pe_cal C__law_take hr.le pass0 (pa_cons (pv 0) (pa_cons pe_int pa_nil))) (pa_cons (pe_cal C__law_take hr.le pass0 (pa_cons (pv 0) (pa_cons pe_int pa_nil))) pa_nil))) (by rfl))
  (pss_cons (ps_par (i := 4) (j := 5) rfl sc__law_mask.nd rfl rfl (by decide) rfl rfl (pa_cons (pe_cal C__law_long hr.le pass0 (pa_cons (pv 0) pa_nil)) (pa_cons (pe_cal C__law_long hr.le pass0 (pa_cons (pv 0) pa_nil)) pa_nil)) (by rfl))
  (pss_one (ps_ret (pe_ix (u_ix (K := K)) (pe_lst (pa_cons pe_int (pa_cons (pv 1) (pa_cons (pe_op (op_oneShl.or op_shl) pe_int (pv 3)) (pa_cons (pe_op op_sub (pv 1) (pe_op (op_oneShl.or op_shl) pe_int (pv 3))) (pa_cons (pe_op op_and (pv 4) (pv 5)) (pa_cons (pv 4) (pa_cons (pe_op op_or (pv 4) (pv 5)) pa_nil)))))))) (pv 2) (fun _ _ => rfl))))))), ?_⟩)
  · obtain ⟨a, n, rfl, _⟩ := h
    rfl
  · obtain ⟨a, n, rfl, B, hn, q⟩ := h
    have w1 : CPowW 2 64 := ⟨by decide, by decide +kernel⟩
    have w2 : CPowW (2 ^ (64 : Int).toNat) 64 := ⟨by decide, by decide +kernel⟩
    refine ⟨_, _, rfl, rfl, w1, _, _, rfl, rfl, w2, _, _, rfl, rfl, ?_⟩
    dsimp only
    rw [most_eq]
    refine ⟨_, rfl, a, 7, n, rfl, B, by omega, by omega, by omega, fun way H1 w0 w1 e1 B1 => ⟨_, rfl, a, 248, n + 1, rfl, B1, by omega, by omega, by omega, fun at_ H2 a0 a1 e2 B2 => ⟨_, _, _, rfl, ?_⟩⟩⟩
    refine ⟨_, rfl, a, n + 1 + 1, rfl, B2, by omega, fun l1 H3 l10 l11 e3 B3 => ⟨_, rfl, a, n + 1 + 1 + 2, rfl, B3, by omega, fun l2 H4 l20 l21 e4 B4 => ⟨_, _, rfl, ?_⟩⟩⟩
    obtain ⟨k, rfl⟩ : ∃ k : Nat, at_ = k := ⟨at_.toNat, by omega⟩
    refine ⟨_, rfl, _, rfl, .inl ⟨k, rfl, rfl, by omega, ?_⟩⟩
    refine ⟨_, rfl, _, rfl, .inl ⟨k, rfl, rfl, by omega, _, _, rfl, rfl, ?_⟩⟩
    refine ⟨_, rfl, _, rfl, _, _, rfl, rfl, _, rfl, _, rfl, _, rfl, _, _, rfl, rfl, ?_⟩
    refine ⟨by show 7 ≤ sizeLine; decide, fun t nt => ⟨_, rfl, ?_⟩⟩
    have al : ∀ m ∈ [0, MM - 1, 2 ^ k, MM - 1 - 2 ^ k, Builtin.bitAnd l1 l2, l1, Builtin.bitOr l1 l2], 0 ≤ m ∧ m < MM := by
      have hl := ll_le
      have hp := ll_pos
      have kb : (2 : Int) ^ k < LL := by
        unfold LL
        exact Int.pow_lt_pow_of_lt (by decide) (by omega)
      have k0 : 0 < (2 : Int) ^ k := Int.pow_pos (by decide)
      have an : 0 ≤ Builtin.bitAnd l1 l2 ∧ Builtin.bitAnd l1 l2 ≤ l1 := by
        obtain ⟨x, rfl⟩ := nat_of l10
        obtain ⟨y, rfl⟩ := nat_of l20
        rw [VB.bitAnd_nn]
        have := Nat.and_le_left (n := x) (m := y)
        omega
      have on : 0 ≤ Builtin.bitOr l1 l2 ∧ Builtin.bitOr l1 l2 < LL := by
        obtain ⟨x, rfl⟩ := nat_of l10
        obtain ⟨y, rfl⟩ := nat_of l20
        rw [or_nn]
        have e : LL = ((2 ^ 2600 : Nat) : Int) := (Int.natCast_pow 2 2600).symm
        rw [e] at l11 l21 ⊢
        refine ⟨Int.natCast_nonneg _, Int.ofNat_lt.mpr (Nat.or_lt_two_pow (Int.ofNat_lt.mp l11) (Int.ofNat_lt.mp l21))⟩
      intro m hm
      simp only [List.mem_cons, List.not_mem_nil, or_false] at hm
      rcases hm with rfl | rfl | rfl | rfl | rfl | rfl | rfl <;> omega
    obtain ⟨j, rfl⟩ : ∃ j : Nat, way = j := ⟨way.toNat, by omega⟩
    obtain ⟨v, hv⟩ := get_lt (l := [0, MM - 1, 2 ^ k, MM - 1 - 2 ^ k, Builtin.bitAnd l1 l2, l1, Builtin.bitOr l1 l2]) (i := j) (by show j < 7; omega)
    have vb := al v (List.mem_of_getElem? hv)
    refine .inl ⟨t, _, _, _, rfl, rfl, SqL.of upd_same, iv_at hv, q v _ vb.1 vb.2 ((((e1.trans e2).trans e3).trans e4).trans (Exb.of (Evl.Ex.new nt))) ((B4.ex (Evl.Ex.new nt)).le (by omega))⟩
end
end K10
namespace K10
open PySem PySem.Spec PyProof.Rows L2 VB BM
abbrev toldE (ys : List Int) : PyData := .list [if ovr ys = 0 then DT (ys.take 30) else .none, .bool (decide (ovr ys = 0)), .bool (pln ys), .bool (!decide (ovr ys = 0) && !pln ys), .bool true]
theorem sh_toldE {ys : List Int} (o : Oct ys) : Sh (toldE ys) 2 240000 := by
  refine (sh_list (n := 5) (h := 1) (b := 40000) (fun d hd => ?_) (by simp)).le
  simp only [List.mem_cons, List.not_mem_nil, or_false] at hd
  rcases hd with rfl | rfl | rfl | rfl | rfl
  · split
    · exact sh_t (sm_take o 30) (by rw [List.length_take]; omega)
    · exact sh_none.le
  · exact (sh_bool _).le
  · exact (sh_bool _).le
  · exact (sh_bool _).le
  · exact (sh_bool _).le
section
variable {P : Program} {w : World} {K : PySem.W.Frag} {mg : Str → Option Value} {base : Heap} {f : Addr} {fd : FuncData}
def spTR (K : PySem.W.Frag) : Sp := fun vs H Q _ => ∃ (b c : Addr) (os ys : List Int) (t : Bool), vs = [.ref b, .ref c] ∧ H b = some (.lst (IV os)) ∧ Sv t K H c (IV ys) ∧ Oct os ∧ Oct ys ∧ os.length = 30 ∧ ys.length = 31 ∧ rest os ys = true ∧ RV (.bl true) H Q
theorem ok_ltr (T : Txt K mg) (F : FnP K "_law_told_right" s__law_told_right f fd) (C__law_page : Cal P w K mg base CX0 2 "_law_page" ["_law_data_here"] (spPg K))
    (C_data_of : Cal P w K mg base CX0 8 "data_of" ["octets"] (spDataOf K)) (C_is_whole : Cal P w K mg base CX0 8 "is_whole" ["value"] (spWhole K)) (C_is_clean : Cal P w K mg base CX0 8 "is_clean" ["value"] (spClean K))
    (C_is_torn : Cal P w K mg base CX0 8 "is_torn" ["value"] (spTorn K)) (C_is_rest : Cal P w K mg base CX0 8 "is_rest" ["data", "value"] (spRest K)) : Fg P w K mg base CX0 9 f fd ["_law_data_here", "_law_page_here"] (spTR K) := by
  refine fg_of F sc__law_told_right (fun vs H Q E h => ?_) (fun cdv A outer s H vs Q E hr h => ⟨_, (PSs.nox (pss_cons (ps_par (i := 2) (j := 3) rfl sc__law_told_right.nd rfl rfl (by decide) rfl rfl (pa_cons (pe_cmpR (u_eq (K := K) hr) (pe_callTy (u_list (K := K)) (by rfl) T.f_list (by decide +kernel) (pa_cons (pv 1) pa_nil)) (pe_cal C__law_page hr.le pass0 (pa_cons (pv 0) pa_nil)) (nomark _)) (pa_cons (pe_cmpR (u_eq (K := K) hr) (pe_callTy (u_list (K := K)) (by rfl) T.f_list (by decide +kernel) (pa_cons (pv 1) pa_nil)) (pe_op (u_mul (K := K)) (pe_lst (pa_cons pe_int pa_nil)) pe_int) (nomark _)) pa_nil)) (by rfl))
  (pss_cons (ps_set (i := 4) sc__law_told_right.nd rfl (by first | exact Or.inl rfl | exact Or.inr rfl) (pe_lst (pa_cons (pe_cal C_data_of hr.le pass0 (pa_cons (pv 1) pa_nil)) (pa_cons (pe_cal C_is_whole hr.le pass0 (pa_cons (pv 1) pa_nil)) (pa_cons (pe_cal C_is_clean hr.le pass0 (pa_cons (pv 1) pa_nil)) (pa_cons (pe_cal C_is_torn hr.le pass0 (pa_cons (pv 1) pa_nil)) (pa_cons (pe_cal C_is_rest hr.le pass0 (pa_cons (pv 0) (pa_cons (pv 1) pa_nil))) pa_nil)))))))
  (pss_one (ps_ret (pe_cmpR (u_eq (K := K) hr) (pe_callB (u_repr (K := K) hr) (by rfl) T.f_repr (by decide +kernel) (pa_cons (pv 4) pa_nil)) (pe_callB (u_repr (K := K) hr) (by rfl) T.f_repr (by decide +kernel) (pa_cons (pe_lst (pa_cons (pe_ifExp (pt_tru (K := K) (pv 2) (by intro _; rfl)) (pe_callTy (u_tup (K := K)) (by rfl) T.f_tuple (by decide +kernel) (pa_cons (pv 0) pa_nil)) pe_non) (pa_cons (pv 2) (pa_cons (pv 3) (pa_cons (pe_and (pe_not (pv 2)) (pe_one (pe_not (pv 3)))) (pa_cons pe_bl pa_nil)))))) pa_nil)) (nomark _))))))), ?_⟩)
  · obtain ⟨b, c, os, ys, t, rfl, _⟩ := h
    rfl
  · obtain ⟨b, c, os, ys, t, rfl, hb, S, oo, oy, lo, ly, hr9, q⟩ := h
    obtain ⟨v0, v1, vw⟩ := rest_facts oo oy lo ly hr9
    refine ⟨_, rfl, c, _, rfl, S.either, fun l1 n1 => ?_⟩
    have x1 := Evl.Ex.new (o := .lst (IV ys)) n1
    refine ⟨_, rfl, b, os, false, rfl, Sv.lst (x1 _ _ hb), by omega, fun g H2 ng e2 hg => ?_⟩
    have E2 := x1.trans e2
    refine .inr (req_l (SqL.of (e2 _ _ upd_same)) (SqL.of hg) ?_)
    refine ⟨_, rfl, c, _, rfl, (S.ex E2).either, fun l3 n3 => ⟨by show 1 ≤ sizeLine; decide, fun l4 n4 => rep_l (k := 31) upd_same (by omega) (by omega) fun l5 n5 => ?_⟩⟩
    have x3 := Evl.Ex.new (o := .lst (IV ys)) n3
    have x4 := Evl.Ex.new (o := .lst [V.int 255]) n4
    have x5 := Evl.Ex.new (o := .lst (IV (List.replicate (31 : Int).toNat 255))) n5
    have E5 := ((E2.trans x3).trans x4).trans x5
    refine .inr (req_l (SqL.of (x5 _ _ (x4 _ _ upd_same))) (SqL.of upd_same) ⟨_, _, rfl, ?_⟩)
    have ep : decide (ys = List.replicate (31 : Int).toNat 255) = pln ys := rfl
    have ew : decide (ys = os ++ [zc (bitsL os)]) = decide (ovr ys = 0) := decide_eq_decide.mpr vw.symm
    rw [ep, ew]
    generalize upd (upd (upd H2 l3 (.lst (IV ys))) l4 (.lst [V.int 255])) l5 (.lst (IV (List.replicate (31 : Int).toNat 255))) = H5 at E5 ⊢
    have S5 := S.ex E5
    refine ⟨_, rfl, c, ys, t, rfl, S5, oy, ly, fun v H6 e6 d6 => ⟨_, rfl, c, ys, t, rfl, S5.ex e6, oy, ly, fun H7 e7 => ?_⟩⟩
    have E7 := e6.trans e7
    refine ⟨_, rfl, c, ys, t, rfl, S5.ex E7, oy, ly, fun H8 e8 => ⟨_, rfl, c, ys, t, rfl, S5.ex (E7.trans e8), oy, ly, fun H9 e9 => ?_⟩⟩
    have E9 := (E7.trans e8).trans e9
    refine ⟨_, rfl, _, rfl, b, c, os, ys, false, t, rfl, Sv.lst (E9 _ _ (E5 _ _ hb)), S5.ex E9, oo, oy, lo, ly, fun H10 e10 => ?_⟩
    rw [hr9]
    refine ⟨by show 5 ≤ sizeLine; decide, fun l nl => ?_⟩
    have xl := Evl.Ex.new (o := .lst [v, .bl (decide (ovr ys = 0)), .bl (pln ys), .bl (!decide (ovr ys = 0) && !pln ys), .bl true]) nl
    have hl := upd_same (H := H10) (a := l) (o := .lst [v, .bl (decide (ovr ys = 0)), .bl (pln ys), .bl (!decide (ovr ys = 0) && !pln ys), .bl true])
    have EX := (((e7.trans e8).trans e9).trans e10).trans xl
    have d9 := Dp.ex EX _ _ d6
    have E0 := E5.trans (e6.trans EX)
    have hb9 := E0 _ _ hb
    generalize upd H10 l (.lst [v, .bl (decide (ovr ys = 0)), .bl (pln ys), .bl (!decide (ovr ys = 0) && !pln ys), .bl true]) = H11 at hl d9 hb9 E0 ⊢
    refine ⟨_, rfl, rp (.lst (SqL.of hl) (.cons d9 (.cons (.bl _) (.cons (.bl _) (.cons (.bl _) (.cons (.bl _) .nil)))))) (sh_toldE oy) ?_⟩
    have fin : ∀ (v' : V) (H12 : Hp) (d' : PyData) (x : Bool), Evl.Ex H11 H12 → Dp K H12 v' d' → PyData.list [d', .bool (decide (ovr ys = 0)), .bool (pln ys), .bool x, .bool true] = toldE ys → 5 ≤ sizeLine ∧ ∀ l2, H12 l2 = none → (rRepr K [.ref l2] (upd H12 l2 (.lst [v', .bl (decide (ovr ys = 0)), .bl (pln ys), .bl x, .bl true])) fun y H2 => rEqU K (.str (toldE ys).shown) y H2 Q) := by
      intro v' H12 d' x e10 d10 eq
      refine ⟨by decide, fun l2 n2 => ?_⟩
      have x2 := Evl.Ex.new (o := .lst [v', .bl (decide (ovr ys = 0)), .bl (pln ys), .bl x, .bl true]) n2
      have dd : Dp K (upd H12 l2 (.lst [v', .bl (decide (ovr ys = 0)), .bl (pln ys), .bl x, .bl true])) (.ref l2) (toldE ys) := by
        rw [← eq]
        exact .lst (SqL.of upd_same) (.cons (Dp.ex x2 _ _ d10) (.cons (.bl _) (.cons (.bl _) (.cons (.bl _) (.cons (.bl _) .nil)))))
      refine rp dd (sh_toldE oy) (.inl ⟨rfl, ?_⟩)
      rw [decide_eq_true rfl]
      exact q _ (E0.trans (e10.trans x2))
    by_cases z : ovr ys = 0
    · have d1 : decide (ovr ys = 0) = true := decide_eq_true z
      have t30 : ys.take 30 = os := by rw [vw.mp z, ← lo, List.take_left]
      refine ⟨_, rfl, _, rfl, ?_⟩
      have go : ∀ {A B : Prop}, A → if decide (ovr ys = 0) = true then A else B := fun h => by rw [d1]; exact iteT h
      have stop : ∀ {A B : Prop}, B → if (!decide (ovr ys = 0)) = true then A else B := fun h => by rw [d1]; exact iteF h
      refine go ⟨_, rfl, b, _, rfl, .inl ⟨SqL.of hb9, fun p np => ⟨_, rfl, _, rfl, _, rfl, _, rfl, _, rfl, stop ?_⟩⟩⟩
      exact fin _ _ (DT os) false (Evl.Ex.new np) (dp_t (SqT.of upd_same)) (by unfold toldE; rw [if_pos z, t30, d1]; rfl)
    · have d0 : decide (ovr ys = 0) = false := decide_eq_false z
      refine ⟨_, rfl, _, rfl, ?_⟩
      have go : ∀ {A B : Prop}, B → if decide (ovr ys = 0) = true then A else B := fun h => by rw [d0]; exact iteF h
      have stop : ∀ {A B : Prop}, A → if (!decide (ovr ys = 0)) = true then A else B := fun h => by rw [d0]; exact iteT h
      refine go ⟨_, rfl, _, rfl, _, rfl, _, rfl, _, rfl, stop ⟨_, rfl, _, rfl, ?_⟩⟩
      exact fin _ _ .none _ (Evl.Ex.refl _) .non (by unfold toldE; rw [if_neg z, d0]; rfl)
end
end K10
namespace K10
open PySem PySem.Spec PyProof.Rows L2 VB BM
theorem comp_255 : ∀ p : Nat, p < 256 → (255 - p) ||| p = 255 := by decide +kernel
theorem and255 {m : Nat} (h : m < 256) : m &&& 255 = m := and_255 m h
/-- an octet, of which the bits of p become as in m -/
def mxO (x m p : Int) : Int := Builtin.bitOr (Builtin.bitAnd x (255 - p)) (Builtin.bitAnd m p)
theorem mxO_nat {x m p : Nat} (hp : p < 256) : mxO x m p = (((x &&& (255 - p)) ||| (m &&& p) : Nat) : Int) := by
  unfold mxO
  have e : (255 : Int) - (p : Int) = ((255 - p : Nat) : Int) := by omega
  rw [e, VB.bitAnd_nn, VB.bitAnd_nn, or_nn]
theorem mxO_oct {x m p : Int} (hx : 0 ≤ x ∧ x ≤ 255) (hm : 0 ≤ m ∧ m ≤ 255) (hp : 0 ≤ p ∧ p ≤ 255) : 0 ≤ mxO x m p ∧ mxO x m p ≤ 255 := or_oct (and_oct hx (by omega)) (and_oct hm hp)
theorem mxO_down {x m p : Int} (hx : 0 ≤ x ∧ x ≤ 255) (hm : 0 ≤ m ∧ m ≤ 255) (hp : 0 ≤ p ∧ p ≤ 255) (h : Builtin.bitAnd m x = m) : Builtin.bitAnd (mxO x m p) x = mxO x m p ∧ Builtin.bitAnd m (mxO x m p) = m := by
  obtain ⟨a, rfl⟩ := nat_of hx.1
  obtain ⟨b, rfl⟩ := nat_of hm.1
  obtain ⟨c, rfl⟩ := nat_of hp.1
  rw [VB.bitAnd_nn] at h
  have h' : b &&& a = b := by omega
  rw [mxO_nat (by omega), VB.bitAnd_nn, VB.bitAnd_nn]
  constructor
  · congr 1
    rw [Nat.and_or_distrib_right]
    have e1 : (a &&& (255 - c)) &&& a = a &&& (255 - c) := by rw [Nat.and_comm, ← Nat.and_assoc, Nat.and_self]
    have e2 : (b &&& c) &&& a = b &&& c := by rw [Nat.and_assoc, Nat.and_comm c a, ← Nat.and_assoc, h']
    rw [e1, e2]
  · congr 1
    rw [Nat.and_or_distrib_left]
    have e1 : b &&& (a &&& (255 - c)) = b &&& (255 - c) := by rw [← Nat.and_assoc, h']
    have e2 : b &&& (b &&& c) = b &&& c := by rw [← Nat.and_assoc, Nat.and_self]
    rw [e1, e2, ← Nat.and_or_distrib_left, comp_255 c (by omega), and255 (by omega)]
theorem mxO_up {x p : Int} (hx : 0 ≤ x ∧ x ≤ 255) (hp : 0 ≤ p ∧ p ≤ 255) : Builtin.bitAnd x (mxO x 255 p) = x := by
  obtain ⟨a, rfl⟩ := nat_of hx.1
  obtain ⟨c, rfl⟩ := nat_of hp.1
  have e5 : (255 : Int) = ((255 : Nat) : Int) := rfl
  rw [e5, mxO_nat (by omega), VB.bitAnd_nn]
  congr 1
  rw [Nat.and_or_distrib_left]
  have e1 : a &&& (a &&& (255 - c)) = a &&& (255 - c) := by rw [← Nat.and_assoc, Nat.and_self]
  have e2 : a &&& (255 &&& c) = a &&& c := by rw [← Nat.and_assoc, and255 (by omega)]
  rw [e1, e2, ← Nat.and_or_distrib_left, comp_255 c (by omega), and255 (by omega)]
theorem inn_trans {xs ys zs : List Int} (ox : Oct xs) (oy : Oct ys) (oz : Oct zs) (l1 : xs.length = ys.length) (l2 : ys.length = zs.length) (h1 : Inn xs ys) (h2 : Inn ys zs) : Inn xs zs := by
  intro j hj
  have a1 := h1 j hj
  have a2 := h2 j (by omega)
  have bx := ox _ (List.mem_of_getElem? (getD_get hj))
  have by_ := oy _ (List.mem_of_getElem? (getD_get (xs := ys) (i := j) (by omega)))
  have bz := oz _ (List.mem_of_getElem? (getD_get (xs := zs) (i := j) (by omega)))
  generalize xs.getD j 0 = x at *
  generalize ys.getD j 0 = y at *
  generalize zs.getD j 0 = z at *
  obtain ⟨a, rfl⟩ := nat_of bx.1
  obtain ⟨b, rfl⟩ := nat_of by_.1
  obtain ⟨c, rfl⟩ := nat_of bz.1
  rw [VB.bitAnd_nn] at a1 a2 ⊢
  have e1 : a &&& b = a := by omega
  have e2 : b &&& c = b := by omega
  have e3 : a &&& c = a := by
    rw [← e1, Nat.and_assoc, e2]
  rw [e3]
/-- the page of data is not the clean one -/
theorem page_ne {os : List Int} (lo : os.length = 30) : ¬ os ++ [zc (bitsL os)] = List.replicate 31 255 := by
  intro e
  have b := zc_bound (bitsL os)
  rw [bitsL_len] at b
  have h : (os ++ [zc (bitsL os)]).getD 30 0 = 255 := by
    rw [e]
    rfl
  have h2 : (os ++ [zc (bitsL os)]).getD 30 0 = zc (bitsL os) := by
    rw [List.getD_eq_getElem?_getD, List.getElem?_append_right (by omega), lo]
    rfl
  omega
end K10
namespace K10
open PySem PySem.Spec PyProof.Rows L2 VB BM
section
variable {P : Program} {w : World} {K : PySem.W.Frag} {mg : Str → Option Value} {base : Heap} {f : Addr} {fd : FuncData}
def mxL (xs ms ps : List Int) (i : Nat) : List Int := (List.range i).map fun j => mxO (xs.getD j 0) (ms.getD j 0) (ps.getD j 0)
theorem mxL_snoc (xs ms ps : List Int) (i : Nat) : mxL xs ms ps (i + 1) = mxL xs ms ps i ++ [mxO (xs.getD i 0) (ms.getD i 0) (ps.getD i 0)] := by
  unfold mxL
  rw [List.range_succ, List.map_append]
  rfl
theorem mxL_len (xs ms ps : List Int) (i : Nat) : (mxL xs ms ps i).length = i := by
  unfold mxL
  rw [List.length_map, List.length_range]
theorem mxL_get {xs ms ps : List Int} {i j : Nat} (h : j < i) : (mxL xs ms ps i).getD j 0 = mxO (xs.getD j 0) (ms.getD j 0) (ps.getD j 0) := by
  unfold mxL
  rw [List.getD_eq_getElem?_getD, List.getElem?_map, List.getElem?_range h]
  rfl
theorem getD_oct {xs : List Int} (o : Oct xs) {j : Nat} (h : j < xs.length) : 0 ≤ xs.getD j 0 ∧ xs.getD j 0 ≤ 255 := o _ (List.mem_of_getElem? (getD_get h))
theorem mxL_oct {xs ms ps : List Int} (ox : Oct xs) (om : Oct ms) (op : Oct ps) (lx : xs.length = 31) (lm : ms.length = 31) (lp : ps.length = 31) : Oct (mxL xs ms ps 31) := by
  intro o ho
  unfold mxL at ho
  obtain ⟨j, hj, rfl⟩ := List.mem_map.mp ho
  have hj' := List.mem_range.mp hj
  exact mxO_oct (getD_oct ox (by omega)) (getD_oct om (by omega)) (getD_oct op (by omega))
theorem mxL_down {xs ms ps : List Int} (ox : Oct xs) (om : Oct ms) (op : Oct ps) (lx : xs.length = 31) (lm : ms.length = 31) (lp : ps.length = 31) (h : Inn ms xs) : Inn (mxL xs ms ps 31) xs ∧ Inn ms (mxL xs ms ps 31) := by
  constructor
  · intro j hj
    rw [mxL_len] at hj
    rw [mxL_get hj]
    exact (mxO_down (getD_oct ox (by omega)) (getD_oct om (by omega)) (getD_oct op (by omega)) (h j (by omega))).1
  · intro j hj
    rw [mxL_get (by omega)]
    exact (mxO_down (getD_oct ox (by omega)) (getD_oct om (by omega)) (getD_oct op (by omega)) (h j (by omega))).2
theorem rep_get {j : Nat} (h : j < 31) : (List.replicate 31 (255 : Int)).getD j 0 = 255 := by
  rw [List.getD_eq_getElem?_getD, List.getElem?_replicate, if_pos h]
  rfl
theorem mxL_up {xs ps : List Int} (ox : Oct xs) (op : Oct ps) (lx : xs.length = 31) (lp : ps.length = 31) : Inn xs (mxL xs (List.replicate 31 255) ps 31) := by
  intro j hj
  rw [mxL_get (by omega), rep_get (by omega)]
  exact mxO_up (getD_oct ox hj) (getD_oct op (by omega))
def spPlain : Sp := fun vs H Q _ => ∃ (a : Addr) (n : Int), vs = [.ref a] ∧ Box H a n ∧ n < 60000000 ∧ ∀ H' : Hp, Exb a H H' → Box H' a (n + 1000) → Q (.bl true) H'
theorem ok_plain (T : Txt K mg) (F : FnP K "_law_plain_right" s__law_plain_right f fd) (C__law_take : Cal P w K mg base CX0 1 "_law_take" ["_law_box_here", "_law_many"] spTake) (C__law_data : Cal P w K mg base CX0 3 "_law_data" ["_law_box_here"] spDa)
    (C__law_page : Cal P w K mg base CX0 2 "_law_page" ["_law_data_here"] (spPg K)) (C__law_part : Cal P w K mg base CX0 3 "_law_part" ["_law_box_here"] spPart) (C__law_told_right : Cal P w K mg base CX0 9 "_law_told_right" ["_law_data_here", "_law_page_here"] (spTR K))
    (C_surplus : Cal P w K mg base CX0 8 "surplus" ["octets"] (spSurplus K)) : Fg P w K mg base CX0 10 f fd ["_law_box_here"] spPlain := by
  refine fg_of F sc__law_plain_right (fun vs H Q E h => ?_) (fun cdv A outer s H vs Q E hr h => ⟨_, (PSs.nox (pss_cons (ps_asg (pe_tup (pa_cons (pe_cal C__law_data hr.le pass0 (pa_cons (pv 0) pa_nil)) (pa_cons (pe_op (u_mul (K := K)) (pe_lst (pa_cons pe_int pa_nil)) pe_int) (pa_cons (pe_op (u_mul (K := K)) (pe_lst (pa_cons pe_int pa_nil)) pe_int) pa_nil)))) (pg_tupU (K := K) (n := 3) rfl (pgs_cons (pg_name (i := 1) sc__law_plain_right.nd rfl (by first | exact Or.inl rfl | exact Or.inr rfl)) (pgs_cons (pg_name (i := 2) sc__law_plain_right.nd rfl (by first | exact Or.inl rfl | exact Or.inr rfl)) (pgs_cons (pg_name (i := 3) sc__law_plain_right.nd rfl (by first | exact Or.inl rfl | exact Or.inr rfl)) pgs_nil)))))
  (pss_cons (ps_for PassesOwn.never rfl (pi_range1 rfl T.f_range (pa_cons pe_int pa_nil)) (pg_name (i := 4) sc__law_plain_right.nd rfl (by first | exact Or.inl rfl | exact Or.inr rfl))
  (pss_cons (ps_asg (pe_tup (pa_cons (pe_ix (u_ix (K := K)) (pe_lst (pa_cons (pe_cal C__law_page hr.le pass0 (pa_cons (pv 1) pa_nil)) (pa_cons (pv 3) (pa_cons (pe_cal C__law_page hr.le pass0 (pa_cons (pv 1) pa_nil)) pa_nil)))) (pe_cal C__law_take hr.le pass0 (pa_cons (pv 0) (pa_cons pe_int pa_nil))) (fun _ _ => rfl)) (pa_cons (pe_cal C__law_part hr.le pass0 (pa_cons (pv 0) pa_nil)) pa_nil))) (pg_tupU (K := K) (n := 2) rfl (pgs_cons (pg_name (i := 5) sc__law_plain_right.nd rfl (by first | exact Or.inl rfl | exact Or.inr rfl)) (pgs_cons (pg_name (i := 6) sc__law_plain_right.nd rfl (by first | exact Or.inl rfl | exact Or.inr rfl)) pgs_nil))))
  (pss_cons (ps_setLc (i := 7) (own := [("_law_at", 9)]) rfl sc__law_plain_right.nd rfl rfl (sw_true rfl rfl rfl (by decide +kernel)) (pi_range1 rfl T.f_range (pa_cons pe_int pa_nil)) (blkOk_by (own := [("_law_at", 9)]) (N := ["_law_box_here", "_law_data_here", "_law_here", "_law_clean", "_law_k", "_law_aim", "_law_part_here", "_law_there", "_law_steps", "_law_at"]) (sc := defScope s__law_plain_right) (by decide +kernel)) (fun _ _ _ _ _ => (pg_name (i := 9) sc__law_plain_right.nd rfl (by first | exact Or.inl rfl | exact Or.inr rfl))) (fun _ _ _ _ _ => pts_nil) (fun _ _ _ _ _ => (pe_op op_or (pe_op op_and (pe_ix (u_ix (K := K)) (pv 2) (pv 9) (fun _ _ => rfl)) (pe_op op_sub pe_int (pe_ix (u_ix (K := K)) (pv 6) (pv 9) (fun _ _ => rfl)))) (pe_op op_and (pe_ix (u_ix (K := K)) (pv 5) (pv 9) (fun _ _ => rfl)) (pe_ix (u_ix (K := K)) (pv 6) (pv 9) (fun _ _ => rfl))))))
  (pss_cons (ps_if (pt_not (pt_tru (K := K) (pe_cal C__law_told_right hr.le pass0 (pa_cons (pv 1) (pa_cons (pv 7) pa_nil))) (by intro _; rfl)))
  (pss_one (ps_ret pe_bl)) pss_nil)
  (pss_cons (ps_set (i := 8) sc__law_plain_right.nd rfl (by first | exact Or.inl rfl | exact Or.inr rfl) (pe_op op_sub (pe_cal C_surplus hr.le pass0 (pa_cons (pv 7) pa_nil)) (pe_cal C_surplus hr.le pass0 (pa_cons (pv 2) pa_nil))))
  (pss_cons (ps_if (PW.pt (pw_or (PW.pt (pw_and (pt_cmpR (u_ne (K := K) hr) (pv 8) pe_int (nomark _)) (pw_and1 (pt_cmpR (u_ne (K := K) hr) (pe_cmpR op_gt (pv 8) pe_int (nomark _)) (pe_cmpR (u_eq (K := K) hr) (pv 5) (pv 3) (nomark _)) (nomark _))))) (pw_or1 (PW.pt (pw_and (pt_cmpR (u_eq (K := K) hr) (pv 8) pe_int (nomark _)) (pw_and1 (pt_cmpR (u_ne (K := K) hr) (pv 7) (pv 2) (nomark _))))))))
  (pss_one (ps_ret pe_bl)) pss_nil)
  (pss_cons (ps_set (i := 2) sc__law_plain_right.nd rfl (by first | exact Or.inl rfl | exact Or.inr rfl) (pv 7))
  (pss_one (ps_if (PW.pt (pw_and (pt_cmpR (u_eq (K := K) hr) (pv 2) (pv 3) (nomark _)) (pw_and1 (pt_cmpR (u_eq (K := K) hr) (pe_cal C__law_take hr.le pass0 (pa_cons (pv 0) (pa_cons pe_int pa_nil))) pe_int (nomark _)))))
  (pss_one (ps_set (i := 1) sc__law_plain_right.nd rfl (by first | exact Or.inl rfl | exact Or.inr rfl) (pe_cal C__law_data hr.le pass0 (pa_cons (pv 0) pa_nil)))) pss_nil)))))))))
  (pss_one (ps_ret pe_bl))))), ?_⟩)
  · obtain ⟨a, n, rfl, _⟩ := h
    rfl
  · obtain ⟨a, n, rfl, B, hn, q⟩ := h
    refine ⟨_, rfl, a, n, rfl, B, by omega, fun d H1 os oo lo nd fd1 e1 B1 hd => ?_⟩
    refine ⟨by show 1 ≤ sizeLine; decide, fun l0 n0 => rep_l (k := 31) upd_same (by omega) (by omega) fun l1 n1 => ⟨by show 1 ≤ sizeLine; decide, fun l2 n2 => rep_l (k := 31) upd_same (by omega) (by omega) fun l3 n3 => ⟨by show 3 ≤ sizeLine; decide, fun tp nt => ?_⟩⟩⟩
    have x0 := Evl.Ex.new (o := .lst [V.int 255]) n0
    have x1 := Evl.Ex.new (o := .lst (IV (List.replicate (31 : Int).toNat 255))) n1
    have x2 := Evl.Ex.new (o := .lst [V.int 255]) n2
    have x3 := Evl.Ex.new (o := .lst (IV (List.replicate (31 : Int).toNat 255))) n3
    have xt := Evl.Ex.new (o := .tup [V.ref d, .ref l1, .ref l3]) nt
    have X := (((x0.trans x1).trans x2).trans x3).trans xt
    have h1 := ((x2.trans x3).trans xt) _ _ (upd_same (H := upd H1 l0 (.lst [V.int 255])) (a := l1) (o := .lst (IV (List.replicate (31 : Int).toNat 255))))
    have h3 := xt _ _ (upd_same (H := upd (upd (upd H1 l0 (.lst [V.int 255])) l1 (.lst (IV (List.replicate (31 : Int).toNat 255)))) l2 (.lst [V.int 255])) (a := l3) (o := .lst (IV (List.replicate (31 : Int).toNat 255))))
    have m1 : l1 ≠ a := B1.at (Evl.fresh_back x0 n1)
    have m3 : l3 ≠ a := B1.at (Evl.fresh_back ((x0.trans x1).trans x2) n3)
    have hd4 := X _ _ hd
    have B4 := B1.ex X
    have E4 := e1.trans (Exb.of X)
    refine ⟨tp, _, rfl, SqT.of upd_same, rfl, _, _, rfl, _, _, rfl, _, _, rfl, rfl, ?_⟩
    generalize upd (upd (upd (upd (upd H1 l0 (.lst [V.int 255])) l1 (.lst (IV (List.replicate (31 : Int).toNat 255)))) l2 (.lst [V.int 255])) l3 (.lst (IV (List.replicate (31 : Int).toNat 255)))) tp (.tup [V.ref d, .ref l1, .ref l3]) = H4 at h1 h3 hd4 B4 E4 ⊢
    have lo' : os.length = 30 := lo
    have oc : Oct (List.replicate (31 : Int).toNat 255) := oct_rep (by omega)
    have ow := oct_whole oo lo'
    refine ⟨6, rfl, by omega, by omega, ?_⟩
    refine for_range (lo := 0) (n := 6) (fun i σ H' => ∃ (d h : Addr) (os hs : List Int) (v4 v5 v6 v7 v8 v9 : Option V), σ = [some (.ref a), some (.ref d), some (.ref h), some (.ref l3), v4, v5, v6, v7, v8, v9] ∧ Oct os ∧ os.length = 30 ∧ Oct hs ∧ hs.length = 31 ∧ Inn (os ++ [zc (bitsL os)]) hs ∧ d ≠ a ∧ h ≠ a ∧ H' d = some (.lst (IV os)) ∧ H' h = some (.lst (IV hs)) ∧ H' l3 = some (.lst (IV (List.replicate 31 255))) ∧ Exb a H H' ∧ Box H' a (n + 60 + 150 * i))
      ⟨d, l1, os, _, _, _, _, _, _, _, rfl, oo, lo', oc, by rw [List.length_replicate]; rfl, inn_255 ow.1 ow.2, nd, m1, hd4, h1, h3, E4, B4.le (by omega)⟩ ?_ ?_
    · rintro i σ H5 hi ⟨d, h, os, hs, v4, v5, v6, v7, v8, v9, rfl, oo, lo, oh, lh, inn, nd, nh, hd, hh, hc, e5, B5⟩
      refine ⟨_, rfl, d, os, false, rfl, Sv.lst hd, by omega, fun g1 H6 ng1 e6 hg1 => ⟨_, rfl, _, rfl, d, os, false, rfl, Sv.lst (e6 _ _ hd), by omega, fun g2 H7 ng2 e7 hg2 => ⟨by show 3 ≤ sizeLine; decide, fun tl ntl => ?_⟩⟩⟩
      have x7 := Evl.Ex.new (o := .lst [V.ref g1, .ref l3, .ref g2]) ntl
      have htl := upd_same (H := H7) (a := tl) (o := .lst [V.ref g1, .ref l3, .ref g2])
      have E7 := (e6.trans e7).trans x7
      have k1 := x7 _ _ (e7 _ _ hg1)
      have k2 := x7 _ _ hg2
      have kc := E7 _ _ hc
      have kd := E7 _ _ hd
      have kh := E7 _ _ hh
      have B8 := B5.ex E7
      have E8 := e5.trans (Exb.of E7)
      have na1 := B5.at ng1
      have na2 : g2 ≠ a := (B5.ex e6).at ng2
      have nl3 : l3 ≠ a := by
        rintro rfl
        obtain ⟨_, _, _, _, hb, _⟩ := B5
        rw [hc] at hb
        cases hb
      have ntla : tl ≠ a := (B5.ex (e6.trans e7)).at ntl
      generalize upd H7 tl (.lst [V.ref g1, .ref l3, .ref g2]) = H8 at htl k1 k2 kc kd kh B8 E8 ⊢
      refine ⟨_, rfl, a, 3, _, rfl, B8, by omega, by omega, by omega, fun w H9 w0 w1 e9 B9 => ?_⟩
      have aimc : ∃ (m : Addr) (ms : List Int), atI [V.ref g1, .ref l3, .ref g2] w = some (.ref m) ∧ m ≠ a ∧ H8 m = some (.lst (IV ms)) ∧ ((ms = os ++ [zc (bitsL os)]) ∨ ms = List.replicate 31 255) := by
        have c : w = 0 ∨ w = 1 ∨ w = 2 := by omega
        rcases c with rfl | rfl | rfl
        · exact ⟨g1, _, rfl, na1, k1, .inl rfl⟩
        · exact ⟨l3, _, rfl, nl3, kc, .inr rfl⟩
        · exact ⟨g2, _, rfl, na2, k2, .inl rfl⟩
      obtain ⟨m, ms, hw, nm, hm, cm⟩ := aimc
      refine .inl ⟨tl, _, _, _, rfl, rfl, SqL.of (e9 tl _ ntla htl), hw, ?_⟩
      refine ⟨_, rfl, a, _, rfl, B9, by omega, fun pt H10 ps op lp npt fpt e10 B10 hpt => ⟨by show 2 ≤ sizeLine; decide, fun t2 nt2 => ?_⟩⟩
      have xt2 := Evl.Ex.new (o := .tup [V.ref m, .ref pt]) nt2
      have E11 := ((E8.trans e9).trans e10).trans (Exb.of xt2)
      have j : ∀ x u, x ≠ a → H8 x = some u → upd H10 t2 (.tup [V.ref m, .ref pt]) x = some u := fun x u nx hx => xt2 _ _ (e10 x _ nx (e9 x _ nx hx))
      have hm11 := j _ _ nm hm
      have hc11 := j _ _ nl3 kc
      have hd11 := j _ _ nd kd
      have hh11 := j _ _ nh kh
      have hp11 := xt2 _ _ hpt
      have B11 := B10.ex xt2
      refine ⟨t2, _, rfl, SqT.of upd_same, rfl, _, _, rfl, _, _, rfl, rfl, ?_⟩
      generalize upd H10 t2 (.tup [V.ref m, .ref pt]) = H11 at E11 hm11 hc11 hd11 hh11 hp11 B11 ⊢
      have ow := oct_whole oo lo
      have om : Oct ms := by
        rcases cm with rfl | rfl
        · exact ow.1
        · exact oct_rep (by omega)
      have lm : ms.length = 31 := by
        rcases cm with rfl | rfl
        · exact ow.2
        · rw [List.length_replicate]
      have lp' : ps.length = 31 := lp
      refine ⟨31, rfl, by omega, by omega, fun D hD => ?_⟩
      refine lc_range (lo := 0) (n := 31) (fun i H' => i ≤ 31 ∧ Evl.Ex H11 H' ∧ H' D = some (.lst (IV (mxL hs ms ps i)))) ⟨by omega, Evl.Ex.new hD, upd_same⟩ ?_ ?_
      · rintro j Hz hj ⟨_, e12, hz⟩
        have e0 : (0 : Int) + (j : Int) = (j : Int) := Int.zero_add _
        rw [e0]
        refine ⟨rfl, ?_⟩
        refine ⟨_, rfl, _, rfl, .inl ⟨h, _, _, _, rfl, rfl, SqL.of (e12 _ _ hh11), iv_at (getD_get (by omega)), ?_⟩⟩
        refine ⟨_, rfl, _, rfl, .inl ⟨pt, _, _, _, rfl, rfl, SqL.of (e12 _ _ hp11), iv_at (getD_get (by omega)), _, _, rfl, rfl, _, _, rfl, rfl, ?_⟩⟩
        refine ⟨_, rfl, _, rfl, .inl ⟨m, _, _, _, rfl, rfl, SqL.of (e12 _ _ hm11), iv_at (getD_get (by omega)), ?_⟩⟩
        refine ⟨_, rfl, _, rfl, .inl ⟨pt, _, _, _, rfl, rfl, SqL.of (e12 _ _ hp11), iv_at (getD_get (by omega)), _, _, rfl, rfl, _, _, rfl, rfl, ?_⟩⟩
        refine ⟨_, hz, by rw [iv_len, mxL_len]; exact Evl.sz_lt (by omega), by omega, Evl.Ex.mut e12 hD, ?_⟩
        rw [upd_same, mxL_snoc]
        exact congrArg (fun z => some (HO.lst z)) (iv_snoc _ _)
      rintro H12 ⟨_, e12, hz⟩
      have ot := mxL_oct oh om op lh lm lp'
      have lt := mxL_len hs ms ps 31
      have nD := B11.at hD
      have moves : (ms = os ++ [zc (bitsL os)] → Inn (mxL hs ms ps 31) hs) ∧ (ms = List.replicate 31 255 → Inn hs (mxL hs ms ps 31)) ∧ Inn (os ++ [zc (bitsL os)]) (mxL hs ms ps 31) := by
        refine ⟨fun e => (mxL_down oh om op lh lm lp' (by rw [e]; exact inn)).1, fun e => by rw [e]; exact mxL_up oh op lh lp', ?_⟩
        rcases cm with e | e
        · have := (mxL_down oh om op lh lm lp' (by rw [e]; exact inn)).2
          rw [e] at this ⊢
          exact this
        · have u : Inn hs (mxL hs ms ps 31) := by rw [e]; exact mxL_up oh op lh lp'
          exact inn_trans ow.1 oh ot (by rw [ow.2, lh]) (by rw [lh, lt]) inn u
      generalize mxL hs ms ps 31 = ts at hz ot lt moves
      have hd12 := e12 _ _ hd11
      have hh12 := e12 _ _ hh11
      have hm12 := e12 _ _ hm11
      have hc12 := e12 _ _ hc11
      refine ⟨_, rfl, _, rfl, d, D, os, ts, false, rfl, hd12, Sv.lst hz, oo, ot, lo, lt, (rest_inn lo).mpr moves.2.2, fun H13 e13 => ⟨true, rfl, iteF ?_⟩⟩
      refine ⟨_, rfl, D, ts, false, rfl, Sv.lst (e13 _ _ hz), ot, lt, fun H14 e14 => ⟨_, rfl, h, hs, false, rfl, Sv.lst (e14 _ _ (e13 _ _ hh12)), oh, lh, fun H15 e15 => ⟨_, _, rfl, rfl, ?_⟩⟩⟩
      have E15 := (e13.trans e14).trans e15
      have hz15 := E15 _ _ hz
      have hd15 := E15 _ _ hd12
      have hh15 := E15 _ _ hh12
      have hm15 := E15 _ _ hm12
      have hc15 := E15 _ _ hc12
      have B15 := B11.ex (e12.trans E15)
      have E16 := E11.trans (Exb.of (e12.trans E15))
      have o1 := ovr_mono ot oh lt lh
      have o2 := ovr_mono oh ot lh lt
      have eth : ovr ts - ovr hs = 0 → ts = hs := by
        intro z
        rcases cm with e | e
        · exact ((o1 (moves.1 e)).2 (by omega)).symm
        · exact (o2 (moves.2.1 e)).2 (by omega)
      have esg : ¬ ovr ts - ovr hs = 0 → decide (0 < ovr ts - ovr hs) = decide (ms = List.replicate 31 255) := by
        intro z
        refine decide_eq_decide.mpr ?_
        rcases cm with e | e
        · have h1 := (o1 (moves.1 e)).1
          exact ⟨fun y => by omega, fun y => absurd (e.symm.trans y) (page_ne lo)⟩
        · have h1 := (o2 (moves.2.1 e)).1
          exact ⟨fun _ => e, fun _ => by omega⟩
      apply once
      · intro rest
        by_cases z : ovr ts - ovr hs = 0
        · refine ⟨_, rfl, .inl ⟨rfl, _, rfl, ?_⟩⟩
          rw [dec_int, decide_eq_true z]
          refine iteF (iteF ⟨_, rfl, .inl ⟨rfl, _, rfl, ?_⟩⟩)
          rw [dec_int, decide_eq_true z]
          refine iteT ⟨_, rfl, _, rfl, .inr (rne_l (ns := ts) (ms := hs) (SqL.of hz15) (SqL.of hh15) ⟨_, rfl, ?_⟩)⟩
          rw [decide_eq_true (eth z)]
          exact iteF rest
        · refine ⟨_, rfl, .inl ⟨rfl, _, rfl, ?_⟩⟩
          rw [dec_int, decide_eq_false z]
          refine iteT ⟨_, rfl, _, _, rfl, rfl, _, rfl, _, rfl, .inr (req_l (SqL.of hm15) (SqL.of hc15) (.inl ⟨rfl, _, rfl, ?_⟩))⟩
          refine same_bl (esg z) ?_
          refine ⟨_, rfl, .inl ⟨rfl, _, rfl, ?_⟩⟩
          rw [dec_int, decide_eq_false z]
          exact iteF (iteF rest)
      refine ⟨_, rfl, ?_⟩
      have hz0 := hz15
      refine ⟨_, rfl, _, rfl, .inr (req_l (SqL.of hz15) (SqL.of hc15) ⟨_, rfl, if_dec (fun ec => ?_) (fun ec => ?_)⟩)⟩
      · refine ⟨_, rfl, a, 2, _, rfl, B15, by omega, by omega, by omega, fun r H17 r0 r1 e17 B17 => .inl ⟨rfl, _, rfl, if_eq (fun h0 => ?_) (fun h0 => ?_)⟩⟩
        · refine ⟨_, rfl, a, _, rfl, B17, by omega, fun d' H18 os' oo' lo'' nd' fd' e18 B18 hd18 => ?_⟩
          have lo3 : os'.length = 30 := lo''
          have ow' := oct_whole oo' lo3
          refine ⟨d', D, os', ts, _, _, _, _, _, _, rfl, oo', lo3, ot, lt, ?_, nd', nD, hd18, e18 _ _ nD (e17 _ _ nD hz15), e18 _ _ nl3 (e17 _ _ nl3 hc15), (E16.trans e17).trans e18, B18.le (by omega)⟩
          rw [ec]
          exact inn_255 ow'.1 ow'.2
        · exact ⟨d, D, os, ts, _, _, _, _, _, _, rfl, oo, lo, ot, lt, moves.2.2, nd, nD, e17 _ _ nd hd15, e17 _ _ nD hz15, e17 _ _ nl3 hc15, E16.trans e17, B17.le (by omega)⟩
      · exact ⟨d, D, os, ts, _, _, _, _, _, _, rfl, oo, lo, ot, lt, moves.2.2, nd, nD, hd15, hz15, hc15, E16, B15.le (by omega)⟩
    · rintro σ H5 ⟨d, h, os, hs, v4, v5, v6, v7, v8, v9, rfl, oo, lo, oh, lh, inn, nd, nh, hd, hh, hc, e5, B5⟩
      exact q _ e5 (B5.le (by omega))
end
end K10
/-! methods called within a try -/
namespace VB
open PySem PySem.Spec PyProof.Rows L2
def tMethS (C : Addr) (m : Str) (sp : Sp) (E : L2.St → XK) (ta : TE) (t : TA) : TE := fun σ H Q => tMeth C m sp [] (E σ) ta t σ H Q
section
variable {X : Cx} {CX : CXT} {k n : Nat} {ps ks : List Str} {sp : Sp} {E : L2.St → XK} {x m : Str} {p pos apos : Pos} {C : Addr} {e o : Expr} {es : List Expr} {t tk : TA} {ta : TE}
theorem pe_calMS {pl : Sem Bool} (M : CalM X.prog X.w X.K X.mg X.base CX k C m ps sp) (hr : Rm k X.A) (hx : ∀ σ, PassesAt CX X σ (E σ)) (he : PE X o ta) (ha : PA X (e :: es) t)
    (hst : starEach (e :: es) X.env = (false, eval e X.env) :: starEach es X.env := by rfl) (hpl : (backTo pos (starEach es X.env)).any (·.1) = false := by rfl)
    (ht : eval (.Call (.Attribute o m apos) (e :: es) [] pos) X.env = askM X o m pl apos pos (e :: es) := by rfl) :
    PE X (.Call (.Attribute o m apos) (e :: es) [] pos) (tMethS C m sp E ta t) := by
  obtain ⟨f, fd, F, c, hm, hb⟩ := M.ex
  constructor
  intro pins s σ H Q I h
  refine PySem.W.methodCall_KW (pl := pl) (thn (he.run pins s σ H _ I h) ?_) ht
  rintro u s1 ⟨x, H1, I1, rx, a, dx, fs, rfl, ea, l, q⟩
  obtain rfl : u = Value.ref a := rx
  refine getmeth_ok I1 ea c hm l ?_
  refine PySem.W.callWith_K (first := [.ref a]) (h₀ := X.base) I.ok.mod.kin hm.kp (thn (ha.run pos pins s1 σ H1 _ I1 q) ?_) hst hpl
  rintro us s2 ⟨vs, H2, I2, r, q2⟩
  have q3 : sp (.ref a :: (vs ++ [])) H2 Q (E σ) := q2
  rw [List.append_nil] at q3
  have r2 : Vals (V.ref a :: vs) (Value.ref a :: us) := .cons rfl r
  have b := hb s2 (.ref a :: us) I2.kIn (by rw [List.append_nil, ← r2.length]; exact F.cnt _ _ _ _ q3)
  rw [List.append_nil] at b
  exact ⟨I2.kIn, enterS (args := ⟨.ref a :: us, []⟩) F hr (hx σ) I2 b r2 q3⟩
theorem takes_no : Takes X (fun _ _ _ _ => False) := fun _ _ ⟨_, _, _, _, _, _, _, _, _, _, _, _, _, _, _, _, w⟩ => w.elim
theorem op_isT : OpR X (compareOp .Is) (fun x y H Q => ∃ b : Bool, y = .bl b ∧ (x = .non ∨ ∃ a, x = .bl a) ∧ Q (.bl (decide (x = .bl b))) H) := by
  intro pins s σ H x y v u Q I rx ry h
  obtain ⟨b, rfl, hx, q⟩ := h
  cases (show u = Value.bool b from ry)
  rcases hx with rfl | ⟨a, rfl⟩
  · cases (show v = Value.none from rx)
    exact wpAny_is_other rfl (fun z => by cases z) ⟨.bl false, H, I, rfl, by simpa using q⟩
  · cases (show v = Value.bool a from rx)
    by_cases e : a = b
    · subst e
      exact wpAny_is_self rfl ⟨.bl true, H, I, rfl, by simpa using q⟩
    · exact wpAny_is_other rfl (fun z => e (Value.bool.inj z)) ⟨.bl false, H, I, rfl, by simpa [e] using q⟩
end
end VB
namespace K10
open PySem PySem.Spec PyProof.Rows L2 VB BM
section
variable {P : Program} {w : World} {K : PySem.W.Frag} {mg : Str → Option Value} {base : Heap} {f : Addr} {fd : FuncData}
/-- an op that is caught -/
def spDone (K : PySem.W.Frag) (CP : Addr) : Sp := fun vs H Q _ => ∃ (a dx : Addr) (s : CS) (b : Nat), ChipAt K H a dx s ∧ b < s.os.length ∧ Plan s.kp ∧ Plan s.kq ∧
  ((∃ p : Int, vs = [.ref a, .int (b : Int), .int p, .non] ∧ Ends K CP a dx (s.erased b) b (List.replicate (31 * s.c.pages.toNat) 255) H Q (fun _ _ H' => Q .non H')) ∨
   (∃ (p : Nat) (wv : Addr) (ws : List Int) (t : Bool), vs = [.ref a, .int (b : Int), .int (p : Int), .ref wv] ∧ (p : Int) < s.c.pages ∧ Sv t K H wv (IV ws) ∧ Oct ws ∧ ws.length = 31 ∧ Ends K CP a dx s b (wrote (s.os.getD b []) ws p) H Q (fun _ _ H' => Q .non H')))
theorem ok_done {CP fI : Addr} (T : Txt K mg) (xm : PySem.W.exmOne K (.ref CP) (.ref CP) = some true) (F : FnP K "_law_done" s__law_done f fd) (E_PowerCut : MkE P w K mg base "PowerCut" "op" CP fI)
    (M_Chip__erase : CalM P w K mg base (CX P w) 8 (Ch K) "erase" ["self", "block"] (spEr K CP)) (M_Chip__write : CalM P w K mg base (CX P w) 8 (Ch K) "write" ["self", "block", "page", "octets"] (spWr K CP)) :
    Fg P w K mg base CX0 9 f fd ["_law_chip", "_law_block", "_law_page_here", "_law_octets"] (spDone K CP) := by
  refine fg_of F sc__law_done (fun vs H Q E h => ?_) (fun cdv A outer s₀ H vs Q E hr h => ⟨_, (pss_one (ps_try_only (c := .ref CP) rfl rfl ⟨rfl, by decide, .inl E_PowerCut.err.gC⟩ takes_no
    (fun W pn xe tk pa => pss_one (ps_ret (pe_ifExp (pt_cmpR op_isN (pv 3) pe_non (nomark _)) (pe_calMS M_Chip__erase hr.le (passAt tk) (pv 0) (pa_cons (pv 1) pa_nil)) (pe_calMS M_Chip__write hr.le (passAt tk) (pv 0) (pa_cons (pv 1) (pa_cons (pv 2) (pa_cons (pv 3) pa_nil)))))))
    (fun a oe cls d pn hz hv => pss_one (ps_ret pe_non)))), ?_⟩)
  · obtain ⟨a, dx, s, b, _, _, _, _, ⟨p, rfl, _⟩ | ⟨p, wv, ws, t, rfl, _⟩⟩ := h <;> rfl
  · obtain ⟨a, dx, s, b, hc, hb, pl, ql, ⟨p, rfl, q⟩ | ⟨p, wv, ws, t, rfl, hp, S, ow, lw, q⟩⟩ := h
    · refine ⟨_, rfl, rfl, _, rfl, ?_⟩
      rw [decide_eq_true (show V.non = V.non from rfl)]
      refine iteT ⟨_, rfl, a, dx, _, rfl, hc.ins, rfl, _, rfl, a, dx, s, b, rfl, hc, hb, pl, ql, ?_, q.2⟩
      exact fun m s' d H' h1 h2 h3 h4 h5 h6 => ⟨true, xm, fun _ _ _ => q.1 m s' d H' h1 h2 h3 h4 h5 h6, fun z => by cases z⟩
    · refine ⟨_, rfl, rfl, _, rfl, ?_⟩
      rw [decide_eq_false (show ¬ V.ref wv = V.non from fun z => by cases z)]
      refine iteF ⟨_, rfl, a, dx, _, rfl, hc.ins, rfl, _, rfl, _, rfl, _, rfl, a, dx, s, b, p, wv, ws, t, rfl, hc, hb, hp, S, ow, lw, pl, ql, ?_, q.2⟩
      exact fun m s' d H' h1 h2 h3 h4 h5 h6 => ⟨true, xm, fun _ _ _ => q.1 m s' d H' h1 h2 h3 h4 h5 h6, fun z => by cases z⟩
end
end K10
namespace K10
open PySem PySem.Spec PyProof.Rows L2 VB BM
theorem inn_cons {x y : Int} {xs ys : List Int} (h : Inn (x :: xs) (y :: ys)) : Builtin.bitAnd x y = x ∧ Inn xs ys := by
  refine ⟨h 0 (by simp), fun j hj => ?_⟩
  have := h (j + 1) (by simp; omega)
  simpa using this
theorem cons_inn {x y : Int} {xs ys : List Int} (h1 : Builtin.bitAnd x y = x) (h2 : Inn xs ys) : Inn (x :: xs) (y :: ys) := by
  intro j hj
  cases j with
  | zero => simpa using h1
  | succ j =>
    have := h2 j (by simpa using hj)
    simpa using this
theorem le_zip : ∀ {as bs : List Int}, Bit as → Bit bs → Le as bs → List.zipWith (fun a b : Int => if a = 1 ∧ b = 1 then (1 : Int) else 0) as bs = as
  | [], [], _, _, _ => rfl
  | a :: as, b :: bs, ha, hb, h => by
    obtain ⟨h1, h2⟩ := (show a ≤ b ∧ Le as bs from h)
    rw [List.zipWith_cons_cons, le_zip (fun z hz => ha z (List.mem_cons_of_mem _ hz)) (fun z hz => hb z (List.mem_cons_of_mem _ hz)) h2]
    have a1 := ha a (List.mem_cons_self ..)
    have b1 := hb b (List.mem_cons_self ..)
    congr 1
    rcases a1 with rfl | rfl <;> rcases b1 with rfl | rfl <;> first | rfl | omega
  | [], _ :: _, _, _, h => by cases h
  | _ :: _, [], _, _, h => by cases h
theorem le_split : ∀ {as bs cs ds : List Int}, as.length = bs.length → Le (as ++ cs) (bs ++ ds) → Le as bs ∧ Le cs ds
  | [], [], cs, ds, _, h => ⟨trivial, h⟩
  | a :: as, b :: bs, cs, ds, l, h => by
    obtain ⟨h1, h2⟩ := (show a ≤ b ∧ Le (as ++ cs) (bs ++ ds) from h)
    obtain ⟨h3, h4⟩ := le_split (by simpa using l) h2
    exact ⟨⟨h1, h3⟩, h4⟩
  | [], _ :: _, _, _, l, _ => by cases l
  | _ :: _, [], _, _, l, _ => by cases l
theorem and_bitsO {x y : Int} (hx : 0 ≤ x ∧ x ≤ 255) (hy : 0 ≤ y ∧ y ≤ 255) : bitsOf (Builtin.bitAnd x y) = List.zipWith (fun a b => if a = 1 ∧ b = 1 then (1 : Int) else 0) (bitsOf x) (bitsOf y) := by
  obtain ⟨a, rfl⟩ := nat_of hx.1
  obtain ⟨b, rfl⟩ := nat_of hy.1
  rw [VB.bitAnd_nn, bitsOf_tb, bitsOf_tb, bitsOf_tb]
  simp only [List.zipWith, tb_and]
theorem le_oct {x y : Int} (hx : 0 ≤ x ∧ x ≤ 255) (hy : 0 ≤ y ∧ y ≤ 255) (h : Le (bitsOf x) (bitsOf y)) : Builtin.bitAnd x y = x := by
  have e := and_bitsO hx hy
  rw [le_zip (fun _ hb => bitsOf_bit hb) (fun _ hb => bitsOf_bit hb) h] at e
  have e2 := congrArg octOf e
  rw [octOf_bitsOf (and_oct hx hy), octOf_bitsOf hx] at e2
  exact e2
theorem oct_le {x y : Int} (hx : 0 ≤ x ∧ x ≤ 255) (hy : 0 ≤ y ∧ y ≤ 255) (h : Builtin.bitAnd x y = x) : Le (bitsOf x) (bitsOf y) := by
  have e := (oct_and hy hx).2
  rw [and_comm_o hy.1 hx.1, h] at e
  exact e
theorem oct_tail {x : Int} {xs : List Int} (h : Oct (x :: xs)) : (0 ≤ x ∧ x ≤ 255) ∧ Oct xs := ⟨h x (List.mem_cons_self ..), fun z hz => h z (List.mem_cons_of_mem _ hz)⟩
theorem inn_le : ∀ {xs ys : List Int}, Oct xs → Oct ys → xs.length = ys.length → Inn xs ys → Le (bitsL xs) (bitsL ys)
  | [], [], _, _, _, _ => Le.refl _
  | x :: xs, y :: ys, ox, oy, l, h => by
    obtain ⟨h1, h2⟩ := inn_cons h
    rw [bitsL_cons, bitsL_cons]
    exact le_app (oct_le (oct_tail ox).1 (oct_tail oy).1 h1) (inn_le (oct_tail ox).2 (oct_tail oy).2 (by simpa using l) h2)
  | [], _ :: _, _, _, l, _ => by cases l
  | _ :: _, [], _, _, l, _ => by cases l
theorem le_inn : ∀ {xs ys : List Int}, Oct xs → Oct ys → xs.length = ys.length → Le (bitsL xs) (bitsL ys) → Inn xs ys
  | [], [], _, _, _, _ => fun j hj => by cases hj
  | x :: xs, y :: ys, ox, oy, l, h => by
    rw [bitsL_cons, bitsL_cons] at h
    obtain ⟨h1, h2⟩ := le_split (as := bitsOf x) (bs := bitsOf y) rfl h
    exact cons_inn (le_oct (oct_tail ox).1 (oct_tail oy).1 h1) (le_inn (oct_tail ox).2 (oct_tail oy).2 (by simpa using l) h2)
  | [], _ :: _, _, _, l, _ => by cases l
  | _ :: _, [], _, _, l, _ => by cases l
theorem inn_anti {xs ys : List Int} (ox : Oct xs) (oy : Oct ys) (l : xs.length = ys.length) (h1 : Inn xs ys) (h2 : Inn ys xs) : xs = ys := by
  refine List.ext_getElem l fun j hj hj2 => ?_
  have a1 := h1 j hj
  have a2 := h2 j hj2
  have bx := getD_oct ox hj
  have by_ := getD_oct oy hj2
  have e1 : xs.getD j 0 = xs[j] := by rw [List.getD_eq_getElem?_getD, List.getElem?_eq_getElem hj]; rfl
  have e2 : ys.getD j 0 = ys[j] := by rw [List.getD_eq_getElem?_getD, List.getElem?_eq_getElem hj2]; rfl
  rw [← e1, ← e2, ← a1, and_comm_o bx.1 by_.1, a2]
/-- what comes of a mask -/
def mixL (X Y : List Int) (m : Int) : List Int := octetsL (turned (bitsL X) (bitsL Y) m)
theorem mixL_spec {X Y : List Int} (m : Int) (l : X.length = Y.length) : bitsL (mixL X Y m) = turned (bitsL X) (bitsL Y) m ∧ Oct (mixL X Y m) ∧ (mixL X Y m).length = X.length := by
  have lb : (bitsL X).length = (bitsL Y).length := by rw [bitsL_len, bitsL_len, l]
  exact octetsL_spec (n := X.length) (by rw [turned_len _ _ _ lb, bitsL_len]) (turned_bit _ _ _ (bitsL_bit _) (bitsL_bit _))
theorem mix_down {X Y : List Int} (m : Int) (ox : Oct X) (oy : Oct Y) (l : X.length = Y.length) (h : Inn Y X) : Inn Y (mixL X Y m) ∧ Inn (mixL X Y m) X := by
  obtain ⟨e, oz, lz⟩ := mixL_spec m l
  have t := turned_down m (inn_le oy ox l.symm h)
  rw [← e] at t
  exact ⟨le_inn oy oz (by omega) t.1, le_inn oz ox lz t.2⟩
theorem mix_up {X Y : List Int} (m : Int) (ox : Oct X) (oy : Oct Y) (l : X.length = Y.length) (h : Inn X Y) : Inn X (mixL X Y m) ∧ Inn (mixL X Y m) Y := by
  obtain ⟨e, oz, lz⟩ := mixL_spec m l
  have t := turned_up m (inn_le ox oy l h)
  rw [← e] at t
  exact ⟨le_inn ox oz (by omega) t.1, le_inn oz oy (by omega) t.2⟩
/-! ### pages of a block -/
def pg (X : List Int) (p : Nat) : List Int := (X.drop (31 * p)).take 31
theorem pg_len {X : List Int} {p : Nat} (l : X.length = 248) (h : p < 8) : (pg X p).length = 31 := by
  unfold pg
  rw [List.length_take, List.length_drop]
  omega
theorem pg_get {X : List Int} {p j : Nat} (h : j < 31) : (pg X p).getD j 0 = X.getD (31 * p + j) 0 := by
  unfold pg
  rw [List.getD_eq_getElem?_getD, List.getElem?_take, if_pos h, List.getElem?_drop, ← List.getD_eq_getElem?_getD]
theorem pg_oct {X : List Int} (o : Oct X) (p : Nat) : Oct (pg X p) := fun x hx => o x (List.mem_of_mem_drop (List.mem_of_mem_take hx))
theorem pg_inn {X Y : List Int} (l : X.length = 248) {p : Nat} (hp : p < 8) (h : Inn X Y) : Inn (pg X p) (pg Y p) := by
  intro j hj
  rw [pg_len l hp] at hj
  rw [pg_get hj, pg_get hj]
  exact h _ (by omega)
theorem wrote_len {X ws : List Int} {p : Nat} (l : X.length = 248) (lw : ws.length = 31) (hp : p < 8) : (wrote X ws p).length = 248 := by
  have l1 := pg_len l hp
  have b := both_len (f := Builtin.bitAnd) (xs := pg X p) (ys := ws) (by omega)
  unfold wrote
  rw [List.length_append, List.length_append, List.length_take, List.length_drop]
  show _ + ((both Builtin.bitAnd (pg X p) ws).length + _) = _
  omega
theorem wrote_get {X ws : List Int} {p i : Nat} (l : X.length = 248) (lw : ws.length = 31) (hp : p < 8) : (wrote X ws p).getD i 0 = if 31 * p ≤ i ∧ i < 31 * p + 31 then Builtin.bitAnd (X.getD i 0) (ws.getD (i - 31 * p) 0) else X.getD i 0 := by
  have l1 := pg_len l hp
  have b := both_len (f := Builtin.bitAnd) (xs := pg X p) (ys := ws) (by omega)
  have lt : (X.take (31 * p)).length = 31 * p := by rw [List.length_take]; omega
  unfold wrote
  show (X.take (31 * p) ++ (both Builtin.bitAnd (pg X p) ws ++ X.drop (31 * p + 31))).getD i 0 = _
  rw [List.getD_eq_getElem?_getD]
  by_cases h1 : i < 31 * p
  · rw [if_neg (by omega), List.getElem?_append_left (by omega), List.getElem?_take, if_pos h1, ← List.getD_eq_getElem?_getD]
  · rw [List.getElem?_append_right (by omega), lt]
    by_cases h2 : i < 31 * p + 31
    · rw [if_pos ⟨by omega, h2⟩, List.getElem?_append_left (by omega)]
      obtain ⟨y, hy⟩ := get_lt (l := both Builtin.bitAnd (pg X p) ws) (i := i - 31 * p) (by omega)
      obtain ⟨x1, w1, e1, e2, rfl⟩ := both_get hy
      have e3 := pg_get (X := X) (p := p) (j := i - 31 * p) (by omega)
      rw [List.getD_eq_getElem?_getD, e1] at e3
      have ei : 31 * p + (i - 31 * p) = i := by omega
      rw [ei] at e3
      rw [hy, ← e3, List.getD_eq_getElem?_getD, e2]
      rfl
    · rw [if_neg (by omega), List.getElem?_append_right (by omega), b, l1, List.getElem?_drop, ← List.getD_eq_getElem?_getD]
      congr 1
      omega
theorem and_self_o {x y : Int} (hx : 0 ≤ x ∧ x ≤ 255) (hy : 0 ≤ y ∧ y ≤ 255) : Builtin.bitAnd (Builtin.bitAnd x y) x = Builtin.bitAnd x y := by
  obtain ⟨a, rfl⟩ := nat_of hx.1
  obtain ⟨b, rfl⟩ := nat_of hy.1
  rw [VB.bitAnd_nn, VB.bitAnd_nn]
  congr 1
  rw [Nat.and_assoc, Nat.and_comm b a, ← Nat.and_assoc, Nat.and_self]
theorem and_same {x : Int} (hx : 0 ≤ x ∧ x ≤ 255) : Builtin.bitAnd x x = x := by
  obtain ⟨a, rfl⟩ := nat_of hx.1
  rw [VB.bitAnd_nn, Nat.and_self]
theorem wrote_inn {X ws : List Int} {p : Nat} (ox : Oct X) (ow : Oct ws) (l : X.length = 248) (lw : ws.length = 31) (hp : p < 8) : Inn (wrote X ws p) X := by
  intro i hi
  rw [wrote_len l lw hp] at hi
  rw [wrote_get l lw hp]
  have bx := getD_oct ox (j := i) (by omega)
  split
  · exact and_self_o bx (getD_oct ow (by omega))
  · exact and_same bx
theorem wrote_other {X ws : List Int} {p q : Nat} (l : X.length = 248) (lw : ws.length = 31) (hp : p < 8) (hq : q < 8) (n : q ≠ p) : pg (wrote X ws p) q = pg X q := by
  refine List.ext_getElem (by rw [pg_len (wrote_len l lw hp) hq, pg_len l hq]) fun j h1 h2 => ?_
  have hj : j < 31 := by rw [pg_len l hq] at h2; exact h2
  have e1 := pg_get (X := wrote X ws p) (p := q) hj
  have e2 := pg_get (X := X) (p := q) hj
  rw [wrote_get l lw hp, if_neg (by omega), ← e2, List.getD_eq_getElem?_getD, List.getD_eq_getElem?_getD, List.getElem?_eq_getElem h1, List.getElem?_eq_getElem h2] at e1
  exact e1
/-- on a rest: just what is written -/
theorem wrote_rest {X ws : List Int} {p : Nat} (ox : Oct X) (ow : Oct ws) (l : X.length = 248) (lw : ws.length = 31) (hp : p < 8) (h : Inn ws (pg X p)) : pg (wrote X ws p) p = ws := by
  refine List.ext_getElem (by rw [pg_len (wrote_len l lw hp) hp, lw]) fun j h1 h2 => ?_
  have hj : j < 31 := by omega
  have e1 := pg_get (X := wrote X ws p) (p := p) hj
  have h3 := h j h2
  rw [pg_get hj] at h3
  have bx := getD_oct ox (j := 31 * p + j) (by omega)
  have bw := getD_oct ow h2
  have e5 : 31 * p + j - 31 * p = j := by omega
  rw [wrote_get l lw hp, if_pos (by omega), e5, and_comm_o bx.1 bw.1, h3, List.getD_eq_getElem?_getD, List.getD_eq_getElem?_getD, List.getElem?_eq_getElem h1, List.getElem?_eq_getElem h2] at e1
  exact e1
end K10
namespace K10
open PySem PySem.Spec PyProof.Rows L2 VB BM
section
variable {K : PySem.W.Frag}
/-- what an op does to a chip, for what comes after -/
def Rs (s s' : CS) (b : Nat) (ns : List Int) (v : Bool) : Prop := (s'.c.pages = s.c.pages ∧ s'.c.o = s.c.o ∧ s'.c.e = s.c.e ∧ s'.c.t = s.c.t ∧ s'.c.p = s.c.p ∧ s'.c.q = s.c.q ∧ s'.c.r = s.c.r ∧ s'.os.length = s.os.length ∧ s'.kp = dropK s.kp (Sum.inl s.c.ops : Key) ∧ s'.kq = dropK s.kq (Sum.inl s.c.ops : Key)) ∧
  ((s'.os.getD b [] = s.os.getD b [] ∧ v = false) ∨ (∃ m, s'.os.getD b [] = mixL (s.os.getD b []) ns m ∧ v = false) ∨ s'.os.getD b [] = ns)
theorem ends_rs {CP a dx : Addr} {s : CS} {b : Nat} {ns : List Int} {H : Hp} {Q : VK} (hb : b < s.os.length)
    (q : ∀ (s' : CS) (r : V) (v : Bool) (H' : Hp), Fr a s.c H H' → ChipAt K H' a dx s' → Rs s s' b ns v → (r = .bl v ∨ (r = .non ∧ v = false)) → Q r H') : Ends K CP a dx s b ns H Q (fun _ _ H' => Q .non H') := by
  have g : ∀ (y : List Int), (s.os.set b y).getD b [] = y := fun y => by rw [getD_set _ _ _ _ _ hb, if_pos rfl]
  refine ⟨fun m s' d H' _ hf _ _ hc hs => ?_, fun s' v H' _ hf hc hs => ?_⟩
  · obtain ⟨r, rfl⟩ := hs
    refine q _ .non false H' hf hc ?_ (.inr ⟨rfl, rfl⟩)
    by_cases z : s.tb.getD b false = true
    · rw [if_pos z]
      exact ⟨⟨rfl, rfl, rfl, rfl, rfl, rfl, rfl, rfl, rfl, rfl⟩, .inl ⟨rfl, rfl⟩⟩
    · rw [if_neg z]
      exact ⟨⟨rfl, rfl, rfl, rfl, rfl, rfl, rfl, List.length_set, rfl, rfl⟩, .inr (.inl ⟨m, g _, rfl⟩)⟩
  · obtain ⟨nw, ⟨_, rfl, rfl⟩ | ⟨_, m, r, _, _, rfl, rfl⟩ | ⟨_, _, rfl, rfl⟩⟩ := hs
    · exact q _ _ _ H' hf hc ⟨⟨rfl, rfl, rfl, rfl, rfl, rfl, rfl, rfl, rfl, rfl⟩, .inl ⟨rfl, rfl⟩⟩ (.inl rfl)
    · exact q _ _ _ H' hf hc ⟨⟨rfl, rfl, rfl, rfl, rfl, rfl, rfl, List.length_set, rfl, rfl⟩, .inr (.inl ⟨m, g _, rfl⟩)⟩ (.inl rfl)
    · exact q _ _ _ H' hf hc ⟨⟨rfl, rfl, rfl, rfl, rfl, rfl, rfl, List.length_set, rfl, rfl⟩, .inr (.inr (g _))⟩ (.inl rfl)
def Own (ch : Addr) (c : Cp) (x : Addr) : Prop := x = ch ∨ x = c.o ∨ x = c.e ∨ x = c.t ∨ x = c.p ∨ x = c.q ∨ x = c.r
theorem Fr.out {ch x : Addr} {c : Cp} {H H' : Hp} {u : HO} (f : Fr ch c H H') (h : ¬ Own ch c x) (hx : H x = some u) : H' x = some u :=
  f x u (fun e => h (.inl e)) (fun e => h (.inr (.inl e))) (fun e => h (.inr (.inr (.inl e)))) (fun e => h (.inr (.inr (.inr (.inl e))))) (fun e => h (.inr (.inr (.inr (.inr (.inl e)))))) (fun e => h (.inr (.inr (.inr (.inr (.inr (.inl e))))))) (fun e => h (.inr (.inr (.inr (.inr (.inr (.inr e))))))) hx
/-- a chip of eight blocks of eight pages, three pages of one block, their data, a box -/
structure Sti (K : PySem.W.Frag) (H : Hp) (bx ch dx pl dl : Addr) (s : CS) (b : Nat) (ps : List Nat) (ds : List Addr) (oss : List (List Int)) (n : Int) : Prop where
  chip : ChipAt K H ch dx s
  box : Box H bx n
  pgs : s.c.pages = 8
  len : s.os.length = 8
  hb : b < 8
  hpl : H pl = some (.lst (IV (ps.map fun p : Nat => (p : Int))))
  lp : ps.length = 3
  p8 : ∀ k, k < 3 → ps.getD k 0 < 8
  pne : ∀ i j, i < 3 → j < 3 → i ≠ j → ps.getD i 0 ≠ ps.getD j 0
  hdl : H dl = some (.lst (ds.map V.ref))
  ld : ds.length = 3
  hd : ∀ k, k < 3 → H (ds.getD k 0) = some (.lst (IV (oss.getD k []))) ∧ Oct (oss.getD k []) ∧ (oss.getD k []).length = 30
  rst : ∀ k, k < 3 → Inn (oss.getD k [] ++ [zc (bitsL (oss.getD k []))]) (pg (s.os.getD b []) (ps.getD k 0))
  obx : ¬ Own ch s.c bx
  opl : ¬ Own ch s.c pl
  odl : ¬ Own ch s.c dl
  ods : ∀ k, k < 3 → ¬ Own ch s.c (ds.getD k 0)
  nbp : pl ≠ bx
  nbd : dl ≠ bx
  nbk : ∀ k, k < 3 → ds.getD k 0 ≠ bx
  ndk : ∀ k, k < 3 → ds.getD k 0 ≠ dl
theorem Sti.ex {H H' : Hp} {bx ch dx pl dl : Addr} {s : CS} {b : Nat} {ps : List Nat} {ds : List Addr} {oss : List (List Int)} {n : Int} (h : Sti K H bx ch dx pl dl s b ps ds oss n) (e : Evl.Ex H H') : Sti K H' bx ch dx pl dl s b ps ds oss n :=
  ⟨h.chip.ex e, h.box.ex e, h.pgs, h.len, h.hb, e _ _ h.hpl, h.lp, h.p8, h.pne, e _ _ h.hdl, h.ld, fun k hk => ⟨e _ _ (h.hd k hk).1, (h.hd k hk).2⟩, h.rst, h.obx, h.opl, h.odl, h.ods, h.nbp, h.nbd, h.nbk, h.ndk⟩
/-- the box moves on -/
theorem ChipAt.exb {H H' : Hp} {bx ch dx : Addr} {s : CS} (h : ChipAt K H ch dx s) (o : ¬ Own ch s.c bx) (tb : ∀ i, i < s.os.length → s.rs.getD i 0 ≠ bx) (e : Exb bx H H') : ChipAt K H' ch dx s := by
  have n : ∀ {x : Addr}, Own ch s.c x → x ≠ bx := fun hx z => o (z ▸ hx)
  exact ⟨e _ _ (n (.inl rfl)) h.ins, e _ _ (n (.inr (.inl rfl))) h.o, e _ _ (n (.inr (.inr (.inl rfl)))) h.e, e _ _ (n (.inr (.inr (.inr (.inl rfl))))) h.t, e _ _ (n (.inr (.inr (.inr (.inr (.inl rfl)))))) h.p, e _ _ (n (.inr (.inr (.inr (.inr (.inr (.inl rfl))))))) h.q,
    fun i hi => e _ _ (tb i hi) (h.tup i hi), h.oe, h.ot, h.et, h.pq, h.nr, h.ne, h.nt, h.nb, h.b8, h.g8, h.oct, ⟨e _ _ (n (.inr (.inr (.inr (.inr (.inr (.inr rfl))))))) h.rr.1, h.rr.2⟩⟩
theorem Box.nt {H : Hp} {bx r : Addr} {n : Int} {xs : List V} (B : Box H bx n) (h : H r = some (.tup xs)) : r ≠ bx := by
  rintro rfl
  obtain ⟨_, _, _, _, hb, _⟩ := B
  rw [h] at hb
  cases hb
theorem Sti.exb {H H' : Hp} {bx ch dx pl dl : Addr} {s : CS} {b : Nat} {ps : List Nat} {ds : List Addr} {oss : List (List Int)} {n n' : Int} (h : Sti K H bx ch dx pl dl s b ps ds oss n) (e : Exb bx H H') (B : Box H' bx n') : Sti K H' bx ch dx pl dl s b ps ds oss n' :=
  ⟨h.chip.exb h.obx (fun i hi => Box.nt h.box (h.chip.tup i hi)) e, B, h.pgs, h.len, h.hb, e _ _ h.nbp h.hpl, h.lp, h.p8, h.pne, e _ _ h.nbd h.hdl, h.ld, fun k hk => ⟨e _ _ (h.nbk k hk) (h.hd k hk).1, (h.hd k hk).2⟩, h.rst, h.obx, h.opl, h.odl, h.ods, h.nbp, h.nbd, h.nbk, h.ndk⟩
theorem Own.same {ch x : Addr} {c c' : Cp} (h1 : c'.o = c.o) (h2 : c'.e = c.e) (h3 : c'.t = c.t) (h4 : c'.p = c.p) (h5 : c'.q = c.q) (h6 : c'.r = c.r) (h : ¬ Own ch c x) : ¬ Own ch c' x := by
  unfold Own at *
  rw [h1, h2, h3, h4, h5, h6]
  exact h
/-- behind an op -/
theorem Sti.op {H H' : Hp} {bx ch dx pl dl : Addr} {s s' s0 : CS} {b : Nat} {ns : List Int} {v : Bool} {ps : List Nat} {ds : List Addr} {oss : List (List Int)} {n : Int} (h : Sti K H bx ch dx pl dl s b ps ds oss n) (e0 : s0.c = s.c) (e1 : s0.os = s.os) (f : Fr ch s.c H H') (hc : ChipAt K H' ch dx s') (r : Rs s0 s' b ns v)
    (hr : ∀ k, k < 3 → Inn (oss.getD k [] ++ [zc (bitsL (oss.getD k []))]) (pg (s'.os.getD b []) (ps.getD k 0))) : Sti K H' bx ch dx pl dl s' b ps ds oss n := by
  obtain ⟨⟨r1, r2, r3, r4, r5, r6, r6', r7, _⟩, _⟩ := r
  rw [e0] at r1 r2 r3 r4 r5 r6 r6'
  rw [e1] at r7
  have ow : ∀ {x : Addr}, ¬ Own ch s.c x → ¬ Own ch s'.c x := fun z => Own.same r2 r3 r4 r5 r6 r6' z
  obtain ⟨d, m, c, k, hb, rb⟩ := h.box
  exact ⟨hc, ⟨d, m, c, k, f.out h.obx hb, rb⟩, by rw [r1]; exact h.pgs, by rw [r7]; exact h.len, h.hb, f.out h.opl h.hpl, h.lp, h.p8, h.pne, f.out h.odl h.hdl, h.ld, fun k hk => ⟨f.out (h.ods k hk) (h.hd k hk).1, (h.hd k hk).2⟩, hr, ow h.obx, ow h.opl, ow h.odl, fun k hk => ow (h.ods k hk), h.nbp, h.nbd, h.nbk, h.ndk⟩
end
end K10
namespace K10
open PySem PySem.Spec PyProof.Rows L2 VB BM
abbrev stEnd (K : PySem.W.Frag) : TS := (tSeq (tAsg (tOp (rI0 fun i j => V.int (i - j)) (tCall (spSurplus K) [] E0 (tCons (tVar 12) tNil)) (tCall (spSurplus K) [] E0 (tCons (tOp (rIx K) (tVar 8) (tVar 10)) tNil))) (gName 11)) (tIfS (tAnd (tTest (tOp (rNeU K) (tVar 11) (tC (V.int 0)))) (tTest (tOp (rNeU K) (tOp (rI0 fun i j => V.bl (decide (j < i))) (tVar 11) (tC (V.int 0))) (tOp (rEqU K) (tVar 5) (tC (V.int 3)))))) (tRet (tC (V.bl false))) tNext))
abbrev stLoop (K : PySem.W.Frag) : TS := (tSeq (tAsg (tMeth (Ch K) ("read") (spRead K) [] E0 (tVar 1) (tCons (tVar 2) (tCons (tOp (rIx K) (tVar 3) (tVar 10)) tNil))) (gName 12)) (tSeq (tIfS (tOr (tNot (tTru K (tCall (spTR K) [] E0 (tCons (tOp (rIx K) (tVar 4) (tVar 10)) (tCons (tVar 12) tNil))))) (tAnd (tTest (tOp (rI0 fun i j => V.bl (decide (i < j))) (tVar 5) (tC (V.int 3)))) (tAnd (tTest (tOp (rNeU K) (tVar 5) (tVar 10))) (tTest (tOp (rNeU K) (tCB (rRepr K) (tCons (tVar 12) tNil)) (tCB (rRepr K) (tCons (tOp (rIx K) (tVar 8) (tVar 10)) tNil))))))) (tRet (tC (V.bl false))) tNext) (tSeq (tIfS (tAnd (tTest (tOp (fun x y H Q => ∃ b, y = V.bl b ∧ (x = V.non ∨ ∃ a, x = V.bl a) ∧ Q (V.bl (decide (x = V.bl b))) H) (tVar 9) (tC (V.bl true)))) (tAnd (tTest (tOp (rIn K false) (tVar 5) (tLst (tCons (tVar 10) (tCons (tC (V.int 3)) tNil))))) (tTest (tOp (rNeU K) (tCB (rListU K) (tCons (tVar 12) tNil)) (tIf (tTest (tOp (rI0 fun i j => V.bl (decide (i < j))) (tVar 5) (tC (V.int 3)))) (tCall (spPg K) [] E0 (tCons (tOp (rIx K) (tVar 4) (tVar 10)) tNil)) (tOp (rMulU K) (tLst (tCons (tC (V.int 255)) tNil)) (tC (V.int 31)))))))) (tRet (tC (V.bl false))) tNext) (stEnd K))))
abbrev stRest (K : PySem.W.Frag) (CP : Addr) : TS := (tSeq (tAsg (tLc (iSeq K (tVar 3)) (gName 12) tYes (tMeth (Ch K) ("read") (spRead K) [] E0 (tVar 1) (tCons (tVar 2) (tCons (tVar 12) tNil))) [12]) (gName 8)) (tSeq (tAsg (tIf (tTest (tOp (rI0 fun i j => V.bl (decide (i < j))) (tVar 5) (tC (V.int 3)))) (tCall (spDone K CP) [] E0 (tCons (tVar 1) (tCons (tVar 2) (tCons (tOp (rIx K) (tVar 3) (tVar 5)) (tCons (tCall (spSealed K) [] E0 (tCons (tOp (rIx K) (tVar 4) (tVar 5)) tNil)) tNil))))) (tCall (spDone K CP) [] E0 (tCons (tVar 1) (tCons (tVar 2) (tCons (tC (V.int 0)) (tCons (tC V.non) tNil)))))) (gName 9)) (tSeq (tFor (iRng1 (tCons (tC (V.int 3)) tNil)) (gName 10) (stLoop K)) (tRet (tC (V.bl true))))))

/-- what an op leaves of the three pages -/
def Left (at_ : Int) (X X' : List Int) (ps : List Nat) (oss : List (List Int)) (v : Bool) : Prop :=
  (∀ a : Nat, a < 3 → at_ = (a : Int) → (∀ k, k < 3 → k ≠ a → pg X' (ps.getD k 0) = pg X (ps.getD k 0)) ∧ Inn (pg X' (ps.getD a 0)) (pg X (ps.getD a 0)) ∧ (v = true → pg X' (ps.getD a 0) = oss.getD a [] ++ [zc (bitsL (oss.getD a []))])) ∧
  (at_ = 3 → ∀ k, k < 3 → Inn (pg X (ps.getD k 0)) (pg X' (ps.getD k 0)) ∧ (v = true → pg X' (ps.getD k 0) = List.replicate 31 255))
section
variable {K : PySem.W.Frag}
theorem Sti.rd {H : Hp} {bx ch dx pl dl : Addr} {s : CS} {b : Nat} {ps : List Nat} {ds : List Addr} {oss : List (List Int)} {n : Int} (h : Sti K H bx ch dx pl dl s b ps ds oss n) {p : Nat} (hp : p < 8) :
    ((b : Int) < s.c.blocks ∧ (p : Int) < s.c.pages) ∧ H s.c.o = some (.lst (s.rs.map V.ref)) ∧ b < s.rs.length ∧ SqT K H (s.rs.getD b 0) (IV (s.os.getD b [])) ∧ (s.os.getD b []).length = 31 * s.c.pages.toNat ∧ 8 ≤ s.c.pages ∧ s.c.pages ≤ 16 := by
  have hc := h.chip
  have hb := h.hb
  have hl := h.len
  have hg := h.pgs
  have nb := hc.nb
  exact ⟨⟨by omega, by omega⟩, hc.o, by rw [hc.nr]; omega, SqT.of (hc.tup b (by omega)), (hc.oct b (by omega)).2, hc.g8.1, hc.g8.2⟩
theorem Sti.len248 {H : Hp} {bx ch dx pl dl : Addr} {s : CS} {b : Nat} {ps : List Nat} {ds : List Addr} {oss : List (List Int)} {n : Int} (h : Sti K H bx ch dx pl dl s b ps ds oss n) : Oct (s.os.getD b []) ∧ (s.os.getD b []).length = 248 := by
  have o := h.chip.oct b (by rw [h.len]; exact h.hb)
  have hg := h.pgs
  exact ⟨o.1, by rw [o.2]; omega⟩
theorem ref3 {H : Hp} {l : Addr} {rs : List Addr} {k : Nat} {Q : VK} (h : H l = some (.lst (rs.map V.ref))) (hk : k < rs.length) (q : Q (.ref (rs.getD k 0)) H) : rIx K (.ref l) (.int (k : Int)) H Q := tup_ix h hk q
theorem nat3 {H : Hp} {l : Addr} {ps : List Nat} {k : Nat} {Q : VK} (h : H l = some (.lst (IV (ps.map fun p : Nat => (p : Int))))) (hk : k < ps.length) (q : Q (.int ((ps.getD k 0 : Nat) : Int)) H) : rIx K (.ref l) (.int (k : Int)) H Q := by
  refine Sv.ix (x := .non) (Sv.lst h) (i := (k : Int)) ?_ q
  refine iv_at ?_
  rw [List.getElem?_map, List.getD_eq_getElem?_getD, List.getElem?_eq_getElem hk]
  rfl
theorem step_body {H : Hp} {bx ch dx pl dl D : Addr} {s : CS} {b : Nat} {ps : List Nat} {ds rs : List Addr} {oss : List (List Int)} {n at_ : Int} {X : List Int} {r : V} {v : Bool} {v6 v7 v11 v12 : Option V} {DD : L2.Ends} {k : Nat}
    (h : Sti K H bx ch dx pl dl s b ps ds oss n) (hk : k < 3) (a0 : 0 ≤ at_) (a1 : at_ < 4) (oX : Oct X) (lX : X.length = 248) (L : Left at_ X (s.os.getD b []) ps oss v) (hr : r = .bl v ∨ (r = .non ∧ v = false))
    (hD : H D = some (.lst (rs.map V.ref))) (lr : rs.length = 3) (hrs : ∀ j, j < 3 → H (rs.getD j 0) = some (.tup (IV (pg X (ps.getD j 0)))))
    (q : ∀ (w11 w12 : Option V) (H' : Hp), Evl.Ex H H' → DD.nx [some (.ref bx), some (.ref ch), some (.int (b : Int)), some (.ref pl), some (.ref dl), some (.int at_), v6, v7, some (.ref D), some r, some (.int (k : Int)), w11, w12] H') :
    stLoop K DD [some (.ref bx), some (.ref ch), some (.int (b : Int)), some (.ref pl), some (.ref dl), some (.int at_), v6, v7, some (.ref D), some r, some (.int (k : Int)), v11, v12] H := by
  have p8 := h.p8 k hk
  obtain ⟨oY, lY⟩ := h.len248
  have R := h.rd p8
  refine ⟨_, rfl, ch, dx, _, rfl, h.chip.ins, rfl, _, rfl, _, rfl, _, rfl, nat3 h.hpl (by rw [h.lp]; exact hk) ⟨ch, s.c, b, ps.getD k 0, s.rs, s.os.getD b [], rfl, ⟨dx, h.chip.ins⟩, R.1.1, R.1.2, R.2.1, R.2.2.1, R.2.2.2.1, R.2.2.2.2.1, R.2.2.2.2.2.1, R.2.2.2.2.2.2, fun t H1 nt e1 ht => ?_⟩⟩
  have h1 := h.ex e1
  have ht : H1 t = some (.tup (IV (pg (s.os.getD b []) (ps.getD k 0)))) := ht
  have rst := h.rst k hk
  obtain ⟨hd1, od, ldd⟩ := h1.hd k hk
  have oP := pg_oct oY (ps.getD k 0)
  have lP := pg_len lY p8
  have oP0 := pg_oct oX (ps.getD k 0)
  have lP0 := pg_len lX p8
  have F1 : at_ < 3 → ¬ at_ = (k : Int) → pg (s.os.getD b []) (ps.getD k 0) = pg X (ps.getD k 0) := by
    intro h3 hne
    exact (L.1 at_.toNat (by omega) (by omega)).1 k hk (by omega)
  have F2 : v = true → (at_ = (k : Int) → pg (s.os.getD b []) (ps.getD k 0) = oss.getD k [] ++ [zc (bitsL (oss.getD k []))]) ∧ (at_ = 3 → pg (s.os.getD b []) (ps.getD k 0) = List.replicate 31 255) :=
    fun hv => ⟨fun e => (L.1 k hk e).2.2 hv, fun e => (L.2 e k hk).2 hv⟩
  have F3 : ¬ ovr (pg (s.os.getD b []) (ps.getD k 0)) - ovr (pg X (ps.getD k 0)) = 0 → decide (0 < ovr (pg (s.os.getD b []) (ps.getD k 0)) - ovr (pg X (ps.getD k 0))) = decide (at_ = 3) := by
    intro z
    refine decide_eq_decide.mpr ?_
    by_cases c3 : at_ = 3
    · have m := (ovr_mono (pg_oct oX (ps.getD k 0)) oP (pg_len lX p8) lP (L.2 c3 k hk).1).1
      exact ⟨fun _ => c3, fun _ => by omega⟩
    · by_cases ck : at_ = (k : Int)
      · have m := (ovr_mono oP (pg_oct oX (ps.getD k 0)) lP (pg_len lX p8) (L.1 k hk ck).2.1).1
        exact ⟨fun _ => by omega, fun y => absurd y c3⟩
      · exact absurd (by rw [F1 (by omega) ck]; omega) z
  clear L
  generalize hY : pg (s.os.getD b []) (ps.getD k 0) = Y at *
  have hD1 := e1 _ _ hD
  have hr1 := e1 _ _ (hrs k hk)
  generalize hX : pg X (ps.getD k 0) = Z at *
  refine ⟨_, rfl, _, rfl, ref3 h1.hdl (by rw [h1.ld]; exact hk) ⟨_, rfl, ds.getD k 0, t, oss.getD k [], Y, true, rfl, hd1, Sv.tup ht, od, oP, ldd, lP, (rest_inn ldd).mpr rst, fun H2 e2 => ⟨true, rfl, ?_⟩⟩⟩
  have S2 : SqT K H2 t (IV Y) := SqT.of (e2 _ _ ht)
  have E2 := e1.trans e2
  have hz2 := e2 _ _ hr1
  have hD2 := e2 _ _ hD1
  apply once
  · intro rest
    refine iteF ⟨_, rfl, _, _, rfl, rfl, _, rfl, if_dec (fun c3 => ?_) (fun _ => rest)⟩
    refine ⟨_, rfl, _, rfl, .inl ⟨rfl, _, rfl, ?_⟩⟩
    by_cases ck : at_ = (k : Int)
    · rw [dec_int, decide_eq_true ck]
      exact iteF rest
    · rw [dec_int, decide_eq_false ck]
      have eYZ := F1 c3 ck
      refine iteT ⟨_, rfl, rp_t S2 (sm_oct oP) (by omega) ⟨_, rfl, _, rfl, ref3 hD2 (by rw [lr]; exact hk) (rp_t (SqT.of hz2) (sm_oct oP0) (by omega) (.inl ⟨rfl, _, rfl, ?_⟩))⟩⟩
      rw [eYZ]
      exact same_ne rest
  have tail : ∀ H3 : Hp, Evl.Ex H2 H3 → stEnd K DD [some (.ref bx), some (.ref ch), some (.int (b : Int)), some (.ref pl), some (.ref dl), some (.int at_), v6, v7, some (.ref D), some r, some (.int (k : Int)), v11, some (.ref t)] H3 := by
    intro H3 e3
    refine ⟨_, rfl, t, Y, true, rfl, Evl.ex_t e3 S2, oP, lP, fun H4 e4 => ?_⟩
    have E4 := e3.trans e4
    refine ⟨_, rfl, _, rfl, ref3 (E4 _ _ hD2) (by rw [lr]; exact hk) ⟨rs.getD k 0, Z, true, rfl, SqT.of (E4 _ _ hz2), oP0, lP0, fun H5 e5 => ⟨_, _, rfl, rfl, ?_⟩⟩⟩
    have fin := q (some (.int (ovr Y - ovr Z))) (some (.ref t)) H5 (E2.trans (E4.trans e5))
    refine ⟨_, rfl, .inl ⟨rfl, _, rfl, ?_⟩⟩
    by_cases z : ovr Y - ovr Z = 0
    · rw [dec_int, decide_eq_true z]
      exact iteF (iteF fin)
    · rw [dec_int, decide_eq_false z]
      refine iteT ⟨_, rfl, _, _, rfl, rfl, _, rfl, .inl ⟨rfl, .inl ⟨rfl, _, rfl, ?_⟩⟩⟩
      exact same_bl ((F3 z).trans (dec_int _ _).symm) fin
  refine iteF ?_
  have hrr : r = .non ∨ ∃ a, r = .bl a := by
    rcases hr with e | e
    · exact .inr ⟨v, e⟩
    · exact .inl e.1
  refine ⟨_, rfl, true, rfl, hrr, _, rfl, ?_⟩
  by_cases hv : r = .bl true
  · rw [decide_eq_true hv]
    have vt : v = true := by
      rcases hr with e | e
      · rw [e] at hv
        exact V.bl.inj hv
      · rw [e.1] at hv
        cases hv
    have G := F2 vt
    refine iteT ⟨_, rfl, _, rfl, by show 2 ≤ sizeLine; decide, fun l nl => ⟨l, [.int (k : Int), .int 3], rfl, .inl (SqL.of upd_same), rfl, rfl, _, rfl, ?_⟩⟩
    have x2 := Evl.Ex.new (o := .lst [V.int (k : Int), .int 3]) nl
    have ei : inV (.int at_) [.int (k : Int), .int 3] = (decide ((k : Int) = at_) || (decide ((3 : Int) = at_) || false)) := rfl
    show if inV (.int at_) [.int (k : Int), .int 3] = true then _ else _
    rw [ei]
    by_cases ck : (k : Int) = at_ ∨ (3 : Int) = at_
    · have eb : (decide ((k : Int) = at_) || (decide ((3 : Int) = at_) || false)) = true := by
        rcases ck with c | c
        · rw [decide_eq_true c]
          rfl
        · rw [decide_eq_true c]
          simp
      rw [eb]
      refine iteT ⟨_, rfl, t, _, rfl, .inr (Evl.ex_t x2 S2), fun l2 n2 => ?_⟩
      have x3 := Evl.Ex.new (o := .lst (IV Y)) n2
      have X3 := x2.trans x3
      refine ⟨_, rfl, _, _, rfl, rfl, _, rfl, if_dec (fun c3 => ?_) (fun c3 => ?_)⟩
      · have ak : at_ = (k : Int) := by
          rcases ck with c | c
          · exact c.symm
          · omega
        refine ⟨_, rfl, _, rfl, ref3 (X3 _ _ (e2 _ _ h1.hdl)) (by rw [h1.ld]; exact hk) ⟨ds.getD k 0, oss.getD k [], false, rfl, Sv.lst (X3 _ _ (e2 _ _ hd1)), by omega, fun g H4 ng e4 hg => .inr (rne_l (SqL.of (e4 _ _ upd_same)) (SqL.of hg) ⟨_, rfl, ?_⟩)⟩⟩
        rw [decide_eq_true (G.1 ak)]
        exact iteF (tail H4 (X3.trans e4))
      · refine ⟨by show 1 ≤ sizeLine; decide, fun l3 n3 => rep_l (k := 31) upd_same (by omega) (by omega) fun l4 n4 => ?_⟩
        have x4 := Evl.Ex.new (o := .lst [V.int 255]) n3
        have x5 := Evl.Ex.new (o := .lst (IV (List.replicate (31 : Int).toNat 255))) n4
        refine .inr (rne_l (SqL.of (x5 _ _ (x4 _ _ upd_same))) (SqL.of upd_same) ⟨_, rfl, ?_⟩)
        have e3 : Y = List.replicate (31 : Int).toNat 255 := G.2 (by omega)
        rw [decide_eq_true e3]
        exact iteF (tail _ ((X3.trans x4).trans x5))
    · have eb : (decide ((k : Int) = at_) || (decide ((3 : Int) = at_) || false)) = false := by
        rw [decide_eq_false (fun c => ck (.inl c)), decide_eq_false (fun c => ck (.inr c))]
        rfl
      rw [eb]
      exact iteF (iteF (tail _ x2))
  · rw [decide_eq_false hv]
    exact iteF (iteF (tail H2 (Evl.Ex.refl _)))
end
end K10
namespace K10
open PySem PySem.Spec PyProof.Rows L2 VB BM
section
variable {K : PySem.W.Frag}
theorem ChipAt.own {H : Hp} {a dx x : Addr} {s : CS} (h : ChipAt K H a dx s) (o : Own a s.c x) : ∃ u, H x = some u := by
  rcases o with rfl | rfl | rfl | rfl | rfl | rfl | rfl
  · exact ⟨_, h.ins⟩
  · exact ⟨_, h.o⟩
  · exact ⟨_, h.e⟩
  · exact ⟨_, h.t⟩
  · exact ⟨_, h.p⟩
  · exact ⟨_, h.q⟩
  · exact ⟨_, h.rr.1⟩
/-- what a write leaves -/
theorem left_write {X X' : List Int} {ps : List Nat} {oss : List (List Int)} {s s' : CS} {b a : Nat} {v : Bool} (oX : Oct X) (lX : X.length = 248) (ha : a < 3) (p8 : ∀ k, k < 3 → ps.getD k 0 < 8) (pne : ∀ i j, i < 3 → j < 3 → i ≠ j → ps.getD i 0 ≠ ps.getD j 0)
    (ods : ∀ k, k < 3 → Oct (oss.getD k []) ∧ (oss.getD k []).length = 30) (rst : ∀ k, k < 3 → Inn (oss.getD k [] ++ [zc (bitsL (oss.getD k []))]) (pg X (ps.getD k 0))) (e1 : s.os.getD b [] = X) (e2 : s'.os.getD b [] = X')
    (r : Rs s s' b (wrote X (oss.getD a [] ++ [zc (bitsL (oss.getD a []))]) (ps.getD a 0)) v) :
    Left (a : Int) X X' ps oss v ∧ ∀ k, k < 3 → Inn (oss.getD k [] ++ [zc (bitsL (oss.getD k []))]) (pg X' (ps.getD k 0)) := by
  have ow := oct_whole (ods a ha).1 (ods a ha).2
  have p8a := p8 a ha
  have lN := wrote_len lX ow.2 p8a
  have inN := wrote_inn oX ow.1 lX ow.2 p8a
  have oN : Oct (wrote X (oss.getD a [] ++ [zc (bitsL (oss.getD a []))]) (ps.getD a 0)) := by
    intro o ho
    obtain ⟨i, hi, rfl⟩ := List.mem_iff_getElem.mp ho
    have g := wrote_get (X := X) (ws := oss.getD a [] ++ [zc (bitsL (oss.getD a []))]) (p := ps.getD a 0) (i := i) lX ow.2 p8a
    rw [List.getD_eq_getElem?_getD, List.getElem?_eq_getElem hi] at g
    have g' : (wrote X (oss.getD a [] ++ [zc (bitsL (oss.getD a []))]) (ps.getD a 0))[i] = _ := g
    rw [g']
    split
    · exact and_oct (getD_oct oX (by omega)) (getD_oct ow.1 (by omega))
    · exact getD_oct oX (by omega)
  have wr := wrote_rest oX ow.1 lX ow.2 p8a (rst a ha)
  have wo : ∀ k, k < 3 → k ≠ a → pg (wrote X (oss.getD a [] ++ [zc (bitsL (oss.getD a []))]) (ps.getD a 0)) (ps.getD k 0) = pg X (ps.getD k 0) := fun k hk n => wrote_other lX ow.2 p8a (p8 k hk) (pne k a hk ha n)
  obtain ⟨_, hx⟩ := r
  rw [e1, e2] at hx
  generalize wrote X (oss.getD a [] ++ [zc (bitsL (oss.getD a []))]) (ps.getD a 0) = N at *
  have key : (∀ k, k < 3 → k ≠ a → pg X' (ps.getD k 0) = pg X (ps.getD k 0)) ∧ Inn (pg X' (ps.getD a 0)) (pg X (ps.getD a 0)) ∧ (v = true → pg X' (ps.getD a 0) = oss.getD a [] ++ [zc (bitsL (oss.getD a []))]) ∧ Inn (oss.getD a [] ++ [zc (bitsL (oss.getD a []))]) (pg X' (ps.getD a 0)) := by
    rcases hx with ⟨rfl, rfl⟩ | ⟨m, rfl, rfl⟩ | rfl
    · exact ⟨fun _ _ _ => rfl, inn_self (pg_oct oX _), (fun z => by cases z), rst a ha⟩
    · obtain ⟨d1, d2⟩ := mix_down m oX oN (by omega) inN
      obtain ⟨_, oZ, lZ⟩ := mixL_spec (X := X) (Y := N) m (by omega)
      refine ⟨fun k hk n => ?_, pg_inn (by omega) p8a d2, (fun z => by cases z), ?_⟩
      · have i1 := pg_inn lN (p8 k hk) d1
        rw [wo k hk n] at i1
        exact (inn_anti (pg_oct oX _) (pg_oct oZ _) (by rw [pg_len lX (p8 k hk), pg_len (by omega) (p8 k hk)]) i1 (pg_inn (by omega) (p8 k hk) d2)).symm
      · have i1 := pg_inn lN p8a d1
        rw [wr] at i1
        exact i1
    · exact ⟨wo, pg_inn lN p8a inN, fun _ => wr, by rw [wr]; exact inn_self ow.1⟩
  obtain ⟨k1, k2, k3, k4⟩ := key
  refine ⟨⟨fun a' ha' e => ?_, fun e => by omega⟩, fun k hk => ?_⟩
  · have ea : a' = a := by omega
    subst ea
    exact ⟨k1, k2, k3⟩
  · by_cases c : k = a
    · subst c
      exact k4
    · rw [k1 k hk c]
      exact rst k hk
theorem rep_inn {X : List Int} (oX : Oct X) (lX : X.length = 248) : Inn X (List.replicate 248 255) := by
  intro j hj
  have e : (List.replicate 248 (255 : Int)).getD j 0 = 255 := by
    rw [List.getD_eq_getElem?_getD, List.getElem?_replicate, if_pos (by omega)]
    rfl
  have b := getD_oct oX hj
  rw [e]
  generalize X.getD j 0 = x at *
  obtain ⟨a, rfl⟩ := nat_of b.1
  have e5 : (255 : Int) = ((255 : Nat) : Int) := rfl
  rw [e5, VB.bitAnd_nn, and255 (by omega)]
theorem pg_rep {p : Nat} (h : p < 8) : pg (List.replicate 248 255) p = List.replicate 31 255 := by
  unfold pg
  rw [List.drop_replicate, List.take_replicate]
  congr 1
  omega
theorem left_erase {X X' : List Int} {ps : List Nat} {oss : List (List Int)} {s s' : CS} {b : Nat} {v : Bool} (oX : Oct X) (lX : X.length = 248) (p8 : ∀ k, k < 3 → ps.getD k 0 < 8)
    (ods : ∀ k, k < 3 → Oct (oss.getD k []) ∧ (oss.getD k []).length = 30) (rst : ∀ k, k < 3 → Inn (oss.getD k [] ++ [zc (bitsL (oss.getD k []))]) (pg X (ps.getD k 0))) (e1 : s.os.getD b [] = X) (e2 : s'.os.getD b [] = X')
    (r : Rs s s' b (List.replicate 248 255) v) :
    Left 3 X X' ps oss v ∧ ∀ k, k < 3 → Inn (oss.getD k [] ++ [zc (bitsL (oss.getD k []))]) (pg X' (ps.getD k 0)) := by
  have oN : Oct (List.replicate 248 (255 : Int)) := oct_rep (by omega)
  have inN := rep_inn oX lX
  obtain ⟨_, hx⟩ := r
  rw [e1, e2] at hx
  have key : Oct X' ∧ X'.length = 248 ∧ Inn X X' ∧ (v = true → X' = List.replicate 248 255) := by
    rcases hx with ⟨rfl, rfl⟩ | ⟨m, rfl, rfl⟩ | rfl
    · exact ⟨oX, lX, inn_self oX, fun z => by cases z⟩
    · obtain ⟨d1, d2⟩ := mix_up m oX oN (by rw [List.length_replicate]; exact lX) inN
      obtain ⟨_, oZ, lZ⟩ := mixL_spec (X := X) (Y := List.replicate 248 255) m (by rw [List.length_replicate]; exact lX)
      exact ⟨oZ, by omega, d1, fun z => by cases z⟩
    · exact ⟨oN, List.length_replicate, inN, fun _ => rfl⟩
  obtain ⟨o2, l2, i2, v2⟩ := key
  refine ⟨⟨fun a ha e => by omega, fun _ k hk => ⟨pg_inn lX (p8 k hk) i2, fun hv => by rw [v2 hv]; exact pg_rep (p8 k hk)⟩⟩, fun k hk => ?_⟩
  have ow := oct_whole (ods k hk).1 (ods k hk).2
  exact inn_trans ow.1 (pg_oct oX _) (pg_oct o2 _) (by rw [ow.2, pg_len lX (p8 k hk)]) (by rw [pg_len lX (p8 k hk), pg_len l2 (p8 k hk)]) (rst k hk) (pg_inn lX (p8 k hk) i2)
theorem step_rest {CP : Addr} {H : Hp} {bx ch dx pl dl : Addr} {s : CS} {b : Nat} {ps : List Nat} {ds : List Addr} {oss : List (List Int)} {n at_ : Int} {v6 v7 : Option V} {Q : VK}
    (h : Sti K H bx ch dx pl dl s b ps ds oss n) (a0 : 0 ≤ at_) (a1 : at_ < 4) (pk : Plan s.kp) (pq : Plan s.kq) (dk : dropK s.kp (Sum.inl s.c.ops : Key) = []) (dq : dropK s.kq (Sum.inl s.c.ops : Key) = [])
    (q : ∀ (s' : CS) (H' : Hp), Sti K H' bx ch dx pl dl s' b ps ds oss n → s'.kp = [] → s'.kq = [] → Q (.bl true) H') :
    stRest K CP { nx := fun x H' => Q V.non H', rt := Q } [some (.ref bx), some (.ref ch), some (.int (b : Int)), some (.ref pl), some (.ref dl), some (.int at_), v6, v7, none, none, none, none, none] H := by
  obtain ⟨oX, lX⟩ := h.len248
  refine seq_var (t := false) rfl (Sv.lst h.hpl) fun J wk D hD => ?_
  have ll : (IV (ps.map fun p : Nat => (p : Int))).length = 3 := by rw [iv_len, List.length_map, h.lp]
  rw [ll] at wk
  refine lc_it wk (fun i H' => i ≤ 3 ∧ Evl.Ex H H' ∧ ∃ rs : List Addr, rs.length = i ∧ H' D = some (.lst (rs.map V.ref)) ∧ ∀ j, j < i → rs.getD j 0 ≠ D ∧ H' (rs.getD j 0) = some (.tup (IV (pg (s.os.getD b []) (ps.getD j 0))))) ⟨by omega, Evl.Ex.new hD, [], rfl, upd_same, fun j hj => by omega⟩ (fun i H' _ z => Sv.lst (z.2.1 _ _ h.hpl)) ?_ ?_
  · rintro i x H1 H2 hi ⟨_, e1, rs, lr, hrs, hall⟩ ⟨rfl, hx⟩
    refine ⟨rfl, ?_⟩
    obtain ⟨z, hz, rfl⟩ := iv_get hx
    have zi : z = ((ps.getD i 0 : Nat) : Int) := by
      rw [List.getElem?_map] at hz
      rw [List.getD_eq_getElem?_getD]
      cases y : ps[i]? with
      | none =>
        rw [y] at hz
        cases hz
      | some p =>
        rw [y] at hz
        exact (Option.some.inj hz).symm
    subst zi
    have h1 := h.ex e1
    have R := h1.rd (h1.p8 i hi)
    show tMeth (Ch K) "read" (spRead K) [] E0 (tVar 1) (tCons (tVar 2) (tCons (tVar 12) tNil)) _ H2 _
    refine ⟨_, rfl, ch, dx, _, rfl, h1.chip.ins, rfl, _, rfl, _, rfl, ch, s.c, b, ps.getD i 0, s.rs, s.os.getD b [], rfl, ⟨dx, h1.chip.ins⟩, R.1.1, R.1.2, R.2.1, R.2.2.1, R.2.2.2.1, R.2.2.2.2.1, R.2.2.2.2.2.1, R.2.2.2.2.2.2, fun t H3 nt e3 ht => ?_⟩
    have hD3 := e3 _ _ hrs
    have tD : t ≠ D := fun z => by rw [z, hrs] at nt; cases nt
    refine ⟨_, hD3, by rw [List.length_map, lr]; exact Evl.sz_lt (by omega), by omega, Evl.Ex.mut (e1.trans e3) hD, rs ++ [t], by simp [lr], by rw [upd_same, List.map_append]; rfl, fun j hj => ?_⟩
    by_cases c : j < i
    · obtain ⟨z1, z2⟩ := hall j c
      have e : (rs ++ [t]).getD j 0 = rs.getD j 0 := by
        rw [List.getD_eq_getElem?_getD, List.getD_eq_getElem?_getD, List.getElem?_append_left (by omega)]
      rw [e]
      exact ⟨z1, by rw [upd_ne z1]; exact e3 _ _ z2⟩
    · have ej : j = i := by omega
      subst ej
      have e : (rs ++ [t]).getD j 0 = t := by
        rw [List.getD_eq_getElem?_getD, List.getElem?_append_right (by omega), lr, Nat.sub_self]
        rfl
      rw [e]
      exact ⟨tD, by rw [upd_ne tD]; exact ht⟩
  rintro H1 ⟨_, e1, rs, lr, hrs, hall⟩
  have h1 := h.ex e1
  have loop : ∀ (s' : CS) (r : V) (v : Bool) (H' : Hp), Sti K H' bx ch dx pl dl s' b ps ds oss n → s'.kp = [] → s'.kq = [] → Left at_ (s.os.getD b []) (s'.os.getD b []) ps oss v → (r = .bl v ∨ (r = .non ∧ v = false)) → H' D = some (.lst (rs.map V.ref)) → (∀ j, j < 3 → H' (rs.getD j 0) = some (.tup (IV (pg (s.os.getD b []) (ps.getD j 0))))) →
      tSeq (tFor (iRng1 (tCons (tC (V.int 3)) tNil)) (gName 10) (stLoop K)) (tRet (tC (V.bl true))) { nx := fun x H' => Q V.non H', rt := Q } [some (.ref bx), some (.ref ch), some (.int (b : Int)), some (.ref pl), some (.ref dl), some (.int at_), v6, v7, some (.ref D), some r, none, none, none] H' := by
    intro s' r v H' h' k1 k2 L hr hD' hrs'
    refine ⟨3, rfl, by omega, by omega, ?_⟩
    refine for_range (lo := 0) (n := 3) (fun k σ H'' => ∃ w10 w11 w12 : Option V, σ = [some (.ref bx), some (.ref ch), some (.int (b : Int)), some (.ref pl), some (.ref dl), some (.int at_), v6, v7, some (.ref D), some r, w10, w11, w12] ∧ Evl.Ex H' H'') ⟨_, _, _, rfl, Evl.Ex.refl _⟩ ?_ ?_
    · rintro k σ H5 hk ⟨w10, w11, w12, rfl, e5⟩
      have e0 : (0 : Int) + (k : Int) = (k : Int) := Int.zero_add _
      rw [e0]
      exact step_body (h'.ex e5) hk a0 a1 oX lX L hr (e5 _ _ hD') lr (fun j hj => e5 _ _ (hrs' j hj)) fun w11 w12 H6 e6 => ⟨_, _, _, rfl, e5.trans e6⟩
    · rintro σ H5 ⟨w10, w11, w12, rfl, e5⟩
      exact q s' H5 (h'.ex e5) k1 k2
  have odsA : ∀ k, k < 3 → Oct (oss.getD k []) ∧ (oss.getD k []).length = 30 := fun k hk => (h.hd k hk).2
  have nOwn : ∀ {H2 : Hp}, Evl.Ex H1 H2 → ¬ Own ch s.c D := fun {H2} e2 o => by
    obtain ⟨u, hu⟩ := h.chip.own o
    rw [hD] at hu
    cases hu
  have after : ∀ (H2 H3 : Hp) (s0 s' : CS) (r : V) (v : Bool) (ns : List Int), Evl.Ex H1 H2 → s0.c = s.c → s0.os = s.os → s0.kp = s.kp → s0.kq = s.kq → Fr ch s.c H2 H3 → ChipAt K H3 ch dx s' → Rs s0 s' b ns v → (r = .bl v ∨ (r = .non ∧ v = false)) →
      (Left at_ (s.os.getD b []) (s'.os.getD b []) ps oss v ∧ ∀ k, k < 3 → Inn (oss.getD k [] ++ [zc (bitsL (oss.getD k []))]) (pg (s'.os.getD b []) (ps.getD k 0))) →
      tSeq (tFor (iRng1 (tCons (tC (V.int 3)) tNil)) (gName 10) (stLoop K)) (tRet (tC (V.bl true))) { nx := fun x H' => Q V.non H', rt := Q } [some (.ref bx), some (.ref ch), some (.int (b : Int)), some (.ref pl), some (.ref dl), some (.int at_), v6, v7, some (.ref D), some r, none, none, none] H3 := by
    intro H2 H3 s0 s' r v ns e2 c0 c1 c2 c3 f hc rr hr L
    have h2 := h1.ex e2
    refine loop s' r v H3 (h2.op c0 c1 f hc rr L.2) ?_ ?_ L.1 hr (f.out (nOwn e2) (e2 _ _ hrs)) (fun j hj => h2.chip.tupK f (e2 _ _ (hall j hj).2))
    · rw [rr.1.2.2.2.2.2.2.2.2.1, c2, c0]
      exact dk
    · rw [rr.1.2.2.2.2.2.2.2.2.2, c3, c0]
      exact dq
  have hb8 : b < s.os.length := by rw [h.len]; exact h.hb
  refine ⟨_, rfl, _, _, rfl, rfl, _, rfl, if_dec (fun c3 => ?_) (fun c3 => ?_)⟩
  · obtain ⟨a, rfl⟩ : ∃ a : Nat, at_ = a := ⟨at_.toNat, by omega⟩
    have ha : a < 3 := by omega
    obtain ⟨hd1, od, ldd⟩ := h1.hd a ha
    refine ⟨_, rfl, _, rfl, _, rfl, _, rfl, nat3 h1.hpl (by rw [h1.lp]; exact ha) ⟨_, rfl, _, rfl, ref3 h1.hdl (by rw [h1.ld]; exact ha) ⟨ds.getD a 0, oss.getD a [], false, rfl, Sv.lst hd1, od, ldd, fun p H2 e2 S2 => ?_⟩⟩⟩
    have h2 := h1.ex e2
    have ow := oct_whole od ldd
    have pg8 := h.p8 a ha
    have hpgs := h.pgs
    refine ⟨ch, dx, s, b, h2.chip, hb8, pk, pq, .inr ⟨ps.getD a 0, p, _, true, rfl, by omega, S2, ow.1, ow.2, ends_rs hb8 fun s' r v H3 f hc rr hr => ?_⟩⟩
    exact after H2 H3 s s' r v _ e2 rfl rfl rfl rfl f hc rr hr (left_write oX lX ha h.p8 h.pne odsA h.rst rfl rfl rr)
  · have e3 : at_ = 3 := by omega
    have er : (s.erased b).os = s.os ∧ (s.erased b).c = s.c ∧ (s.erased b).kp = s.kp ∧ (s.erased b).kq = s.kq := by
      unfold CS.erased
      split <;> exact ⟨rfl, rfl, rfl, rfl⟩
    have en : List.replicate (31 * s.c.pages.toNat) (255 : Int) = List.replicate 248 255 := by
      congr 1
      have := h.pgs
      omega
    refine ⟨_, rfl, _, rfl, ch, dx, s, b, h1.chip, hb8, pk, pq, .inl ⟨0, rfl, ?_⟩⟩
    rw [en]
    refine ends_rs (by rw [er.1]; exact hb8) fun s' r v H3 f hc rr hr => ?_
    rw [er.2.1] at f
    refine after H1 H3 (s.erased b) s' r v _ (Evl.Ex.refl _) er.2.1 er.1 er.2.2.1 er.2.2.2 f hc rr hr ?_
    rw [e3]
    exact left_erase oX lX h.p8 odsA h.rst (by rw [er.1]) rfl rr
end
end K10
namespace K10
open PySem PySem.Spec PyProof.Rows L2 VB BM
section
variable {P : Program} {w : World} {K : PySem.W.Frag} {mg : Str → Option Value} {base : Heap} {f : Addr} {fd : FuncData}
theorem Sti.upd1 {H : Hp} {bx ch dx pl dl y : Addr} {o : HO} {s s1 : CS} {b : Nat} {ps : List Nat} {ds : List Addr} {oss : List (List Int)} {n : Int} (h : Sti K H bx ch dx pl dl s b ps ds oss n) (hy : Own ch s.c y) (hc : ChipAt K (upd H y o) ch dx s1) (e1 : s1.c = s.c) (e2 : s1.os = s.os) :
    Sti K (upd H y o) bx ch dx pl dl s1 b ps ds oss n := by
  have ne : ∀ {x : Addr}, ¬ Own ch s.c x → x ≠ y := fun hx z => hx (z ▸ hy)
  obtain ⟨d, m, c, k, hb, rb⟩ := h.box
  exact ⟨hc, ⟨d, m, c, k, by rw [upd_ne (ne h.obx)]; exact hb, rb⟩, by rw [e1]; exact h.pgs, by rw [e2]; exact h.len, h.hb, by rw [upd_ne (ne h.opl)]; exact h.hpl, h.lp, h.p8, h.pne, by rw [upd_ne (ne h.odl)]; exact h.hdl, h.ld, fun k hk => ⟨by rw [upd_ne (ne (h.ods k hk))]; exact (h.hd k hk).1, (h.hd k hk).2⟩, by rw [e2]; exact h.rst,
    by rw [e1]; exact h.obx, by rw [e1]; exact h.opl, by rw [e1]; exact h.odl, by rw [e1]; exact h.ods, h.nbp, h.nbd, h.nbk, h.ndk⟩
theorem plan_nil : Plan [] := fun k v z => by cases z
theorem plan_one {k : Key} {m : Int} (m0 : 0 ≤ m) (m1 : m < MM) : Plan (putK [] k (V.int m)) := by
  intro k' v hv
  have e : putK [] k (V.int m) = [(k, V.int m)] := rfl
  rw [e] at hv
  unfold valV at hv
  by_cases c : k = k'
  · simp [c] at hv
    exact ⟨m, hv.symm, m0, m1⟩
  · simp [c] at hv
theorem drop_one {k : Key} {v : V} : dropK (putK [] k v) k = [] := by
  have e : putK [] k v = [(k, v)] := rfl
  rw [e]
  unfold dropK
  simp
def spStep (K : PySem.W.Frag) : Sp := fun vs H Q _ => ∃ (bx ch dx pl dl : Addr) (s : CS) (b : Nat) (ps : List Nat) (ds : List Addr) (oss : List (List Int)) (n : Int), vs = [.ref bx, .ref ch, .int (b : Int), .ref pl, .ref dl] ∧ Sti K H bx ch dx pl dl s b ps ds oss n ∧ s.kp = [] ∧ s.kq = [] ∧ n < 60000000 ∧
  ∀ (s' : CS) (H' : Hp), Sti K H' bx ch dx pl dl s' b ps ds oss (n + 20) → s'.kp = [] → s'.kq = [] → Q (.bl true) H'
theorem ok_step {CP : Addr} (T : Txt K mg) (TC : TxC K) (F : FnP K "_law_step_right" s__law_step_right f fd) (C__law_mask : Cal P w K mg base CX0 3 "_law_mask" ["_law_box_here"] spMask) (C__law_take : Cal P w K mg base CX0 1 "_law_take" ["_law_box_here", "_law_many"] spTake)
    (M_Chip__cut : CalM P w K mg base CX0 4 (Ch K) "cut" ["self", "op", "mask"] (spCut K)) (M_Chip__fail : CalM P w K mg base CX0 4 (Ch K) "fail" ["self", "op", "mask"] (spFail K)) (M_Chip__read : CalM P w K mg base CX0 4 (Ch K) "read" ["self", "block", "page"] (spRead K))
    (C__law_done : Cal P w K mg base CX0 9 "_law_done" ["_law_chip", "_law_block", "_law_page_here", "_law_octets"] (spDone K CP)) (C_sealed : Cal P w K mg base CX0 8 "sealed" ["data"] (spSealed K)) (C__law_told_right : Cal P w K mg base CX0 9 "_law_told_right" ["_law_data_here", "_law_page_here"] (spTR K))
    (C__law_page : Cal P w K mg base CX0 2 "_law_page" ["_law_data_here"] (spPg K)) (C_surplus : Cal P w K mg base CX0 8 "surplus" ["octets"] (spSurplus K)) : Fg P w K mg base CX0 10 f fd ["_law_box_here", "_law_chip", "_law_block", "_law_pages", "_law_datas"] (spStep K) := by
  refine fg_of F sc__law_step_right (fun vs H Q E h => ?_) (fun cdv A outer s₀ H vs Q E hr h => ⟨_, (PSs.nox (pss_cons (ps_par3 (i := 5) (j := 6) (l := 7) rfl sc__law_step_right.nd rfl rfl rfl (by decide) (by decide) (by decide) rfl rfl rfl (pa_cons (pe_cal C__law_take hr.le pass0 (pa_cons (pv 0) (pa_cons pe_int pa_nil))) (pa_cons (pe_cal C__law_take hr.le pass0 (pa_cons (pv 0) (pa_cons pe_int pa_nil))) (pa_cons (pe_cal C__law_mask hr.le pass0 (pa_cons (pv 0) pa_nil)) pa_nil))) (by rfl))
  (pss_cons (ps_if (pt_cmpR op_gt (pv 6) pe_int (nomark _))
  (pss_one (ps_expr (pe_calM M_Chip__cut hr.le pass0 (pv 1) (pa_cons (pe_fldU (K := K) (pv 1) rfl) (pa_cons (pv 7) pa_nil))))) (pss_one (ps_if (PW.pt (pw_and (pt_cmpR (u_eq (K := K) hr) (pv 6) pe_int (nomark _)) (pw_and1 (pt_cmpR (u_eq (K := K) hr) (pe_cal C__law_take hr.le pass0 (pa_cons (pv 0) (pa_cons pe_int pa_nil))) pe_int (nomark _)))))
  (pss_one (ps_expr (pe_calM M_Chip__fail hr.le pass0 (pv 1) (pa_cons (pe_fldU (K := K) (pv 1) rfl) (pa_cons (pv 7) pa_nil))))) pss_nil)))
  (pss_cons (ps_setLc (i := 8) (own := [("_law_page_here", 12)]) rfl sc__law_step_right.nd rfl rfl (sw_true rfl rfl rfl (by decide +kernel)) (pi_seq (K := K) (pv 3)) (blkOk_by (own := [("_law_page_here", 12)]) (N := ["_law_box_here", "_law_chip", "_law_block", "_law_pages", "_law_datas", "_law_at", "_law_plan", "_law_mask_here", "_law_old", "_law_done_here", "_law_k", "_law_steps", "_law_page_here"]) (sc := defScope s__law_step_right) (by decide +kernel)) (fun _ _ _ _ _ => (pg_name (i := 12) sc__law_step_right.nd rfl (by first | exact Or.inl rfl | exact Or.inr rfl))) (fun _ _ _ _ _ => pts_nil) (fun _ _ _ _ _ => (pe_calM M_Chip__read hr.le pass0 (pv 1) (pa_cons (pv 2) (pa_cons (pv 12) pa_nil)))))
  (pss_cons (ps_set (i := 9) sc__law_step_right.nd rfl (by first | exact Or.inl rfl | exact Or.inr rfl) (pe_ifExp (pt_cmpR op_lt (pv 5) pe_int (nomark _)) (pe_cal C__law_done hr.le pass0 (pa_cons (pv 1) (pa_cons (pv 2) (pa_cons (pe_ix (u_ix (K := K)) (pv 3) (pv 5) (fun _ _ => rfl)) (pa_cons (pe_cal C_sealed hr.le pass0 (pa_cons (pe_ix (u_ix (K := K)) (pv 4) (pv 5) (fun _ _ => rfl)) pa_nil)) pa_nil))))) (pe_cal C__law_done hr.le pass0 (pa_cons (pv 1) (pa_cons (pv 2) (pa_cons pe_int (pa_cons pe_non pa_nil)))))))
  (pss_cons (ps_for PassesOwn.never rfl (pi_range1 rfl T.f_range (pa_cons pe_int pa_nil)) (pg_name (i := 10) sc__law_step_right.nd rfl (by first | exact Or.inl rfl | exact Or.inr rfl))
  (pss_cons (ps_set (i := 12) sc__law_step_right.nd rfl (by first | exact Or.inl rfl | exact Or.inr rfl) (pe_calM M_Chip__read hr.le pass0 (pv 1) (pa_cons (pv 2) (pa_cons (pe_ix (u_ix (K := K)) (pv 3) (pv 10) (fun _ _ => rfl)) pa_nil))))
  (pss_cons (ps_if (PW.pt (pw_or (pt_not (pt_tru (K := K) (pe_cal C__law_told_right hr.le pass0 (pa_cons (pe_ix (u_ix (K := K)) (pv 4) (pv 10) (fun _ _ => rfl)) (pa_cons (pv 12) pa_nil))) (by intro _; rfl))) (pw_or1 (PW.pt (pw_and (pt_cmpR op_lt (pv 5) pe_int (nomark _)) (pw_and (pt_cmpR (u_ne (K := K) hr) (pv 5) (pv 10) (nomark _)) (pw_and1 (pt_cmpR (u_ne (K := K) hr) (pe_callB (u_repr (K := K) hr) (by rfl) T.f_repr (by decide +kernel) (pa_cons (pv 12) pa_nil)) (pe_callB (u_repr (K := K) hr) (by rfl) T.f_repr (by decide +kernel) (pa_cons (pe_ix (u_ix (K := K)) (pv 8) (pv 10) (fun _ _ => rfl)) pa_nil)) (nomark _)))))))))
  (pss_one (ps_ret pe_bl)) pss_nil)
  (pss_cons (ps_if (PW.pt (pw_and (pt_cmpR op_isT (pv 9) pe_bl (nomark _)) (pw_and (pt_cmpR (u_in (K := K)) (pv 5) (pe_lst (pa_cons (pv 10) (pa_cons pe_int pa_nil))) (by rfl)) (pw_and1 (pt_cmpR (u_ne (K := K) hr) (pe_callTy (u_list (K := K)) (by rfl) T.f_list (by decide +kernel) (pa_cons (pv 12) pa_nil)) (pe_ifExp (pt_cmpR op_lt (pv 5) pe_int (nomark _)) (pe_cal C__law_page hr.le pass0 (pa_cons (pe_ix (u_ix (K := K)) (pv 4) (pv 10) (fun _ _ => rfl)) pa_nil)) (pe_op (u_mul (K := K)) (pe_lst (pa_cons pe_int pa_nil)) pe_int)) (nomark _))))))
  (pss_one (ps_ret pe_bl)) pss_nil)
  (pss_cons (ps_set (i := 11) sc__law_step_right.nd rfl (by first | exact Or.inl rfl | exact Or.inr rfl) (pe_op op_sub (pe_cal C_surplus hr.le pass0 (pa_cons (pv 12) pa_nil)) (pe_cal C_surplus hr.le pass0 (pa_cons (pe_ix (u_ix (K := K)) (pv 8) (pv 10) (fun _ _ => rfl)) pa_nil))))
  (pss_one (ps_if (PW.pt (pw_and (pt_cmpR (u_ne (K := K) hr) (pv 11) pe_int (nomark _)) (pw_and1 (pt_cmpR (u_ne (K := K) hr) (pe_cmpR op_gt (pv 11) pe_int (nomark _)) (pe_cmpR (u_eq (K := K) hr) (pv 5) pe_int (nomark _)) (nomark _)))))
  (pss_one (ps_ret pe_bl)) pss_nil)))))))
  (pss_one (ps_ret pe_bl)))))))), ?_⟩)
  · obtain ⟨bx, ch, dx, pl, dl, s, b, ps, ds, oss, n, rfl, _⟩ := h
    rfl
  · obtain ⟨bx, ch, dx, pl, dl, s, b, ps, ds, oss, n, rfl, h, hkp, hkq, hn, q⟩ := h
    refine ⟨_, rfl, bx, 4, n, rfl, h.box, by omega, by omega, by omega, fun at_ H1 a0 a1 e1 B1 => ⟨_, rfl, bx, 5, n + 1, rfl, B1, by omega, by omega, by omega, fun plan H2 p0 p1 e2 B2 => ⟨_, rfl, bx, n + 1 + 1, rfl, B2, by omega, fun mk H3 m0 m1 e3 B3 => ⟨_, _, _, rfl, ?_⟩⟩⟩⟩
    have h3 := h.exb ((e1.trans e2).trans e3) B3
    have B8 : n + 1 + 1 + 6 ≤ n + 20 := by omega
    have hc3 := h3.chip
    have go : ∀ (s1 : CS) (H4 : Hp) (n4 : Int) (v6 v7 : Option V), Sti K H4 bx ch dx pl dl s1 b ps ds oss n4 → n4 ≤ n + 20 → Plan s1.kp → Plan s1.kq → dropK s1.kp (Sum.inl s1.c.ops : Key) = [] → dropK s1.kq (Sum.inl s1.c.ops : Key) = [] →
        stRest K CP { nx := fun x H' => Q V.non H', rt := Q } [some (.ref bx), some (.ref ch), some (.int (b : Int)), some (.ref pl), some (.ref dl), some (.int at_), v6, v7, none, none, none, none, none] H4 := by
      intro s1 H4 n4 v6 v7 h4 ln p1 p2 d1 d2
      exact step_rest h4 a0 a1 p1 p2 d1 d2 fun s' H' h' k1 k2 => q s' H' ⟨h'.chip, h'.box.le ln, h'.pgs, h'.len, h'.hb, h'.hpl, h'.lp, h'.p8, h'.pne, h'.hdl, h'.ld, h'.hd, h'.rst, h'.obx, h'.opl, h'.odl, h'.ods, h'.nbp, h'.nbd, h'.nbk, h'.ndk⟩ k1 k2
    have dn : ∀ k : Key, dropK ([] : List (Key × V)) k = [] := fun k => rfl
    refine ⟨_, rfl, _, _, rfl, rfl, _, rfl, if_dec (fun c => ?_) (fun c => ?_)⟩
    · refine ⟨_, rfl, ch, dx, _, rfl, hc3.ins, rfl, _, rfl, ch, _, dx, _, _, rfl, hc3.ins, TC.cls, TC.no _ (by simp), rfl, _, rfl, ch, s.c, s.c.ops, mk, s.kp, rfl, ⟨dx, hc3.ins⟩, Int.le_refl _, m0, m1, hc3.p, by rw [hkp]; decide, ?_⟩
      rw [hkp]
      exact go { s with kp := putK [] (Sum.inl s.c.ops : Key) (V.int mk) } _ _ _ _ (h3.upd1 (.inr (.inr (.inr (.inr (.inl rfl))))) (hc3.setp _) rfl rfl) B8 (plan_one m0 m1) (by show Plan s.kq; rw [hkq]; exact plan_nil) drop_one (by show dropK s.kq _ = []; rw [hkq]; rfl)
    · refine ⟨_, rfl, .inl ⟨rfl, _, rfl, if_eq (fun c1 => ?_) (fun c1 => ?_)⟩⟩
      · refine ⟨_, rfl, bx, 4, _, rfl, h3.box, by omega, by omega, by omega, fun z H4 z0 z1 e4 B4 => .inl ⟨rfl, _, rfl, ?_⟩⟩
        have h4 := h3.exb e4 B4
        have hc4 := h4.chip
        refine if_eq (fun c2 => ?_) (fun c2 => ?_)
        · refine ⟨_, rfl, ch, dx, _, rfl, hc4.ins, rfl, _, rfl, ch, _, dx, _, _, rfl, hc4.ins, TC.cls, TC.no _ (by simp), rfl, _, rfl, ch, s.c, s.c.ops, mk, s.kq, rfl, ⟨dx, hc4.ins⟩, Int.le_refl _, m0, m1, hc4.q, by rw [hkq]; decide, ?_⟩
          rw [hkq]
          exact go { s with kq := putK [] (Sum.inl s.c.ops : Key) (V.int mk) } _ _ _ _ (h4.upd1 (.inr (.inr (.inr (.inr (.inr (.inl rfl)))))) (hc4.setq _) rfl rfl) (by omega) (by show Plan s.kp; rw [hkp]; exact plan_nil) (plan_one m0 m1) (by show dropK s.kp _ = []; rw [hkp]; rfl) drop_one
        · exact go s H4 _ _ _ h4 (by omega) (by rw [hkp]; exact plan_nil) (by rw [hkq]; exact plan_nil) (by rw [hkp]; rfl) (by rw [hkq]; rfl)
      · exact go s H3 _ _ _ h3 (by omega) (by rw [hkp]; exact plan_nil) (by rw [hkq]; exact plan_nil) (by rw [hkp]; rfl) (by rw [hkq]; rfl)
end
end K10
namespace K10
open PySem PySem.Spec PyProof.Rows L2 VB BM
section
variable {K : PySem.W.Frag}
/-- a new chip of eight blocks of eight pages -/
def newS (c : Cp) (rs : List Addr) : CS := ⟨c, rs, List.replicate 8 (List.replicate 248 255), List.replicate 8 0, List.replicate 8 false, [], []⟩
theorem rep_getD {α : Type} (n i : Nat) (x d : α) (h : i < n) : (List.replicate n x).getD i d = x := by
  rw [List.getD_eq_getElem?_getD, List.getElem?_replicate, if_pos h]
  rfl
theorem newChip {H : Hp} {x dx : Addr} {c : Cp} {rs : List Addr} (c1 : c.blocks = ((8 : Nat) : Int)) (c2 : c.pages = ((8 : Nat) : Int)) (h1 : H x = some (.ins (Ch K) dx c.fs)) (lr : rs.length = 8) (ar : ∀ r ∈ rs, H r = some (.tup (IV (List.replicate (31 * 8) 255))))
    (ho : H c.o = some (.lst (rs.map V.ref))) (he : H c.e = some (.lst (IV (List.replicate 8 0)))) (ht : H c.t = some (.lst (BV (List.replicate 8 false)))) (hp : H c.p = some (.dK [])) (hq : H c.q = some (.dK [])) (hrr : H c.r = some (.dK [])) (n1 : c.o ≠ c.e) (n2 : c.o ≠ c.t) (n3 : c.e ≠ c.t) (n4 : c.p ≠ c.q) (n5 : c.p ≠ c.r) (n6 : c.q ≠ c.r) :
    ChipAt K H x dx (newS c rs) := by
  refine ⟨h1, ho, he, ht, hp, hq, fun i hi => ?_, n1, n2, n3, n4, ?_, ?_, ?_, ?_, ?_, ?_, fun i hi => ?_, hrr, n5, n6⟩
  · have hi8 : i < 8 := by
      have : i < (List.replicate 8 (List.replicate 248 (255 : Int))).length := hi
      rwa [List.length_replicate] at this
    show H (rs.getD i 0) = some (.tup (IV ((List.replicate 8 (List.replicate 248 (255 : Int))).getD i [])))
    rw [rep_getD _ _ _ _ hi8]
    refine ar _ ?_
    rw [List.getD_eq_getElem?_getD, List.getElem?_eq_getElem (by omega)]
    exact List.getElem_mem _
  · show rs.length = (List.replicate 8 (List.replicate 248 (255 : Int))).length
    rw [List.length_replicate]
    exact lr
  · show (List.replicate 8 (0 : Int)).length = (List.replicate 8 (List.replicate 248 (255 : Int))).length
    rw [List.length_replicate, List.length_replicate]
  · show (List.replicate 8 false).length = (List.replicate 8 (List.replicate 248 (255 : Int))).length
    rw [List.length_replicate, List.length_replicate]
  · show c.blocks = (((List.replicate 8 (List.replicate 248 (255 : Int))).length : Nat) : Int)
    rw [List.length_replicate]
    exact c1
  · show (List.replicate 8 (List.replicate 248 (255 : Int))).length ≤ 24
    rw [List.length_replicate]
    omega
  · show 8 ≤ c.pages ∧ c.pages ≤ 16
    omega
  · have hi8 : i < 8 := by
      have : i < (List.replicate 8 (List.replicate 248 (255 : Int))).length := hi
      rwa [List.length_replicate] at this
    show Oct ((List.replicate 8 (List.replicate 248 (255 : Int))).getD i []) ∧ ((List.replicate 8 (List.replicate 248 (255 : Int))).getD i []).length = 31 * c.pages.toNat
    rw [rep_getD _ _ _ _ hi8]
    refine ⟨oct_rep (by omega), ?_⟩
    rw [List.length_replicate]
    omega
theorem iv_refs {ps : List Nat} {ds : List Addr} (l : ps.length = 3) (h : (IV (ps.map fun p : Nat => (p : Int))) = ds.map V.ref) : False := by
  cases ps with
  | nil => cases l
  | cons p ps =>
    cases ds with
    | nil => cases h
    | cons q qs =>
      have := (List.cons.inj h).1
      cases this
/-- other data in one place -/
theorem Sti.setd {H : Hp} {bx ch dx pl dl d' : Addr} {s : CS} {b at_ : Nat} {ps : List Nat} {ds : List Addr} {oss : List (List Int)} {os' : List Int} {n : Int} (h : Sti K H bx ch dx pl dl s b ps ds oss n) (ha : at_ < 3) (lo : oss.length = 3)
    (hd' : H d' = some (.lst (IV os'))) (oo : Oct os') (l30 : os'.length = 30) (cl : pg (s.os.getD b []) (ps.getD at_ 0) = List.replicate 31 255) (od : ¬ Own ch s.c d') (nb : d' ≠ bx) (nd : d' ≠ dl) :
    Sti K (upd H dl (.lst ((ds.map V.ref).set at_ (.ref d')))) bx ch dx pl dl s b ps (ds.set at_ d') (oss.set at_ os') n := by
  have hc := h.chip
  have ne : ∀ {y : Addr}, Own ch s.c y → y ≠ dl := fun hy z => h.odl (z ▸ hy)
  have npl : pl ≠ dl := by
    intro e
    have h1 := h.hpl
    rw [e, h.hdl] at h1
    exact iv_refs h.lp (HO.lst.inj (Option.some.inj h1)).symm
  have nbd := h.nbd
  obtain ⟨d, m, c, k, hb, rb⟩ := h.box
  have gd : ∀ k, (ds.set at_ d').getD k 0 = if k = at_ then d' else ds.getD k 0 := fun k => getD_set ds at_ k d' 0 (by rw [h.ld]; exact ha)
  have go : ∀ k, (oss.set at_ os').getD k [] = if k = at_ then os' else oss.getD k [] := fun k => getD_set oss at_ k os' [] (by omega)
  have ow := oct_whole oo l30
  refine ⟨?_, ⟨d, m, c, k, by rw [upd_ne (Ne.symm nbd)]; exact hb, rb⟩, h.pgs, h.len, h.hb, by rw [upd_ne npl]; exact h.hpl, h.lp, h.p8, h.pne, ?_, by rw [List.length_set]; exact h.ld, fun k hk => ?_, fun k hk => ?_, h.obx, h.opl, h.odl, fun k hk => ?_, h.nbp, h.nbd, fun k hk => ?_, fun k hk => ?_⟩
  · exact ⟨by rw [upd_ne (ne (.inl rfl))]; exact hc.ins, by rw [upd_ne (ne (.inr (.inl rfl)))]; exact hc.o, by rw [upd_ne (ne (.inr (.inr (.inl rfl))))]; exact hc.e, by rw [upd_ne (ne (.inr (.inr (.inr (.inl rfl)))))]; exact hc.t, by rw [upd_ne (ne (.inr (.inr (.inr (.inr (.inl rfl))))))]; exact hc.p, by rw [upd_ne (ne (.inr (.inr (.inr (.inr (.inr (.inl rfl)))))))]; exact hc.q,
      fun i hi => by rw [upd_ne (ne_of (hc.tup i hi) h.hdl (fun z => by cases z))]; exact hc.tup i hi, hc.oe, hc.ot, hc.et, hc.pq, hc.nr, hc.ne, hc.nt, hc.nb, hc.b8, hc.g8, hc.oct, ⟨by rw [upd_ne (ne (.inr (.inr (.inr (.inr (.inr (.inr rfl)))))))]; exact hc.rr.1, hc.rr.2⟩⟩
  · rw [upd_same, List.map_set]
  · rw [gd, go]
    by_cases e : k = at_
    · rw [if_pos e, if_pos e]
      exact ⟨by rw [upd_ne nd]; exact hd', oo, l30⟩
    · rw [if_neg e, if_neg e]
      exact ⟨by rw [upd_ne (h.ndk k hk)]; exact (h.hd k hk).1, (h.hd k hk).2⟩
  · rw [go]
    by_cases e : k = at_
    · rw [if_pos e, e, cl]
      exact inn_255 ow.1 ow.2
    · rw [if_neg e]
      exact h.rst k hk
  · rw [gd]
    split
    · exact od
    · exact h.ods k hk
  · rw [gd]
    split
    · exact nb
    · exact h.nbk k hk
  · rw [gd]
    split
    · exact nd
    · exact h.ndk k hk
end
end K10
namespace K10
open PySem PySem.Spec PyProof.Rows L2 VB BM
section
variable {P : Program} {w : World} {K : PySem.W.Frag} {mg : Str → Option Value} {base : Heap} {f : Addr} {fd : FuncData}
def spChipR : Sp := fun vs H Q _ => ∃ (bx : Addr) (n : Int), vs = [.ref bx] ∧ Box H bx n ∧ n < 40000000 ∧ ∀ H' : Hp, Q (.bl true) H'
theorem ok_chipr (T : Txt K mg) (TC : TxC K) (F : FnP K "_law_chip_right" s__law_chip_right f fd) (C__law_take : Cal P w K mg base CX0 1 "_law_take" ["_law_box_here", "_law_many"] spTake) (N_Chip : Mak P w K mg base CX0 4 "Chip" (Ch K) ["self", "blocks", "pages", "bad"] (spInitC K))
    (C__law_data : Cal P w K mg base CX0 3 "_law_data" ["_law_box_here"] spDa) (C__law_step_right : Cal P w K mg base CX0 10 "_law_step_right" ["_law_box_here", "_law_chip", "_law_block", "_law_pages", "_law_datas"] (spStep K)) (M_Chip__read : CalM P w K mg base CX0 4 (Ch K) "read" ["self", "block", "page"] (spRead K)) :
    Fg P w K mg base CX0 11 f fd ["_law_box_here"] spChipR := by
  refine fg_of F sc__law_chip_right (fun vs H Q E h => ?_) (fun cdv A outer s₀ H vs Q E hr h => ⟨_, (PSs.nox (pss_cons (ps_par3 (i := 1) (j := 2) (l := 3) rfl sc__law_chip_right.nd rfl rfl rfl (by decide) (by decide) (by decide) rfl rfl rfl (pa_cons (pe_mak N_Chip hr.le pass0 (pa_cons pe_int (pa_cons pe_int (pa_cons pe_int pa_nil)))) (pa_cons (pe_cal C__law_take hr.le pass0 (pa_cons (pv 0) (pa_cons pe_int pa_nil))) (pa_cons (pe_cal C__law_take hr.le pass0 (pa_cons (pv 0) (pa_cons pe_int pa_nil))) pa_nil))) (by rfl))
  (pss_cons (ps_set (i := 4) sc__law_chip_right.nd rfl (by first | exact Or.inl rfl | exact Or.inr rfl) (pe_lst (pa_cons (pv 3) (pa_cons (pe_op u_mod (pe_callTy call_int1 (by rfl) T.f_int (by decide +kernel) (pa_cons (pe_op (u_add (K := K)) (pe_op (u_add (K := K)) (pv 3) pe_int) (pe_cal C__law_take hr.le pass0 (pa_cons (pv 0) (pa_cons pe_int pa_nil)))) pa_nil)) pe_int) (pa_cons (pe_op u_mod (pe_callTy call_int1 (by rfl) T.f_int (by decide +kernel) (pa_cons (pe_op (u_add (K := K)) (pe_op (u_add (K := K)) (pv 3) pe_int) (pe_cal C__law_take hr.le pass0 (pa_cons (pv 0) (pa_cons pe_int pa_nil)))) pa_nil)) pe_int) pa_nil)))))
  (pss_cons (ps_setLc (i := 5) (own := [("_law_k", 7)]) rfl sc__law_chip_right.nd rfl rfl (sw_true rfl rfl rfl (by decide +kernel)) (pi_range1 rfl T.f_range (pa_cons pe_int pa_nil)) (blkOk_by (own := [("_law_k", 7)]) (N := ["_law_box_here", "_law_chip", "_law_block", "_law_first", "_law_pages", "_law_datas", "_law_at", "_law_k"]) (sc := defScope s__law_chip_right) (by decide +kernel)) (fun _ _ _ _ _ => (pg_name (i := 7) sc__law_chip_right.nd rfl (by first | exact Or.inl rfl | exact Or.inr rfl))) (fun _ _ _ _ _ => pts_nil) (fun _ _ _ _ _ => (pe_cal C__law_data hr.le pass0 (pa_cons (pv 0) pa_nil))))
  (pss_cons (ps_for PassesOwn.never rfl (pi_range1 rfl T.f_range (pa_cons pe_int pa_nil)) (pg_name (i := 7) sc__law_chip_right.nd rfl (by first | exact Or.inl rfl | exact Or.inr rfl))
  (pss_cons (ps_if (pt_not (pt_tru (K := K) (pe_cal C__law_step_right hr.le pass0 (pa_cons (pv 0) (pa_cons (pv 1) (pa_cons (pv 2) (pa_cons (pv 4) (pa_cons (pv 5) pa_nil)))))) (by intro _; rfl)))
  (pss_one (ps_ret pe_bl)) pss_nil)
  (pss_one (ps_for PassesOwn.never rfl (pi_range1 rfl T.f_range (pa_cons pe_int pa_nil)) (pg_name (i := 6) sc__law_chip_right.nd rfl (by first | exact Or.inl rfl | exact Or.inr rfl))
  (pss_one (ps_if (PW.pt (pw_and (pt_cmpR (u_eq (K := K) hr) (pe_callTy (u_list (K := K)) (by rfl) T.f_list (by decide +kernel) (pa_cons (pe_calM M_Chip__read hr.le pass0 (pv 1) (pa_cons (pv 2) (pa_cons (pe_ix (u_ix (K := K)) (pv 4) (pv 6) (fun _ _ => rfl)) pa_nil))) pa_nil)) (pe_op (u_mul (K := K)) (pe_lst (pa_cons pe_int pa_nil)) pe_int) (nomark _)) (pw_and1 (pt_cmpR (u_eq (K := K) hr) (pe_cal C__law_take hr.le pass0 (pa_cons (pv 0) (pa_cons pe_int pa_nil))) pe_int (nomark _)))))
  (pss_one (ps_asg (pe_cal C__law_data hr.le pass0 (pa_cons (pv 0) pa_nil)) (pg_sub (pv 5) (pv 6) set_list))) pss_nil))))))
  (pss_one (ps_ret pe_bl))))))), ?_⟩)
  · obtain ⟨bx, n, rfl, _⟩ := h
    rfl
  · obtain ⟨bx, n, rfl, B, hn, q⟩ := h
    refine fun ch dx hch hdx ndx => ⟨ch, dx, 8, 8, 1, rfl, upd_same, by omega, by omega, by omega, by omega, by omega, fun c rs H1 c1 c2 c3 c4 c5 ke h1 lr ar ho he ht hp hq hrr n1 n2 n3 n4 n5 n6 fo fe ft fp fq frr => ⟨rfl, ?_⟩⟩
    have hC := newChip (K := K) c1 c2 h1 lr ar ho he ht hp hq hrr n1 n2 n3 n4 n5 n6
    have E1 : Evl.Ex H H1 := by
      intro y u hy
      have y1 : y ≠ ch := fun z => by rw [z, hch] at hy; cases hy
      have y2 : y ≠ dx := fun z => by rw [z, hdx] at hy; cases hy
      exact ke y u y1 (by rw [upd_ne y1, upd_ne y2]; exact hy)
    have out : ∀ {y : Addr} {u : HO}, H y = some u → ¬ Own ch c y := by
      intro y u hy o
      have y1 : y ≠ ch := fun z => by rw [z, hch] at hy; cases hy
      have y2 : y ≠ dx := fun z => by rw [z, hdx] at hy; cases hy
      have g : upd (upd H dx (.own ch)) ch (.ins (Ch K) dx []) y = some u := by rw [upd_ne y1, upd_ne y2]; exact hy
      rcases o with rfl | rfl | rfl | rfl | rfl | rfl | rfl
      · exact y1 rfl
      · rw [fo] at g; cases g
      · rw [fe] at g; cases g
      · rw [ft] at g; cases g
      · rw [fp] at g; cases g
      · rw [fq] at g; cases g
      · rw [frr] at g; cases g
    have obx : ¬ Own ch c bx := by
      obtain ⟨_, _, _, _, hb, _⟩ := B
      exact out hb
    have B1 := B.ex E1
    clear ke h1 ar ho he ht hp hq hrr fo fe ft fp fq frr
    refine ⟨_, rfl, bx, 8, n, rfl, B1, by omega, by omega, by omega, fun b H2 b0 b1 e2 B2 => ⟨_, rfl, bx, 8, n + 1, rfl, B2, by omega, by omega, by omega, fun f0 H3 g0 g1 e3 B3 => ⟨_, _, _, rfl, ?_⟩⟩⟩
    have rsne : ∀ {H' : Hp} {m : Int}, ChipAt K H' ch dx (newS c rs) → Box H' bx m → ∀ i, i < (newS c rs).os.length → (newS c rs).rs.getD i 0 ≠ bx := fun hC' B' i hi => Box.nt B' (hC'.tup i hi)
    have hC3 := (hC.exb obx (rsne hC B1) e2).exb obx (rsne (hC.exb obx (rsne hC B1) e2) B2) e3
    obtain ⟨bn, rfl⟩ : ∃ k : Nat, b = k := ⟨b.toNat, by omega⟩
    obtain ⟨fn, rfl⟩ : ∃ k : Nat, f0 = k := ⟨f0.toNat, by omega⟩
    have nz : (0 : Int) < 8 := by decide
    refine ⟨_, rfl, _, rfl, .inl ⟨_, _, rfl, rfl, _, rfl, bx, 3, n + 1 + 1, rfl, B3, by omega, by omega, by omega, fun u H4 u0 u1 e4 B4 => .inl ⟨_, _, rfl, rfl, .inl ⟨_, rfl, _, _, rfl, rfl, nz, ?_⟩⟩⟩⟩
    refine ⟨_, rfl, .inl ⟨_, _, rfl, rfl, _, rfl, bx, 4, n + 1 + 1 + 1, rfl, B4, by omega, by omega, by omega, fun v H5 v0 v1 e5 B5 => .inl ⟨_, _, rfl, rfl, .inl ⟨_, rfl, _, _, rfl, rfl, nz, ?_⟩⟩⟩⟩
    refine ⟨by show 3 ≤ sizeLine; decide, fun pl npl => ?_⟩
    have hC4 := hC3.exb obx (rsne hC3 B3) e4
    have hC5 := hC4.exb obx (rsne hC4 B4) e5
    obtain ⟨un, rfl⟩ : ∃ k : Nat, u = k := ⟨u.toNat, by omega⟩
    obtain ⟨vn, rfl⟩ : ∃ k : Nat, v = k := ⟨v.toNat, by omega⟩
    have ep : [V.int (fn : Int), V.int (((fn : Int) + 1 + (un : Int)) % 8), V.int (((fn : Int) + 4 + (vn : Int)) % 8)] = IV ([fn, (fn + 1 + un) % 8, (fn + 4 + vn) % 8].map fun p : Nat => (p : Int)) := by
      have a1 : ((fn : Int) + 1 + (un : Int)) % 8 = (((fn + 1 + un) % 8 : Nat) : Int) := by omega
      have a2 : ((fn : Int) + 4 + (vn : Int)) % 8 = (((fn + 4 + vn) % 8 : Nat) : Int) := by omega
      rw [a1, a2]
      rfl
    show gName 4 (V.ref pl) _ (upd H5 pl (.lst [V.int (fn : Int), V.int (((fn : Int) + 1 + (un : Int)) % 8), V.int (((fn : Int) + 4 + (vn : Int)) % 8)])) _
    rw [ep]
    have lps : ([fn, (fn + 1 + un) % 8, (fn + 4 + vn) % 8] : List Nat).length = 3 := rfl
    have p8 : ∀ k, k < 3 → ([fn, (fn + 1 + un) % 8, (fn + 4 + vn) % 8] : List Nat).getD k 0 < 8 := by
      intro k hk
      have c : k = 0 ∨ k = 1 ∨ k = 2 := by omega
      rcases c with rfl | rfl | rfl
      · show fn < 8
        omega
      · show (fn + 1 + un) % 8 < 8
        omega
      · show (fn + 4 + vn) % 8 < 8
        omega
    have pne : ∀ i j, i < 3 → j < 3 → i ≠ j → ([fn, (fn + 1 + un) % 8, (fn + 4 + vn) % 8] : List Nat).getD i 0 ≠ ([fn, (fn + 1 + un) % 8, (fn + 4 + vn) % 8] : List Nat).getD j 0 := by
      have m01 : fn ≠ (fn + 1 + un) % 8 := by omega
      have m02 : fn ≠ (fn + 4 + vn) % 8 := by omega
      have m12 : (fn + 1 + un) % 8 ≠ (fn + 4 + vn) % 8 := by omega
      intro i j hi hj ne
      have ci : i = 0 ∨ i = 1 ∨ i = 2 := by omega
      have cj : j = 0 ∨ j = 1 ∨ j = 2 := by omega
      rcases ci with rfl | rfl | rfl <;> rcases cj with rfl | rfl | rfl
      · exact absurd rfl ne
      · exact m01
      · exact m02
      · exact Ne.symm m01
      · exact absurd rfl ne
      · exact m12
      · exact Ne.symm m02
      · exact Ne.symm m12
      · exact absurd rfl ne
    have xp := Evl.Ex.new (o := .lst (IV ([fn, (fn + 1 + un) % 8, (fn + 4 + vn) % 8].map fun p : Nat => (p : Int)))) npl
    have hpl := upd_same (H := H5) (a := pl) (o := .lst (IV ([fn, (fn + 1 + un) % 8, (fn + 4 + vn) % 8].map fun p : Nat => (p : Int))))
    have B6 := B5.ex xp
    have hC6 := hC5.ex xp
    have npb : pl ≠ bx := B5.at npl
    have opl : ¬ Own ch c pl := fun o => by
      obtain ⟨u, hu⟩ := hC5.own o
      rw [npl] at hu
      cases hu
    generalize hps : ([fn, (fn + 1 + un) % 8, (fn + 4 + vn) % 8] : List Nat) = ps at *
    generalize upd H5 pl (.lst (IV (ps.map fun p : Nat => (p : Int)))) = H6 at hpl B6 hC6 ⊢
    refine ⟨3, rfl, by omega, by omega, fun D hD => ?_⟩
    have nD : D ≠ bx := B6.at hD
    have oD : ¬ Own ch c D := fun o => by
      obtain ⟨u, hu⟩ := hC6.own o
      rw [hD] at hu
      cases hu
    refine lc_range (lo := 0) (n := 3) (fun i H' => i ≤ 3 ∧ Exb bx H6 H' ∧ Box H' bx (n + 10 + 60 * i) ∧ ∃ (ds : List Addr) (oss : List (List Int)), ds.length = i ∧ oss.length = i ∧ H' D = some (.lst (ds.map V.ref)) ∧
      ∀ k, k < i → (H' (ds.getD k 0) = some (.lst (IV (oss.getD k []))) ∧ Oct (oss.getD k []) ∧ (oss.getD k []).length = 30) ∧ ds.getD k 0 ≠ bx ∧ ds.getD k 0 ≠ D ∧ H6 (ds.getD k 0) = none)
      ⟨by omega, Exb.new hD, (B6.ex (Evl.Ex.new hD)).le (by omega), [], [], rfl, rfl, upd_same, fun k hk => by omega⟩ ?_ ?_
    · rintro i H7 hi ⟨_, e7, B7, ds, oss, l1, l2, hx, hall⟩
      refine ⟨rfl, _, rfl, bx, _, rfl, B7, by omega, fun d' H8 os' oo' lo' nd' fd' e8 B8 hd8 => ⟨_, e8 D _ nD hx, by rw [List.length_map, l1]; exact Evl.sz_lt (by omega), by omega, Exb.mut (e7.trans e8) hD, Box.le (Box.mut B8 nD) (by omega), ds ++ [d'], oss ++ [os'], by simp [l1], by simp [l2], by rw [upd_same, List.map_append]; rfl, fun k hk => ?_⟩⟩
      have dD : d' ≠ D := fun z => by rw [z, hx] at fd'; cases fd'
      by_cases ck : k < i
      · obtain ⟨⟨z1, z2⟩, z3, z4, z5⟩ := hall k ck
        have g1 : (ds ++ [d']).getD k 0 = ds.getD k 0 := by rw [List.getD_eq_getElem?_getD, List.getD_eq_getElem?_getD, List.getElem?_append_left (by omega)]
        have g2 : (oss ++ [os']).getD k [] = oss.getD k [] := by rw [List.getD_eq_getElem?_getD, List.getD_eq_getElem?_getD, List.getElem?_append_left (by omega)]
        rw [g1, g2]
        exact ⟨⟨by rw [upd_ne z4]; exact e8 _ _ z3 z1, z2⟩, z3, z4, z5⟩
      · have ek : k = i := by omega
        subst ek
        have g1 : (ds ++ [d']).getD k 0 = d' := by
          rw [List.getD_eq_getElem?_getD, List.getElem?_append_right (by omega), l1, Nat.sub_self]
          rfl
        have g2 : (oss ++ [os']).getD k [] = os' := by
          rw [List.getD_eq_getElem?_getD, List.getElem?_append_right (by omega), l2, Nat.sub_self]
          rfl
        rw [g1, g2]
        exact ⟨⟨by rw [upd_ne dD]; exact hd8, oo', lo'⟩, nd', dD, Exb.fresh e7 fd' nd'⟩
    rintro H7 ⟨_, e7, B7, ds, oss, l1, l2, hx, hall⟩
    have hC7 := hC6.exb obx (rsne hC6 B6) e7
    have h7 : Sti K H7 bx ch dx pl D (newS c rs) bn ps ds oss (n + 200) := by
      have clean : (newS c rs).os.getD bn [] = List.replicate 248 255 := rep_getD _ _ _ _ (by omega)
      refine ⟨hC7, B7.le (by omega), c2, by show (List.replicate 8 (List.replicate 248 (255 : Int))).length = 8; rw [List.length_replicate], by omega, e7 _ _ npb hpl, lps, p8, pne, hx, l1, fun k hk => (hall k hk).1, fun k hk => ?_, obx, opl, oD, fun k hk o => ?_, npb, nD, fun k hk => (hall k hk).2.1, fun k hk => (hall k hk).2.2.1⟩
      · have ow := oct_whole (hall k hk).1.2.1 (hall k hk).1.2.2
        rw [clean, pg_rep (p8 k hk)]
        exact inn_255 ow.1 ow.2
      · obtain ⟨u, hu⟩ := hC6.own o
        rw [(hall k hk).2.2.2] at hu
        cases hu
    refine ⟨7, rfl, by omega, by omega, ?_⟩
    refine for_range (lo := 0) (n := 7) (fun i σ H' => ∃ (s : CS) (ds : List Addr) (oss : List (List Int)) (v6 v7 : Option V), σ = [some (.ref bx), some (.ref ch), some (.int (bn : Int)), some (.int (fn : Int)), some (.ref pl), some (.ref D), v6, v7] ∧ Sti K H' bx ch dx pl D s bn ps ds oss (n + 200 + 300 * i) ∧ oss.length = 3 ∧ s.kp = [] ∧ s.kq = [])
      ⟨_, ds, oss, _, _, rfl, ⟨h7.chip, h7.box.le (by omega), h7.pgs, h7.len, h7.hb, h7.hpl, h7.lp, h7.p8, h7.pne, h7.hdl, h7.ld, h7.hd, h7.rst, h7.obx, h7.opl, h7.odl, h7.ods, h7.nbp, h7.nbd, h7.nbk, h7.ndk⟩, l2, rfl, rfl⟩ ?_ ?_
    · rintro i σ H8 hi ⟨s, ds, oss, v6, v7, rfl, h8, l8, k1, k2⟩
      refine ⟨_, rfl, _, rfl, _, rfl, _, rfl, _, rfl, bx, ch, dx, pl, D, s, bn, ps, ds, oss, _, rfl, h8, k1, k2, by omega, fun s' H9 h9 k1' k2' => ⟨true, rfl, iteF ?_⟩⟩
      refine ⟨3, rfl, by omega, by omega, ?_⟩
      refine for_range (lo := 0) (n := 3) (fun j σ H' => ∃ (ds : List Addr) (oss : List (List Int)) (v6 : Option V), σ = [some (.ref bx), some (.ref ch), some (.int (bn : Int)), some (.int (fn : Int)), some (.ref pl), some (.ref D), v6, some (.int (0 + (i : Int)))] ∧ Sti K H' bx ch dx pl D s' bn ps ds oss (n + 200 + 300 * i + 20 + 70 * j) ∧ oss.length = 3)
        ⟨ds, oss, _, rfl, ⟨h9.chip, h9.box.le (by omega), h9.pgs, h9.len, h9.hb, h9.hpl, h9.lp, h9.p8, h9.pne, h9.hdl, h9.ld, h9.hd, h9.rst, h9.obx, h9.opl, h9.odl, h9.ods, h9.nbp, h9.nbd, h9.nbk, h9.ndk⟩, l8⟩ ?_ ?_
      · rintro j σ Ha hj ⟨ds, oss, v6, rfl, ha, la⟩
        have e0 : (0 : Int) + (j : Int) = (j : Int) := Int.zero_add _
        rw [e0]
        have R := ha.rd (ha.p8 j hj)
        have up : ∀ {H' : Hp} {m m' : Int} {ds : List Addr} {oss : List (List Int)}, Sti K H' bx ch dx pl D s' bn ps ds oss m → m ≤ m' → Sti K H' bx ch dx pl D s' bn ps ds oss m' := fun h le => ⟨h.chip, h.box.le le, h.pgs, h.len, h.hb, h.hpl, h.lp, h.p8, h.pne, h.hdl, h.ld, h.hd, h.rst, h.obx, h.opl, h.odl, h.ods, h.nbp, h.nbd, h.nbk, h.ndk⟩
        refine ⟨_, rfl, ch, dx, _, rfl, ha.chip.ins, rfl, _, rfl, _, rfl, _, rfl, nat3 ha.hpl (by rw [ha.lp]; exact hj) ⟨ch, s'.c, bn, ps.getD j 0, s'.rs, s'.os.getD bn [], rfl, ⟨dx, ha.chip.ins⟩, R.1.1, R.1.2, R.2.1, R.2.2.1, R.2.2.2.1, R.2.2.2.2.1, R.2.2.2.2.2.1, R.2.2.2.2.2.2, fun t Hb nt eb ht => ?_⟩⟩
        have ht : Hb t = some (.tup (IV (pg (s'.os.getD bn []) (ps.getD j 0)))) := ht
        refine ⟨t, _, rfl, .inr (SqT.of ht), fun l nl => ⟨by show 1 ≤ sizeLine; decide, fun l3 n3 => rep_l (k := 31) upd_same (by omega) (by omega) fun l4 n4 => ?_⟩⟩
        have xl := Evl.Ex.new (o := .lst (IV (pg (s'.os.getD bn []) (ps.getD j 0)))) nl
        have x3 := Evl.Ex.new (o := .lst [V.int 255]) n3
        have x4 := Evl.Ex.new (o := .lst (IV (List.replicate (31 : Int).toNat 255))) n4
        have XX := eb.trans ((xl.trans x3).trans x4)
        refine .inr (req_l (SqL.of (x4 _ _ (x3 _ _ upd_same))) (SqL.of upd_same) ⟨_, rfl, if_dec (fun ec => ?_) (fun ec => ?_)⟩)
        · have hb := ha.ex XX
          refine ⟨_, rfl, bx, 2, _, rfl, hb.box, by omega, by omega, by omega, fun r Hc r0 r1 e2 B2 => .inl ⟨rfl, _, rfl, if_eq (fun h0 => ?_) (fun h0 => ?_)⟩⟩
          · have hc := hb.exb e2 B2
            refine ⟨_, rfl, bx, _, rfl, hc.box, by omega, fun d' Hd os' oo' lo' nd' fd' ed Bd hd' => ?_⟩
            have hd := hc.exb ed Bd
            have lo3 : os'.length = 30 := lo'
            refine ⟨_, rfl, _, rfl, D, _, _, j, rfl, rfl, hd.hdl, Evl.ixN_nat (by rw [List.length_map, hd.ld]; exact hj), ?_⟩
            have nd2 : d' ≠ D := fun z => by rw [z, hc.hdl] at fd'; cases fd'
            have no : ¬ Own ch s'.c d' := fun o => by
              obtain ⟨u, hu⟩ := hc.chip.own o
              rw [fd'] at hu
              cases hu
            exact ⟨ds.set j d', oss.set j os', _, rfl, up (hd.setd hj la hd' oo' lo3 ec no nd' nd2) (by omega), by rw [List.length_set]; exact la⟩
          · exact ⟨ds, oss, _, rfl, up (hb.exb e2 B2) (by omega), la⟩
        · exact ⟨ds, oss, _, rfl, up (ha.ex XX) (by omega), la⟩
      · rintro σ Ha ⟨ds, oss, v6, rfl, ha, la⟩
        exact ⟨s', ds, oss, _, _, rfl, ⟨ha.chip, ha.box.le (by omega), ha.pgs, ha.len, ha.hb, ha.hpl, ha.lp, ha.p8, ha.pne, ha.hdl, ha.ld, ha.hd, ha.rst, ha.obx, ha.opl, ha.odl, ha.ods, ha.nbp, ha.nbd, ha.nbk, ha.ndk⟩, la, k1', k2'⟩
    · rintro σ H8 ⟨s, ds, oss, v6, v7, rfl, h8, l8, k1, k2⟩
      exact q _
end
end K10
namespace K10
open PySem PySem.Spec PyProof.Rows L2 VB BM
/-- how many bits ahead of a place are unlike -/
def cnt : List Int → List Int → Nat → Nat
  | a :: as, b :: bs, i + 1 => (if a = b then 0 else 1) + cnt as bs i
  | _, _, _ => 0
theorem cnt_zero : ∀ as bs : List Int, cnt as bs 0 = 0
  | [], [] => rfl
  | [], _ :: _ => rfl
  | _ :: _, [] => rfl
  | _ :: _, _ :: _ => rfl
theorem cnt_succ : ∀ (as bs : List Int) (i : Nat), as.length = bs.length → i < as.length → cnt as bs (i + 1) = cnt as bs i + (if as.getD i 0 = bs.getD i 0 then 0 else 1)
  | [], _, _, _, h => by cases h
  | _ :: _, [], _, l, _ => by cases l
  | a :: as, b :: bs, 0, _, _ => by
    show (if a = b then 0 else 1) + cnt as bs 0 = cnt (a :: as) (b :: bs) 0 + (if a = b then 0 else 1)
    rw [cnt_zero, cnt_zero]
    omega
  | a :: as, b :: bs, i + 1, l, h => by
    have r := cnt_succ as bs i (by simpa using l) (by simpa using h)
    show (if a = b then 0 else 1) + cnt as bs (i + 1) = ((if a = b then 0 else 1) + cnt as bs i) + (if as.getD i 0 = bs.getD i 0 then 0 else 1)
    rw [r]
    omega
theorem turned_get : ∀ (as bs : List Int) (m : Int) (i : Nat), as.length = bs.length → i < as.length →
    (turned as bs m).getD i 0 = if as.getD i 0 = bs.getD i 0 then as.getD i 0 else if (m / 2 ^ (cnt as bs i)) % 2 = 1 then bs.getD i 0 else as.getD i 0
  | [], _, _, _, _, h => by cases h
  | _ :: _, [], _, _, l, _ => by cases l
  | a :: as, b :: bs, m, 0, _, _ => by
    rw [turned_cons, cnt_zero]
    show (if a = b then a :: turned as bs m else _).getD 0 0 = if a = b then a else if m / 2 ^ 0 % 2 = 1 then b else a
    by_cases e : a = b
    · rw [if_pos e, if_pos e]
      rfl
    · rw [if_neg e, if_neg e, Int.pow_zero, Int.ediv_one]
      rfl
  | a :: as, b :: bs, m, i + 1, l, h => by
    have l' : as.length = bs.length := by simpa using l
    have h' : i < as.length := by simpa using h
    rw [turned_cons]
    show _ = if as.getD i 0 = bs.getD i 0 then as.getD i 0 else if (m / 2 ^ ((if a = b then 0 else 1) + cnt as bs i)) % 2 = 1 then bs.getD i 0 else as.getD i 0
    by_cases e : a = b
    · rw [if_pos e, if_pos e, Nat.zero_add]
      exact turned_get as bs m i l' h'
    · rw [if_neg e, if_neg e]
      have r := turned_get as bs (m / 2) i l' h'
      have d : m / 2 / 2 ^ cnt as bs i = m / 2 ^ (1 + cnt as bs i) := by
        rw [Nat.add_comm, Int.pow_succ, Int.mul_comm, Int.ediv_ediv_of_nonneg (by decide)]
      rw [d] at r
      exact r
theorem turned_pre : ∀ (as ps qs : List Int) (m : Int), turned (as ++ ps) (as ++ qs) m = as ++ turned ps qs m
  | [], _, _, _ => rfl
  | a :: as, ps, qs, m => by
    show turned (a :: (as ++ ps)) (a :: (as ++ qs)) m = a :: (as ++ turned ps qs m)
    rw [turned_cons, if_pos rfl, turned_pre as ps qs m]
theorem turned_suf : ∀ (ps qs cs : List Int) (m : Int), ps.length = qs.length → turned (ps ++ cs) (qs ++ cs) m = turned ps qs m ++ cs
  | [], [], cs, m, _ => by
    show turned cs cs m = turned [] [] m ++ cs
    rw [turned_same, turned_same]
    rfl
  | p :: ps, q :: qs, cs, m, l => by
    have l' : ps.length = qs.length := by simpa using l
    show turned (p :: (ps ++ cs)) (q :: (qs ++ cs)) m = _
    rw [turned_cons, turned_cons, turned_suf ps qs cs m l', turned_suf ps qs cs (m / 2) l']
    split <;> rfl
  | [], _ :: _, _, _, l => by cases l
  | _ :: _, [], _, _, l => by cases l
theorem bits_inj {xs ys : List Int} (ox : Oct xs) (oy : Oct ys) (h : bitsL xs = bitsL ys) : xs = ys := by
  rw [← octetsL_bitsL ox, ← octetsL_bitsL oy, h]
theorem both_oct' {xs ys : List Int} (ox : Oct xs) (oy : Oct ys) : Oct (both Builtin.bitAnd xs ys) := both_oct ox oy fun _ _ => and_oct
/-- a page amid a block, under a mask -/
theorem mix_page {X ws : List Int} {p : Nat} (m : Int) (oX : Oct X) (lX : X.length = 248) (ow : Oct ws) (lw : ws.length = 31) (hp : p < 8) : pg (mixL X (wrote X ws p) m) p = mixL (pg X p) (both Builtin.bitAnd (pg X p) ws) m := by
  have lP := pg_len lX hp
  have oP := pg_oct oX p
  have lB := both_len (f := Builtin.bitAnd) (xs := pg X p) (ys := ws) (by omega)
  have oB := both_oct' oP ow
  have eX : X = X.take (31 * p) ++ (pg X p ++ X.drop (31 * p + 31)) := by
    unfold pg
    have e1 : X.drop (31 * p + 31) = (X.drop (31 * p)).drop 31 := by rw [List.drop_drop]
    rw [e1, List.take_append_drop, List.take_append_drop]
  have eW : wrote X ws p = X.take (31 * p) ++ (both Builtin.bitAnd (pg X p) ws ++ X.drop (31 * p + 31)) := rfl
  have lW := wrote_len lX lw hp
  obtain ⟨z1, z2, z3⟩ := mixL_spec (X := X) (Y := wrote X ws p) m (by omega)
  obtain ⟨g1, g2, g3⟩ := mixL_spec (X := pg X p) (Y := both Builtin.bitAnd (pg X p) ws) m (by omega)
  have oA : Oct (X.take (31 * p)) := fun x hx => oX x (List.mem_of_mem_take hx)
  have oC : Oct (X.drop (31 * p + 31)) := fun x hx => oX x (List.mem_of_mem_drop hx)
  have key : mixL X (wrote X ws p) m = X.take (31 * p) ++ (mixL (pg X p) (both Builtin.bitAnd (pg X p) ws) m ++ X.drop (31 * p + 31)) := by
    refine bits_inj z2 (oct_app oA (oct_app g2 oC)) ?_
    rw [z1, eW]
    have eb : bitsL X = bitsL (X.take (31 * p)) ++ (bitsL (pg X p) ++ bitsL (X.drop (31 * p + 31))) := by
      rw [← bitsL_append, ← bitsL_append, ← eX]
    rw [eb, bitsL_append, bitsL_append, turned_pre, turned_suf _ _ _ _ (by rw [bitsL_len, bitsL_len, lP, lB, lP]), bitsL_append, bitsL_append, g1]
  rw [key]
  have lt : (X.take (31 * p)).length = 31 * p := by rw [List.length_take]; omega
  show ((X.take (31 * p) ++ (mixL (pg X p) (both Builtin.bitAnd (pg X p) ws) m ++ X.drop (31 * p + 31))).drop (31 * p)).take 31 = _
  rw [List.drop_append_of_le_length (by omega), List.drop_of_length_le (by omega), List.nil_append, List.take_append_of_le_length (by omega), List.take_of_length_le (by omega)]
end K10
namespace K10
open PySem PySem.Spec PyProof.Rows L2 VB BM
/-- all ones but for these bits -/
def offB (bs : List Nat) : List Int := bs.foldl (fun B b => B.set b 0) (List.replicate 240 1)
theorem off_len : ∀ (bs : List Nat) (B : List Int), (bs.foldl (fun B b => B.set b 0) B).length = B.length
  | [], _ => rfl
  | b :: bs, B => by
    rw [List.foldl_cons, off_len bs, List.length_set]
theorem off_bit : ∀ (bs : List Nat) (B : List Int), Bit B → Bit (bs.foldl (fun B b => B.set b 0) B)
  | [], _, h => h
  | b :: bs, B, h => by
    rw [List.foldl_cons]
    refine off_bit bs _ fun x hx => ?_
    rcases List.mem_or_eq_of_mem_set hx with z | z
    · exact h x z
    · exact .inl z
theorem off_getF (r : Nat) : ∀ (bs : List Nat) (B : List Int), r < B.length → (bs.foldl (fun B b => B.set b 0) B).getD r 0 = if r ∈ bs then 0 else B.getD r 0
  | [], B, _ => by
    rw [if_neg (by simp)]
    rfl
  | b :: bs, B, h => by
    rw [List.foldl_cons, off_getF r bs _ (by rw [List.length_set]; exact h)]
    by_cases c : r ∈ bs
    · rw [if_pos c, if_pos (List.mem_cons_of_mem _ c)]
    · rw [if_neg c]
      by_cases e : b = r
      · subst e
        rw [if_pos (List.mem_cons_self ..), List.getD_eq_getElem?_getD, List.getElem?_set_self h]
        rfl
      · rw [if_neg (by simp only [List.mem_cons, not_or]; exact ⟨fun z => e z.symm, c⟩), List.getD_eq_getElem?_getD, List.getElem?_set_ne e, ← List.getD_eq_getElem?_getD]
theorem offB_len (bs : List Nat) : (offB bs).length = 240 := by
  unfold offB
  rw [off_len, List.length_replicate]
theorem offB_get {bs : List Nat} {r : Nat} (h : r < 240) : (offB bs).getD r 0 = if r ∈ bs then 0 else 1 := by
  unfold offB
  rw [off_getF r bs _ (by rw [List.length_replicate]; exact h)]
  congr 1
  rw [List.getD_eq_getElem?_getD, List.getElem?_replicate, if_pos h]
  rfl
def Fw (bs : List Nat) : List Int := octetsL (offB bs)
theorem Fw_spec (bs : List Nat) : bitsL (Fw bs) = offB bs ∧ Oct (Fw bs) ∧ (Fw bs).length = 30 :=
  octetsL_spec (n := 30) (by rw [offB_len]) (off_bit bs _ fun x hx => .inr (List.eq_of_mem_replicate hx))
theorem zc_set : ∀ (B : List Int) (i : Nat), i < B.length → B.getD i 0 = 1 → zc (B.set i 0) = zc B + 1
  | [], _, h, _ => by cases h
  | b :: B, 0, _, h => by
    have e : b = 1 := h
    subst e
    show zc (0 :: B) = zc (1 :: B) + 1
    rw [zc_cons, zc_cons]
    simp
    omega
  | b :: B, i + 1, h, g => by
    have r := zc_set B i (by simpa using h) g
    show zc (b :: B.set i 0) = zc (b :: B) + 1
    rw [zc_cons, zc_cons, r]
    omega
theorem zc_ones (n : Nat) : zc (List.replicate n 1) = 0 := by
  unfold zc
  rw [List.count_replicate]
  rfl
theorem zc_one {a : Nat} (h : a < 240) : zc (bitsL (Fw [a])) = 1 := by
  rw [(Fw_spec [a]).1]
  show zc ((List.replicate 240 (1 : Int)).set a 0) = 1
  rw [zc_set _ _ (by rw [List.length_replicate]; exact h) (rep_getD _ _ _ _ h), zc_ones]
  rfl
theorem zc_two {a b : Nat} (h : a < 240) (h2 : b < 240) (n : a ≠ b) : zc (bitsL (Fw [a, b])) = 2 := by
  rw [(Fw_spec [a, b]).1]
  show zc (((List.replicate 240 (1 : Int)).set a 0).set b 0) = 2
  have e : ((List.replicate 240 (1 : Int)).set a 0).getD b 0 = 1 := by
    rw [List.getD_eq_getElem?_getD, List.getElem?_set_ne n, ← List.getD_eq_getElem?_getD, rep_getD _ _ _ _ h2]
  rw [zc_set _ _ (by rw [List.length_set, List.length_replicate]; exact h2) e, zc_set _ _ (by rw [List.length_replicate]; exact h) (rep_getD _ _ _ _ h), zc_ones]
  rfl
theorem app_get {A C : List Int} {r : Nat} (l : A.length = 240) : (A ++ C).getD r 0 = if r < 240 then A.getD r 0 else C.getD (r - 240) 0 := by
  rw [List.getD_eq_getElem?_getD]
  by_cases h : r < 240
  · rw [if_pos h, List.getElem?_append_left (by omega), ← List.getD_eq_getElem?_getD]
  · rw [if_neg h, List.getElem?_append_right (by omega), l, ← List.getD_eq_getElem?_getD]
theorem zip_get {A C : List Int} {r : Nat} (l : A.length = C.length) (h : r < A.length) : (List.zipWith (fun a b : Int => if a = 1 ∧ b = 1 then (1 : Int) else 0) A C).getD r 0 = if A.getD r 0 = 1 ∧ C.getD r 0 = 1 then 1 else 0 := by
  rw [List.getD_eq_getElem?_getD, List.getElem?_zipWith, List.getD_eq_getElem?_getD, List.getD_eq_getElem?_getD, List.getElem?_eq_getElem h, List.getElem?_eq_getElem (by omega : r < C.length)]
  rfl
theorem tail_bits : ∀ j : Nat, j < 8 → ((bitsOf 3).getD j 0 = (if j = 6 ∨ j = 7 then 1 else 0)) ∧ ((bitsOf 2).getD j 0 = if j = 6 then 1 else 0) := by decide
theorem mix_two {one two three : Nat} {m : Int} (h1 : one < 240) (h2 : two < 240) (h3 : three < 240) (n12 : one ≠ two) (n13 : one ≠ three) (n23 : two ≠ three) (hm : m = 4 + if two < three then 1 else 2) :
    mixL (Fw [one] ++ [3]) (both Builtin.bitAnd (Fw [one] ++ [3]) (Fw [two, three] ++ [2])) m = Fw [one, two] ++ [2] := by
  obtain ⟨a1, a2, a3⟩ := Fw_spec [one]
  obtain ⟨b1, b2, b3⟩ := Fw_spec [two, three]
  obtain ⟨c1, c2, c3⟩ := Fw_spec [one, two]
  have o3 : Oct [3] := octs (by decide)
  have o2 : Oct [2] := octs (by decide)
  have oX := oct_app a2 o3
  have oW := oct_app b2 o2
  have lX : (Fw [one] ++ [3]).length = 31 := by rw [List.length_append, a3]; rfl
  have lW : (Fw [two, three] ++ [2]).length = 31 := by rw [List.length_append, b3]; rfl
  have lB := both_len (f := Builtin.bitAnd) (xs := Fw [one] ++ [3]) (ys := Fw [two, three] ++ [2]) (by omega)
  obtain ⟨g1, g2, g3⟩ := mixL_spec (X := Fw [one] ++ [3]) (Y := both Builtin.bitAnd (Fw [one] ++ [3]) (Fw [two, three] ++ [2])) m (by omega)
  refine bits_inj g2 (oct_app c2 o2) ?_
  rw [g1]
  have eP : bitsL (Fw [one] ++ [3]) = offB [one] ++ bitsOf 3 := by rw [bitsL_append, a1]; rfl
  have eR : bitsL (Fw [two, three] ++ [2]) = offB [two, three] ++ bitsOf 2 := by rw [bitsL_append, b1]; rfl
  have eZ : bitsL (Fw [one, two] ++ [2]) = offB [one, two] ++ bitsOf 2 := by rw [bitsL_append, c1]; rfl
  have eQ : bitsL (both Builtin.bitAnd (Fw [one] ++ [3]) (Fw [two, three] ++ [2])) = List.zipWith (fun a b : Int => if a = 1 ∧ b = 1 then (1 : Int) else 0) (offB [one] ++ bitsOf 3) (offB [two, three] ++ bitsOf 2) := by
    rw [← eP, ← eR]
    exact bitsL_both (fun x y hx hy => and_bitsO hx hy) _ _ oX oW
  rw [eQ, eP, eZ]
  have lp : (offB [one] ++ bitsOf 3).length = 248 := by rw [List.length_append, offB_len]; rfl
  have lr : (offB [two, three] ++ bitsOf 2).length = 248 := by rw [List.length_append, offB_len]; rfl
  have lz : (offB [one, two] ++ bitsOf 2).length = 248 := by rw [List.length_append, offB_len]; rfl
  have gP : ∀ r, r < 248 → (offB [one] ++ bitsOf 3).getD r 0 = if r < 240 then (if r = one then 0 else 1) else (if r = 246 ∨ r = 247 then 1 else 0) := by
    intro r hr
    rw [app_get (offB_len _)]
    by_cases c : r < 240
    · rw [if_pos c, if_pos c, offB_get c]
      simp only [List.mem_singleton]
    · rw [if_neg c, if_neg c, (tail_bits (r - 240) (by omega)).1]
      congr 1
      exact propext ⟨fun z => by omega, fun z => by omega⟩
  have gR : ∀ r, r < 248 → (offB [two, three] ++ bitsOf 2).getD r 0 = if r < 240 then (if r = two ∨ r = three then 0 else 1) else (if r = 246 then 1 else 0) := by
    intro r hr
    rw [app_get (offB_len _)]
    by_cases c : r < 240
    · rw [if_pos c, if_pos c, offB_get c]
      simp only [List.mem_cons, List.not_mem_nil, or_false]
    · rw [if_neg c, if_neg c, (tail_bits (r - 240) (by omega)).2]
      congr 1
      exact propext ⟨fun z => by omega, fun z => by omega⟩
  have gZ : ∀ r, r < 248 → (offB [one, two] ++ bitsOf 2).getD r 0 = if r < 240 then (if r = one ∨ r = two then 0 else 1) else (if r = 246 then 1 else 0) := by
    intro r hr
    rw [app_get (offB_len _)]
    by_cases c : r < 240
    · rw [if_pos c, if_pos c, offB_get c]
      simp only [List.mem_cons, List.not_mem_nil, or_false]
    · rw [if_neg c, if_neg c, (tail_bits (r - 240) (by omega)).2]
      congr 1
      exact propext ⟨fun z => by omega, fun z => by omega⟩
  have gQ := fun r (hr : r < 248) => zip_get (A := offB [one] ++ bitsOf 3) (C := offB [two, three] ++ bitsOf 2) (r := r) (by omega) (by omega)
  generalize offB [one] ++ bitsOf 3 = A at *
  generalize offB [two, three] ++ bitsOf 2 = R at *
  generalize offB [one, two] ++ bitsOf 2 = Z at *
  have lq : (List.zipWith (fun a b : Int => if a = 1 ∧ b = 1 then (1 : Int) else 0) A R).length = 248 := by rw [List.length_zipWith]; omega
  generalize List.zipWith (fun a b : Int => if a = 1 ∧ b = 1 then (1 : Int) else 0) A R = Q at *
  have same : ∀ r, r < 248 → (A.getD r 0 = Q.getD r 0 ↔ ¬ (r = two ∨ r = three ∨ r = 247)) := by
    intro r hr
    rw [gQ r hr, gR r hr, gP r hr]
    by_cases c : r < 240
    · rw [if_pos c, if_pos c]
      by_cases c1 : r = one
      · rw [if_pos c1]
        simp
        omega
      · rw [if_neg c1]
        by_cases c2 : r = two ∨ r = three
        · rw [if_pos c2]
          simp
          omega
        · rw [if_neg c2]
          simp
          omega
    · rw [if_neg c, if_neg c]
      by_cases c1 : r = 246 ∨ r = 247
      · rw [if_pos c1]
        by_cases c2 : r = 246
        · rw [if_pos c2]
          simp
          omega
        · rw [if_neg c2]
          simp
          omega
      · rw [if_neg c1]
        simp
        omega
  have cn : ∀ r, r ≤ 248 → cnt A Q r = (if two < r then 1 else 0) + (if three < r then 1 else 0) + (if 247 < r then 1 else 0) := by
    intro r
    induction r with
    | zero =>
      intro _
      rw [cnt_zero]
      simp
    | succ r ih =>
      intro hr
      rw [cnt_succ A Q r (by omega) (by omega), ih (by omega)]
      have s := same r (by omega)
      by_cases c : A.getD r 0 = Q.getD r 0
      · rw [if_pos c]
        have n := s.mp c
        have t1 : (if two < r + 1 then 1 else 0) = (if two < r then 1 else 0) := by congr 1; exact propext ⟨fun z => by omega, fun z => by omega⟩
        have t2 : (if three < r + 1 then 1 else 0) = (if three < r then 1 else 0) := by congr 1; exact propext ⟨fun z => by omega, fun z => by omega⟩
        have t3 : (if 247 < r + 1 then 1 else 0) = (if 247 < r then 1 else 0) := by congr 1; exact propext ⟨fun z => by omega, fun z => by omega⟩
        rw [t1, t2, t3]
        rfl
      · rw [if_neg c]
        have n : r = two ∨ r = three ∨ r = 247 := Classical.byContradiction fun z => c (s.mpr z)
        rcases n with rfl | rfl | rfl
        · rw [if_neg (by omega), if_pos (by omega : r < r + 1), if_neg (by omega : ¬ 247 < r), if_neg (by omega : ¬ 247 < r + 1)]
          have t2 : (if three < r + 1 then 1 else 0) = (if three < r then 1 else 0) := by congr 1; exact propext ⟨fun z => by omega, fun z => by omega⟩
          rw [t2]
          omega
        · rw [if_neg (by omega : ¬ r < r), if_pos (by omega : r < r + 1), if_neg (by omega : ¬ 247 < r), if_neg (by omega : ¬ 247 < r + 1)]
          have t2 : (if two < r + 1 then 1 else 0) = (if two < r then 1 else 0) := by congr 1; exact propext ⟨fun z => by omega, fun z => by omega⟩
          rw [t2]
        · rw [if_pos (by omega : two < 247), if_pos (by omega : three < 247), if_neg (by omega), if_pos (by omega : two < 247 + 1), if_pos (by omega : three < 247 + 1), if_pos (by omega)]
  have lt : (turned A Q m).length = 248 := by rw [turned_len _ _ _ (by omega)]; exact lp
  refine List.ext_getElem (by omega) fun r h1' h2' => ?_
  have hr : r < 248 := by omega
  have e1 : (turned A Q m).getD r 0 = Z.getD r 0 := by
    rw [turned_get A Q m r (by omega) (by omega), gZ r hr]
    by_cases c : A.getD r 0 = Q.getD r 0
    · rw [if_pos c, gP r hr]
      have n := (same r hr).mp c
      by_cases c4 : r < 240
      · rw [if_pos c4, if_pos c4]
        congr 1
        exact propext ⟨fun z => .inl z, fun z => by omega⟩
      · rw [if_neg c4, if_neg c4]
        congr 1
        exact propext ⟨fun z => by omega, fun z => by omega⟩
    · rw [if_neg c, cn r (by omega), gQ r hr, gP r hr, gR r hr]
      have n : r = two ∨ r = three ∨ r = 247 := Classical.byContradiction fun z => c ((same r hr).mpr z)
      rcases n with rfl | rfl | rfl
      · rw [if_neg (by omega : ¬ r < r), if_neg (by omega : ¬ 247 < r)]
        simp only [h2, if_true, true_or, or_true]
        by_cases d : r < three
        · rw [if_neg (by omega : ¬ three < r)]
          rw [if_pos d] at hm
          rw [hm]
          simp
        · rw [if_pos (by omega : three < r)]
          rw [if_neg d] at hm
          rw [hm]
          simp
      · rw [if_neg (by omega : ¬ r < r), if_neg (by omega : ¬ 247 < r)]
        have no : ¬ r = one := by omega
        have nt : ¬ r = two := by omega
        simp only [h3, if_true, no, nt, if_false, or_false, or_true, false_or]
        by_cases d : two < r
        · rw [if_pos d]
          rw [if_pos d] at hm
          rw [hm]
          simp
        · rw [if_neg d]
          rw [if_neg d] at hm
          rw [hm]
          simp
      · rw [if_pos (by omega : two < 247), if_pos (by omega : three < 247), if_neg (by omega : ¬ 247 < 247)]
        have md : m / 2 ^ (1 + 1 + 0) % 2 = 1 := by
          rw [hm]
          split <;> decide
        rw [if_pos md]
        simp
  rw [List.getD_eq_getElem?_getD, List.getD_eq_getElem?_getD, List.getElem?_eq_getElem h1', List.getElem?_eq_getElem h2'] at e1
  exact e1
end K10
namespace K10
open PySem PySem.Spec PyProof.Rows L2 VB BM
theorem bit_off : ∀ o : Nat, o < 256 → ∀ j : Nat, j < 8 → (bitsOf (o : Int))[j]? = some 1 → 128 / 2 ^ j ≤ o ∧ bitsOf ((o - 128 / 2 ^ j : Nat) : Int) = (bitsOf (o : Int)).set j 0 := by decide +kernel
section
variable {P : Program} {w : World} {K : PySem.W.Frag} {mg : Str → Option Value} {base : Heap} {f : Addr} {fd : FuncData}
def spWo (K : PySem.W.Frag) : Sp := fun vs H Q _ => ∃ (l : Addr) (bs : List Nat), vs = [.ref l] ∧ H l = some (.lst (IV (bs.map fun b : Nat => (b : Int)))) ∧ (∀ b ∈ bs, b < 240) ∧ bs.Nodup ∧ bs.length ≤ 2 ∧ ∀ (p : Addr) (H' : Hp), H p = none → Evl.Ex H H' → H' p = some (.lst (IV (Fw bs))) → Q (.ref p) H'
theorem ok_without (T : Txt K mg) (F : FnP K "_law_without" s__law_without f fd) : Fg P w K mg base CX0 1 f fd ["_law_bits"] (spWo K) := by
  refine fg_of F sc__law_without (fun vs H Q E h => ?_) (fun cdv A outer s H vs Q E hr h => ⟨_, (PSs.nox (pss_cons (ps_set (i := 1) sc__law_without.nd rfl (by first | exact Or.inl rfl | exact Or.inr rfl) (pe_op (u_mul (K := K)) (pe_lst (pa_cons pe_int pa_nil)) pe_int))
  (pss_cons (ps_for PassesOwn.never rfl (pi_seq (K := K) (pv 0)) (pg_name (i := 2) sc__law_without.nd rfl (by first | exact Or.inl rfl | exact Or.inr rfl))
  (pss_one (ps_asg (pe_op op_sub (pe_ix (u_ix (K := K)) (pv 1) (pe_op u_fdiv (pv 2) pe_int) (fun _ _ => rfl)) (pe_ix (u_ix (K := K)) (pe_lst (pa_cons pe_int (pa_cons pe_int (pa_cons pe_int (pa_cons pe_int (pa_cons pe_int (pa_cons pe_int (pa_cons pe_int (pa_cons pe_int pa_nil))))))))) (pe_op u_mod (pe_callTy call_int1 (by rfl) T.f_int (by decide +kernel) (pa_cons (pv 2) pa_nil)) pe_int) (fun _ _ => rfl))) (pg_sub (pv 1) (pe_op u_fdiv (pv 2) pe_int) set_list))))
  (pss_one (ps_ret (pv 1)))))), ?_⟩)
  · obtain ⟨l, bs, rfl, _⟩ := h
    rfl
  · obtain ⟨l, bs, rfl, hl, hb, nd, l2, q⟩ := h
    refine ⟨by show 1 ≤ sizeLine; decide, fun l0 n0 => rep_l (k := 30) upd_same (by omega) (by omega) fun D nD => ?_⟩
    have x0 := Evl.Ex.new (o := .lst [V.int 255]) n0
    have x1 := Evl.Ex.new (o := .lst (IV (List.replicate (30 : Int).toNat 255))) nD
    have hDn := Evl.fresh_back x0 nD
    have E0 := x0.trans x1
    have hD0 := upd_same (H := upd H l0 (.lst [V.int 255])) (a := D) (o := .lst (IV (List.replicate (30 : Int).toNat 255)))
    generalize upd (upd H l0 (.lst [V.int 255])) D (.lst (IV (List.replicate (30 : Int).toNat 255))) = H1 at E0 hD0 ⊢
    refine seq_var (t := false) rfl (Sv.lst (E0 _ _ hl)) fun J wk => ?_
    have ll : (IV (bs.map fun b : Nat => (b : Int))).length = bs.length := by rw [iv_len, List.length_map]
    rw [ll] at wk
    have b0 : bitsL (List.replicate (30 : Int).toNat 255) = List.replicate 240 1 := by
      have e : bitsOf 255 = List.replicate 8 1 := by decide
      exact bits_rep 255 1 e 30
    have n8 : (0 : Int) < 8 ∧ (8 : Int) < 1073741824 := by decide
    have nz : (0 : Int) < 8 := by decide
    refine for_it wk (fun i σ H' => ∃ (v2 : Option V) (F : List Int), σ = [some (.ref l), some (.ref D), v2] ∧ Evl.Ex H H' ∧ H' D = some (.lst (IV F)) ∧ Oct F ∧ F.length = 30 ∧ bitsL F = (bs.take i).foldl (fun B b => B.set b 0) (List.replicate 240 1)) ⟨_, _, rfl, E0, hD0, oct_rep (by omega), by rw [List.length_replicate]; rfl, b0⟩
      (fun i σ H' _ h => Sv.lst (h.choose_spec.choose_spec.2.1 _ _ hl)) ?_ ?_
    · rintro i x σ H2 H3 hi ⟨v2, F, rfl, e2, hF, oF, lF, bF⟩ ⟨rfl, hx⟩
      obtain ⟨z, hz, rfl⟩ := iv_get hx
      obtain ⟨b, hbi⟩ : ∃ b : Nat, bs[i]? = some b := ⟨bs[i], by rw [List.getElem?_eq_getElem hi]⟩
      rw [List.getElem?_map, hbi] at hz
      have ez : (b : Int) = z := Option.some.inj hz
      subst ez
      have b240 := hb b (List.mem_of_getElem? hbi)
      have notin : ¬ b ∈ bs.take i := by
        intro hm
        obtain ⟨j, hj, ej⟩ := List.mem_iff_getElem.mp hm
        have hj' : j < i ∧ j < bs.length := by
          rw [List.length_take] at hj
          have := hi
          omega
        have e1 : bs[j]'hj'.2 = b := by rw [← ej, List.getElem_take]
        have e2 : bs[i] = b := by
          rw [List.getElem?_eq_getElem hi] at hbi
          exact Option.some.inj hbi
        exact (List.pairwise_iff_getElem.mp nd) j i hj'.2 hi hj'.1 (by rw [e1, e2])
      have one : (bitsL F)[b]? = some 1 := by
        have g := off_getF b (bs.take i) (List.replicate 240 1) (by rw [List.length_replicate]; exact b240)
        rw [if_neg notin, rep_getD _ _ _ _ b240, ← bF] at g
        have lb : b < (bitsL F).length := by rw [bitsL_len]; omega
        rw [List.getD_eq_getElem?_getD, List.getElem?_eq_getElem lb] at g
        rw [List.getElem?_eq_getElem lb]
        exact congrArg some g
      obtain ⟨o, o256, ho, hob⟩ := at_bit oF (n := b) (by omega)
      rw [hob] at one
      obtain ⟨le, bo⟩ := bit_off o o256 (b % 8) (by omega) one
      have st := bitsL_set F (b / 8) (b % 8) _ _ _ (by omega) ho bo
      have e8 : 8 * (b / 8) + b % 8 = b := by omega
      rw [e8] at st
      refine ⟨_, rfl, _, rfl, _, _, rfl, rfl, n8, .inl ⟨D, _, _, _, rfl, rfl, SqL.of hF, iv_at ho, ?_⟩⟩
      refine ⟨by show 8 ≤ sizeLine; decide, fun p np => ⟨_, rfl, .inl ⟨_, rfl, _, _, rfl, rfl, nz, .inl ⟨p, _, _, _, rfl, rfl, SqL.of upd_same, iv_at (ws8_at (b % 8) (by omega)), ?_⟩⟩⟩⟩
      have xp := Evl.Ex.new (o := .lst (IV ws8)) np
      refine ⟨_, _, rfl, rfl, ?_⟩
      have ev : (o : Int) - ((128 / 2 ^ (b % 8) : Nat) : Int) = ((o - 128 / 2 ^ (b % 8) : Nat) : Int) := by omega
      refine ⟨_, rfl, _, rfl, _, _, rfl, rfl, n8, D, _, _, b / 8, rfl, rfl, xp _ _ hF, Evl.ixN_nat (by rw [iv_len, lF]; exact (show b / 8 < 30 by omega)), ?_⟩
      refine ⟨_, F.set (b / 8) ((o - 128 / 2 ^ (b % 8) : Nat) : Int), rfl, Evl.Ex.mut (e2.trans xp) hDn, ?_, oct_set oF ⟨Int.natCast_nonneg _, by have : o - 128 / 2 ^ (b % 8) ≤ o := Nat.sub_le _ _; omega⟩, by rw [List.length_set]; exact lF, ?_⟩
      · rw [upd_same]
        show some (HO.lst ((IV F).set (b / 8) (V.int ((o : Int) - ((128 / 2 ^ (b % 8) : Nat) : Int))))) = _
        rw [ev, ← List.map_set]
      · rw [st, bF, take_snoc hbi, List.foldl_append]
        rfl
    · rintro σ H2 ⟨v2, F, rfl, e2, hF, oF, lF, bF⟩
      rw [List.take_length] at bF
      have eF : F = Fw bs := by
        unfold Fw offB
        rw [← bF, octetsL_bitsL oF]
      subst eF
      exact ⟨_, rfl, q D H2 hDn e2 hF⟩
end
end K10
namespace K10
open PySem PySem.Spec PyProof.Rows L2 VB BM
abbrev stTwo (K : PySem.W.Frag) (CP : Addr) : TS := (tSeq (tIfS (tTest (tOp (fun x y H Q => y = V.non ∧ Q (V.bl !decide (x = V.non)) H) (tCall (spDone K CP) [] E0 (tCons (tVar 4) (tCons (tOp (rIx K) (tVar 6) (tC (V.int 0))) (tCons (tOp (rIx K) (tVar 6) (tC (V.int 1))) (tCons (tCall (spSealed K) [] E0 (tCons (tCall (spWo K) [] E0 (tCons (tLst (tCons (tVar 2) (tCons (tVar 3) tNil))) tNil)) tNil)) tNil))))) (tC V.non))) (tRet (tC (V.bl false))) tNext) (tSeq (tAsg (tMeth (Ch K) ("read") (spRead K) [] E0 (tVar 4) (tCons (tOp (rIx K) (tVar 6) (tC (V.int 0))) (tCons (tOp (rIx K) (tVar 6) (tC (V.int 1))) tNil))) (gName 7)) (tRet (tAndV (tOp (rEqU K) (tCB (rRepr K) (tCons (tVar 7) tNil)) (tCB (rRepr K) (tCons (tCB (rTupU K) (tCons (tOp (rAddU K) (tCall (spWo K) [] E0 (tCons (tLst (tCons (tVar 1) (tCons (tVar 2) tNil))) tNil)) (tLst (tCons (tC (V.int 2)) tNil))) tNil)) tNil))) (tCall (spTR K) [] E0 (tCons (tCall (spWo K) [] E0 (tCons (tLst (tCons (tVar 1) (tCons (tVar 2) tNil))) tNil)) (tCons (tVar 7) tNil)))))))
theorem six_lt : (6 : Int) < MM := by
  have e : MM = ((2 ^ 4096 : Nat) : Int) := (Int.natCast_pow 2 4096).symm
  have h : 2 ^ 3 ≤ 2 ^ 4096 := Nat.pow_le_pow_right (by decide) (by decide)
  rw [e]
  have h8 : (2 : Nat) ^ 3 = 8 := rfl
  rw [h8] at h
  have := Int.ofNat_le.mpr h
  exact Int.lt_of_lt_of_le (by decide : (6 : Int) < ((8 : Nat) : Int)) this
theorem val_one {k : Key} {v : V} : valV (putK [] k v) k = some v := by
  have e : putK [] k v = [(k, v)] := rfl
  rw [e]
  exact valV_pos rfl
theorem inn_app {xs ys us vs : List Int} (l : xs.length = ys.length) (h1 : Inn xs ys) (h2 : Inn us vs) : Inn (xs ++ us) (ys ++ vs) := by
  intro j hj
  rw [List.getD_eq_getElem?_getD, List.getD_eq_getElem?_getD]
  by_cases c : j < xs.length
  · rw [List.getElem?_append_left c, List.getElem?_append_left (by omega), ← List.getD_eq_getElem?_getD, ← List.getD_eq_getElem?_getD]
    exact h1 j c
  · rw [List.getElem?_append_right (by omega), List.getElem?_append_right (by omega), ← l, ← List.getD_eq_getElem?_getD, ← List.getD_eq_getElem?_getD]
    exact h2 _ (by rw [List.length_append] at hj; omega)
theorem ChipAt.rd {K : PySem.W.Frag} {H : Hp} {ch dx : Addr} {s : CS} {b p : Nat} (hc : ChipAt K H ch dx s) (hb : b < s.os.length) (hp : (p : Int) < s.c.pages) :
    ((b : Int) < s.c.blocks ∧ (p : Int) < s.c.pages) ∧ H s.c.o = some (.lst (s.rs.map V.ref)) ∧ b < s.rs.length ∧ SqT K H (s.rs.getD b 0) (IV (s.os.getD b [])) ∧ (s.os.getD b []).length = 31 * s.c.pages.toNat ∧ 8 ≤ s.c.pages ∧ s.c.pages ≤ 16 := by
  have nb := hc.nb
  exact ⟨⟨by omega, hp⟩, hc.o, by rw [hc.nr]; omega, SqT.of (hc.tup b hb), (hc.oct b hb).2, hc.g8.1, hc.g8.2⟩
section
variable {P : Program} {w : World} {K : PySem.W.Frag} {mg : Str → Option Value} {base : Heap} {f : Addr} {fd : FuncData}
def spTwo : Sp := fun vs H Q _ => ∃ (bx : Addr) (n : Int), vs = [.ref bx] ∧ Box H bx n ∧ n < 40000000 ∧ ∀ H' : Hp, Exb bx H H' → Q (.bl true) H'
theorem ok_two {CP : Addr} (T : Txt K mg) (TC : TxC K) (F : FnP K "_law_two_right" s__law_two_right f fd) (C__law_take : Cal P w K mg base CX0 1 "_law_take" ["_law_box_here", "_law_many"] spTake) (C__law_without : Cal P w K mg base CX0 1 "_law_without" ["_law_bits"] (spWo K))
    (N_Chip : Mak P w K mg base CX0 4 "Chip" (Ch K) ["self", "blocks", "pages", "bad"] (spInitC K)) (C__law_told_right : Cal P w K mg base CX0 9 "_law_told_right" ["_law_data_here", "_law_page_here"] (spTR K)) (M_Chip__read : CalM P w K mg base CX0 4 (Ch K) "read" ["self", "block", "page"] (spRead K))
    (M_Chip__write : CalM P w K mg base (CX P w) 8 (Ch K) "write" ["self", "block", "page", "octets"] (spWr K CP)) (M_Chip__cut : CalM P w K mg base CX0 4 (Ch K) "cut" ["self", "op", "mask"] (spCut K)) (C__law_done : Cal P w K mg base CX0 9 "_law_done" ["_law_chip", "_law_block", "_law_page_here", "_law_octets"] (spDone K CP)) (C_sealed : Cal P w K mg base CX0 8 "sealed" ["data"] (spSealed K)) :
    Fg P w K mg base CX0 10 f fd ["_law_box_here"] spTwo := by
  refine fg_of F sc__law_two_right (fun vs H Q E h => ?_) (fun cdv A outer s₀ H vs Q E hr h => ⟨_, (PSs.nox (pss_cons (ps_set (i := 1) sc__law_two_right.nd rfl (by first | exact Or.inl rfl | exact Or.inr rfl) (pe_cal C__law_take hr.le pass0 (pa_cons (pv 0) (pa_cons pe_int pa_nil))))
  (pss_cons (ps_set (i := 2) sc__law_two_right.nd rfl (by first | exact Or.inl rfl | exact Or.inr rfl) (pe_op u_mod (pe_callTy call_int1 (by rfl) T.f_int (by decide +kernel) (pa_cons (pe_op (u_add (K := K)) (pe_op (u_add (K := K)) (pv 1) pe_int) (pe_cal C__law_take hr.le pass0 (pa_cons (pv 0) (pa_cons pe_int pa_nil)))) pa_nil)) pe_int))
  (pss_cons (ps_set (i := 3) sc__law_two_right.nd rfl (by first | exact Or.inl rfl | exact Or.inr rfl) (pe_ix (u_ix (K := K)) (pe_lc (own := [("_law_bit", 8)]) rfl sc__law_two_right.nd (pi_range1 rfl T.f_range (pa_cons pe_int pa_nil)) (blkOk_by (own := [("_law_bit", 8)]) (N := ["_law_box_here", "_law_one", "_law_two", "_law_three", "_law_chip", "_law_left", "_law_spot", "_law_page_here", "_law_bit"]) (sc := defScope s__law_two_right) (by decide +kernel)) (fun _ _ _ _ _ => (pg_name (i := 8) sc__law_two_right.nd rfl (by first | exact Or.inl rfl | exact Or.inr rfl))) (fun _ _ _ _ _ => (pts_one (pt_cmpR (u_notin (K := K)) (pv 8) (pe_lst (pa_cons (pv 1) (pa_cons (pv 2) pa_nil))) (by rfl)))) (fun _ _ _ _ _ => (pv 8))) (pe_cal C__law_take hr.le pass0 (pa_cons (pv 0) (pa_cons pe_int pa_nil))) (fun _ _ => rfl)))
  (pss_cons (ps_par3 (i := 4) (j := 5) (l := 6) rfl sc__law_two_right.nd rfl rfl rfl (by decide) (by decide) (by decide) rfl rfl rfl (pa_cons (pe_mak N_Chip hr.le pass0 (pa_cons pe_int (pa_cons pe_int (pa_cons pe_int pa_nil)))) (pa_cons (pe_op (u_add (K := K)) (pe_cal C__law_without hr.le pass0 (pa_cons (pe_lst (pa_cons (pv 1) pa_nil)) pa_nil)) (pe_lst (pa_cons pe_int pa_nil))) (pa_cons (pe_lst (pa_cons (pe_cal C__law_take hr.le pass0 (pa_cons (pv 0) (pa_cons pe_int pa_nil))) (pa_cons (pe_cal C__law_take hr.le pass0 (pa_cons (pv 0) (pa_cons pe_int pa_nil))) pa_nil))) pa_nil))) (by rfl))
  (pss_cons (ps_if (PW.pt (pw_or (pt_not (pt_tru (K := K) (pe_calM M_Chip__write hr.le (passes_call takes_no (fun _ _ _ _ h => h)) (pv 4) (pa_cons (pe_ix (u_ix (K := K)) (pv 6) pe_int (fun _ _ => rfl)) (pa_cons (pe_ix (u_ix (K := K)) (pv 6) pe_int (fun _ _ => rfl)) (pa_cons (pv 5) pa_nil)))) (by intro _; rfl))) (pw_or1 (pt_not (pt_tru (K := K) (pe_cal C__law_told_right hr.le pass0 (pa_cons (pe_cal C__law_without hr.le pass0 (pa_cons (pe_lst (pa_cons (pv 1) pa_nil)) pa_nil)) (pa_cons (pe_calM M_Chip__read hr.le pass0 (pv 4) (pa_cons (pe_ix (u_ix (K := K)) (pv 6) pe_int (fun _ _ => rfl)) (pa_cons (pe_ix (u_ix (K := K)) (pv 6) pe_int (fun _ _ => rfl)) pa_nil))) pa_nil))) (by intro _; rfl))))))
  (pss_one (ps_ret pe_bl)) pss_nil)
  (pss_cons (ps_expr (pe_calM M_Chip__cut hr.le pass0 (pv 4) (pa_cons pe_int (pa_cons (pe_op (u_add (K := K)) pe_int (pe_ifExp (pt_cmpR op_lt (pv 2) (pv 3) (nomark _)) pe_int pe_int)) pa_nil))))
  (pss_cons (ps_if (pt_cmpR op_notN (pe_cal C__law_done hr.le pass0 (pa_cons (pv 4) (pa_cons (pe_ix (u_ix (K := K)) (pv 6) pe_int (fun _ _ => rfl)) (pa_cons (pe_ix (u_ix (K := K)) (pv 6) pe_int (fun _ _ => rfl)) (pa_cons (pe_cal C_sealed hr.le pass0 (pa_cons (pe_cal C__law_without hr.le pass0 (pa_cons (pe_lst (pa_cons (pv 2) (pa_cons (pv 3) pa_nil))) pa_nil)) pa_nil)) pa_nil))))) pe_non (nomark _))
  (pss_one (ps_ret pe_bl)) pss_nil)
  (pss_cons (ps_set (i := 7) sc__law_two_right.nd rfl (by first | exact Or.inl rfl | exact Or.inr rfl) (pe_calM M_Chip__read hr.le pass0 (pv 4) (pa_cons (pe_ix (u_ix (K := K)) (pv 6) pe_int (fun _ _ => rfl)) (pa_cons (pe_ix (u_ix (K := K)) (pv 6) pe_int (fun _ _ => rfl)) pa_nil))))
  (pss_one (ps_ret (pe_and (pe_cmpR (u_eq (K := K) hr) (pe_callB (u_repr (K := K) hr) (by rfl) T.f_repr (by decide +kernel) (pa_cons (pv 7) pa_nil)) (pe_callB (u_repr (K := K) hr) (by rfl) T.f_repr (by decide +kernel) (pa_cons (pe_callTy (u_tup (K := K)) (by rfl) T.f_tuple (by decide +kernel) (pa_cons (pe_op (u_add (K := K)) (pe_cal C__law_without hr.le pass0 (pa_cons (pe_lst (pa_cons (pv 1) (pa_cons (pv 2) pa_nil))) pa_nil)) (pe_lst (pa_cons pe_int pa_nil))) pa_nil)) pa_nil)) (nomark _)) (pe_one (pe_cal C__law_told_right hr.le pass0 (pa_cons (pe_cal C__law_without hr.le pass0 (pa_cons (pe_lst (pa_cons (pv 1) (pa_cons (pv 2) pa_nil))) pa_nil)) (pa_cons (pv 7) pa_nil)))))))))))))))), ?_⟩)
  · obtain ⟨bx, n, rfl, _⟩ := h
    rfl
  · obtain ⟨bx, n, rfl, B, hn, q⟩ := h
    have nz : (0 : Int) < 240 := by decide
    refine ⟨_, rfl, bx, 240, n, rfl, B, by omega, by omega, by omega, fun one H1 o0 o1 e1 B1 => ?_⟩
    refine ⟨_, rfl, .inl ⟨_, _, rfl, rfl, _, rfl, bx, 239, _, rfl, B1, by omega, by omega, by omega, fun t H2 t0 t1 e2 B2 => .inl ⟨_, _, rfl, rfl, .inl ⟨_, rfl, _, _, rfl, rfl, nz, ?_⟩⟩⟩⟩
    obtain ⟨a, rfl⟩ : ∃ k : Nat, one = k := ⟨one.toNat, by omega⟩
    obtain ⟨two, htw⟩ : ∃ k : Nat, ((a : Int) + 1 + t) % 240 = (k : Int) := ⟨(((a : Int) + 1 + t) % 240).toNat, by omega⟩
    have tw1 : two < 240 := by omega
    have tw2 : a ≠ two := by omega
    have ha : a < 240 := by omega
    have E2 := e1.trans e2
    dsimp only
    rw [htw]
    refine ⟨240, rfl, by omega, by omega, fun D hD => ?_⟩
    have nD := B2.at hD
    refine lc_range (lo := 0) (n := 240) (fun i H' => i ≤ 240 ∧ Evl.Ex H2 H' ∧ ∃ acc : List Int, H' D = some (.lst (IV acc)) ∧ acc.length + (if a < i then 1 else 0) + (if two < i then 1 else 0) = i ∧ ∀ x ∈ acc, ∃ b : Nat, x = (b : Int) ∧ b < 240 ∧ b ≠ a ∧ b ≠ two) ⟨by omega, Evl.Ex.new hD, [], upd_same, by simp, fun x hx => by cases hx⟩ ?_ ?_
    · rintro i H3 hi ⟨_, e3, acc, hacc, lacc, all⟩
      have e0 : (0 : Int) + (i : Int) = (i : Int) := Int.zero_add _
      rw [e0]
      refine ⟨rfl, ?_⟩
      refine ⟨_, rfl, _, rfl, _, rfl, by show 2 ≤ sizeLine; decide, fun p np => ⟨p, [.int (a : Int), .int (two : Int)], rfl, .inl (SqL.of upd_same), rfl, rfl, _, rfl, ?_⟩⟩
      have xp := Evl.Ex.new (o := .lst [V.int (a : Int), .int (two : Int)]) np
      have hacc' := xp _ _ hacc
      have ei : inV (.int (i : Int)) [.int (a : Int), .int (two : Int)] = (decide ((a : Int) = (i : Int)) || (decide ((two : Int) = (i : Int)) || false)) := rfl
      show if (!inV (.int (i : Int)) [.int (a : Int), .int (two : Int)]) = true then _ else _
      rw [ei]
      by_cases c1 : (a : Int) = (i : Int)
      · rw [decide_eq_true c1]
        refine iteF ⟨by omega, e3.trans xp, acc, hacc', ?_, all⟩
        rw [if_neg (by omega : ¬ a < i)] at lacc
        rw [if_pos (by omega : a < i + 1)]
        have t2 : (if two < i + 1 then 1 else 0) = (if two < i then 1 else 0) := by congr 1; exact propext ⟨fun z => by omega, fun z => by omega⟩
        rw [t2]
        omega
      · rw [decide_eq_false c1]
        have t1 : (if a < i + 1 then 1 else 0) = (if a < i then 1 else 0) := by congr 1; exact propext ⟨fun z => by omega, fun z => by omega⟩
        by_cases c2 : (two : Int) = (i : Int)
        · rw [decide_eq_true c2]
          refine iteF ⟨by omega, e3.trans xp, acc, hacc', ?_, all⟩
          rw [if_neg (by omega : ¬ two < i)] at lacc
          rw [if_pos (by omega : two < i + 1), t1]
          omega
        · rw [decide_eq_false c2]
          have t2 : (if two < i + 1 then 1 else 0) = (if two < i then 1 else 0) := by congr 1; exact propext ⟨fun z => by omega, fun z => by omega⟩
          refine iteT ⟨_, rfl, _, hacc', by rw [iv_len]; exact Evl.sz_lt (by omega), by omega, Evl.Ex.mut (e3.trans xp) hD, acc ++ [(i : Int)], by rw [upd_same, iv_snoc], ?_, fun x hx => ?_⟩
          · rw [t1, t2, List.length_append]
            show acc.length + 1 + _ + _ = _
            omega
          · rcases List.mem_append.mp hx with z | z
            · exact all x z
            · have ex : x = (i : Int) := by simpa using z
              exact ⟨i, ex, by omega, fun y => c1 (by omega), fun y => c2 (by omega)⟩
    rintro H3 ⟨_, e3, acc, hacc, lacc, all⟩
    rw [if_pos ha, if_pos tw1] at lacc
    have B3 := B2.ex e3
    refine ⟨_, rfl, bx, 238, _, rfl, B3, by omega, by omega, by omega, fun r H4 r0 r1 e4 B4 => ?_⟩
    have E4 := (E2.trans (Exb.of e3)).trans e4
    obtain ⟨rn, rfl⟩ : ∃ k : Nat, r = k := ⟨r.toNat, by omega⟩
    obtain ⟨x, hx⟩ := get_lt (l := acc) (i := rn) (by omega)
    obtain ⟨three, rfl, th1, th2, th3⟩ := all x (List.mem_of_getElem? hx)
    refine .inl ⟨D, _, _, _, rfl, rfl, SqL.of (e4 _ _ nD hacc), iv_at hx, ?_⟩
    refine fun ch dx hch hdx ndx => ⟨ch, dx, 8, 8, 0, rfl, upd_same, by omega, by omega, by omega, by omega, by omega, fun c rs H5 c1 c2 c3 c4 c5 ke h1 lr ar ho he ht hp hq hrr n1 n2 n3 n4 n5 n6 fo fe ft fp fq frr => ⟨rfl, ?_⟩⟩
    have hC := newChip (K := K) c1 c2 h1 lr ar ho he ht hp hq hrr n1 n2 n3 n4 n5 n6
    have E5 : Evl.Ex H4 H5 := by
      intro y u hy
      have y1 : y ≠ ch := fun z => by rw [z, hch] at hy; cases hy
      have y2 : y ≠ dx := fun z => by rw [z, hdx] at hy; cases hy
      exact ke y u y1 (by rw [upd_ne y1, upd_ne y2]; exact hy)
    have out : ∀ {y : Addr} {u : HO}, H4 y = some u → ¬ Own ch c y := by
      intro y u hy o
      have y1 : y ≠ ch := fun z => by rw [z, hch] at hy; cases hy
      have y2 : y ≠ dx := fun z => by rw [z, hdx] at hy; cases hy
      have g : upd (upd H4 dx (.own ch)) ch (.ins (Ch K) dx []) y = some u := by rw [upd_ne y1, upd_ne y2]; exact hy
      rcases o with rfl | rfl | rfl | rfl | rfl | rfl | rfl
      · exact y1 rfl
      · rw [fo] at g; cases g
      · rw [fe] at g; cases g
      · rw [ft] at g; cases g
      · rw [fp] at g; cases g
      · rw [fq] at g; cases g
      · rw [frr] at g; cases g
    have obx : ¬ Own ch c bx := by
      obtain ⟨_, _, _, _, hb, _⟩ := B4
      exact out hb
    have K5 : ∀ (y : Addr) (u : HO), y ≠ bx → H y = some u → ¬ Own ch c y ∧ H5 y = some u := fun y u ny hy => ⟨out (E4 y u ny hy), E5 _ _ (E4 y u ny hy)⟩
    have B5 := B4.ex E5
    clear ke h1 ar ho he ht hp hq hrr fo fe ft fp fq frr hch hdx out
    obtain ⟨w1, w2, w3⟩ := Fw_spec [a]
    have nd1 : ([a] : List Nat).Nodup := by simp
    refine ⟨_, rfl, by show 1 ≤ sizeLine; decide, fun l1 nl1 => ⟨l1, [a], rfl, upd_same, by simpa using ha, nd1, by simp, fun p1 H6 np1 e6 hp1 => ⟨by show 1 ≤ sizeLine; decide, fun l3 n3 => cat_l (ys := [3]) (Evl.Ex.new n3 _ _ hp1) upd_same (by rw [w3]; decide) fun lf nlf => ?_⟩⟩⟩
    have x6 := (Evl.Ex.new (o := .lst [V.int (a : Int)]) nl1).trans e6
    have x7 := (Evl.Ex.new (o := .lst [V.int 3]) n3).trans (Evl.Ex.new (o := .lst (IV (Fw [a] ++ [3]))) nlf)
    have X7 := x6.trans x7
    have hlf := upd_same (H := upd H6 l3 (.lst [V.int 3])) (a := lf) (o := .lst (IV (Fw [a] ++ [3])))
    have B7 := B5.ex X7
    have hC7 := hC.ex X7
    have nlb : lf ≠ bx := (B5.ex (x6.trans (Evl.Ex.new (o := .lst [V.int 3]) n3))).at nlf
    generalize upd (upd H6 l3 (.lst [V.int 3])) lf (.lst (IV (Fw [a] ++ [3]))) = H7 at hlf X7 B7 hC7 ⊢
    refine ⟨_, rfl, bx, 8, _, rfl, B7, by omega, by omega, by omega, fun s0 H8 s00 s01 e8 B8 => ⟨_, rfl, bx, 8, _, rfl, B8, by omega, by omega, by omega, fun s1 H9 s10 s11 e9 B9 => ⟨by show 2 ≤ sizeLine; decide, fun sp nsp => ⟨_, _, _, rfl, ?_⟩⟩⟩⟩
    have rsne : ∀ {H' : Hp} {m : Int}, ChipAt K H' ch dx (newS c rs) → Box H' bx m → ∀ i, i < (newS c rs).os.length → (newS c rs).rs.getD i 0 ≠ bx := fun hC' B' i hi => Box.nt B' (hC'.tup i hi)
    have hC8 := hC7.exb obx (rsne hC7 B7) e8
    have hC9 := hC8.exb obx (rsne hC8 B8) e9
    have xs := Evl.Ex.new (o := .lst [V.int s0, .int s1]) nsp
    have hsp := upd_same (H := H9) (a := sp) (o := .lst [V.int s0, .int s1])
    have hC10 := hC9.ex xs
    have osp : ¬ Own ch c sp := fun o => by
      obtain ⟨u, hu⟩ := hC9.own o
      rw [nsp] at hu
      cases hu
    have hlf10 := xs _ _ (e9 _ _ nlb (e8 _ _ nlb hlf))
    have K10' : ∀ (y : Addr) (u : HO), y ≠ bx → H y = some u → ¬ Own ch c y ∧ upd H9 sp (.lst [V.int s0, .int s1]) y = some u := fun y u ny hy => ⟨(K5 y u ny hy).1, xs _ _ (e9 _ _ ny (e8 _ _ ny (X7 _ _ (K5 y u ny hy).2)))⟩
    have nspb : sp ≠ bx := B9.at nsp
    generalize upd H9 sp (.lst [V.int s0, .int s1]) = H10 at hsp hC10 hlf10 K10' ⊢
    clear B9 B8 B7 B5 B4 B3 e8 e9 hC9 hC8 hC7 hC K5 E5 hlf
    obtain ⟨b, rfl⟩ : ∃ k : Nat, s0 = k := ⟨s0.toNat, by omega⟩
    obtain ⟨p, rfl⟩ : ∃ k : Nat, s1 = k := ⟨s1.toNat, by omega⟩
    have hb8 : b < (newS c rs).os.length := by
      show b < (List.replicate 8 (List.replicate 248 (255 : Int))).length
      rw [List.length_replicate]
      omega
    have hp8 : p < 8 := by omega
    have hcp : (p : Int) < (newS c rs).c.pages := by show (p : Int) < c.pages; omega
    have o3 : Oct [3] := octs (by decide)
    have oL := oct_app w2 o3
    have lL : (Fw [a] ++ [3]).length = 31 := by rw [List.length_append, w3]; rfl
    have clean : (newS c rs).os.getD b [] = List.replicate 248 255 := rep_getD _ _ _ _ (by omega)
    have oK : Oct (List.replicate 248 (255 : Int)) := oct_rep (by omega)
    have lK : (List.replicate 248 (255 : Int)).length = 248 := List.length_replicate
    have pgW : pg (wrote (List.replicate 248 255) (Fw [a] ++ [3]) p) p = Fw [a] ++ [3] := wrote_rest oK oL lK lL hp8 (by rw [pg_rep hp8]; exact inn_255 oL lL)
    refine ⟨_, rfl, ch, dx, _, rfl, hC10.ins, rfl, _, rfl, Sv.ix (x := .non) (Sv.lst hsp) (i := 0) rfl ⟨_, rfl, Sv.ix (x := .non) (Sv.lst hsp) (i := 1) rfl ⟨_, rfl, ch, dx, newS c rs, b, p, lf, Fw [a] ++ [3], false, rfl, hC10, hb8, hcp, Sv.lst hlf10, oL, lL, plan_nil, plan_nil, ⟨fun m s' d H' hv => (by cases hv), fun s' v H11 _ f hc hs => ?_⟩⟩⟩⟩
    obtain ⟨nw, ⟨hbad, _⟩ | ⟨_, m, r, hv, _⟩ | ⟨_, _, rfl, rfl⟩⟩ := hs
    · rw [show (newS c rs).tb.getD b false = false from rep_getD _ _ _ _ (by omega)] at hbad
      cases hbad
    · cases hv
    have facts : ∃ s1 : CS, ChipAt K H11 ch dx s1 ∧ s1.os.getD b [] = wrote (List.replicate 248 255) (Fw [a] ++ [3]) p ∧ s1.os.length = 8 ∧ s1.c.ops = 1 ∧ s1.c.pages = 8 ∧ s1.kp = [] ∧ s1.kq = [] ∧ s1.tb = List.replicate 8 false ∧ (∀ y, ¬ Own ch c y → ¬ Own ch s1.c y) := by
      refine ⟨_, hc, ?_, ?_, ?_, ?_, rfl, rfl, rfl, fun y hy => Own.same rfl rfl rfl rfl rfl rfl hy⟩
      · rw [clean]
        show ((newS c rs).os.set b _).getD b [] = _
        rw [getD_set _ _ _ _ _ hb8, if_pos rfl]
      · show ((newS c rs).os.set b _).length = 8
        rw [List.length_set]
        exact List.length_replicate
      · show c.ops + 1 = 1
        omega
      · show c.pages = 8
        omega
    clear hc
    obtain ⟨s1, hc, gX, gl, g1, gp, gk, gq, gt, gO⟩ := facts
    have f : Fr ch c H10 H11 := f
    have hsp11 := f.out osp hsp
    have K11 : ∀ (y : Addr) (u : HO), y ≠ bx → H y = some u → ¬ Own ch c y ∧ H11 y = some u := fun y u ny hy => ⟨(K10' y u ny hy).1, f.out (K10' y u ny hy).1 (K10' y u ny hy).2⟩
    have hb1 : b < s1.os.length := by omega
    have hp1 : (p : Int) < s1.c.pages := by omega
    clear hlf10 hsp hC10 K10' f
    have lW := wrote_len lK lL hp8
    have oW : Oct (wrote (List.replicate 248 255) (Fw [a] ++ [3]) p) := by rw [← gX]; exact (hc.oct b hb1).1
    refine ⟨true, rfl, ?_⟩
    refine iteF ⟨_, rfl, by show 1 ≤ sizeLine; decide, fun l2 nl2 => ⟨l2, [a], rfl, upd_same, by simpa using ha, nd1, by simp, fun p2 H12 np2 e12 hp2 => ?_⟩⟩
    have E12 := (Evl.Ex.new (o := .lst [V.int (a : Int)]) nl2).trans e12
    have hc12 := hc.ex E12
    have R := hc12.rd hb1 hp1
    have hsp12 := E12 _ _ hsp11
    refine ⟨_, rfl, ch, dx, _, rfl, hc12.ins, rfl, _, rfl, Sv.ix (x := .non) (Sv.lst hsp12) (i := 0) rfl ⟨_, rfl, Sv.ix (x := .non) (Sv.lst hsp12) (i := 1) rfl ⟨ch, s1.c, b, p, s1.rs, s1.os.getD b [], rfl, ⟨dx, hc12.ins⟩, R.1.1, R.1.2, R.2.1, R.2.2.1, R.2.2.2.1, R.2.2.2.2.1, R.2.2.2.2.2.1, R.2.2.2.2.2.2, fun t H13 nt e13 ht => ?_⟩⟩⟩
    have ht : H13 t = some (.tup (IV (pg (s1.os.getD b []) p))) := ht
    rw [gX, pgW] at ht
    have rs1 : rest (Fw [a]) (Fw [a] ++ [3]) = true := by
      refine (rest_inn w3).mpr (inn_app rfl (inn_self w2) ?_)
      rw [zc_one ha]
      intro j hj
      have ej : j = 0 := by
        have : ([1] : List Int).length = 1 := rfl
        omega
      subst ej
      decide
    refine ⟨p2, t, Fw [a], Fw [a] ++ [3], true, rfl, e13 _ _ hp2, Sv.tup ht, w2, oL, w3, lL, rs1, fun H14 e14 => ⟨true, rfl, iteF ?_⟩⟩
    have E14 := (E12.trans e13).trans e14
    have hc14 := hc.ex E14
    have hsp14 := E14 _ _ hsp11
    have K14 : ∀ (y : Addr) (u : HO), y ≠ bx → H y = some u → ¬ Own ch s1.c y ∧ H14 y = some u := fun y u ny hy => ⟨gO y (K11 y u ny hy).1, E14 _ _ (K11 y u ny hy).2⟩
    have osp1 := gO sp osp
    clear hc12 hsp12 R hc hsp11 K11 gO osp
    have tail : ∀ (m : Int) (H15 : Hp) (s2 : CS), m = 4 + (if two < three then 1 else 2) → ChipAt K H15 ch dx s2 → s2.c = s1.c → s2.os = s1.os → s2.tb = s1.tb → s2.kp = putK [] (Sum.inl 1 : Key) (V.int m) → s2.kq = [] → H15 sp = some (.lst [V.int (b : Int), .int (p : Int)]) → (∀ (y : Addr) (u : HO), y ≠ bx → H y = some u → ¬ Own ch s1.c y ∧ H15 y = some u) →
        stTwo K CP { nx := fun x H' => Q V.non H', rt := Q } [some (.ref bx), some (.int (a : Int)), some (.int (two : Int)), some (.int (three : Int)), some (.ref ch), some (.ref lf), some (.ref sp), none, none] H15 := by
      intro m H15 s2 hm hc2 d1 d2 d3 d4 d5 hsp2 K2
      have nd23 : ([two, three] : List Nat).Nodup := by
        simp
        omega
      obtain ⟨v1, v2, v3⟩ := Fw_spec [two, three]
      have z23 : zc (bitsL (Fw [two, three])) = 2 := zc_two tw1 th1 (by omega)
      have ow := oct_whole v2 v3
      refine ⟨_, rfl, _, rfl, Sv.ix (x := .non) (Sv.lst hsp2) (i := 0) rfl ⟨_, rfl, Sv.ix (x := .non) (Sv.lst hsp2) (i := 1) rfl ⟨_, rfl, _, rfl, by show 2 ≤ sizeLine; decide, fun l nl => ⟨l, [two, three], rfl, upd_same, fun x hx => ?_, nd23, by simp, fun p3 H16 np3 e16 hp3 => ⟨p3, Fw [two, three], false, rfl, Sv.lst hp3, v2, v3, fun sg H17 e17 S17 => ?_⟩⟩⟩⟩⟩
      · simp only [List.mem_cons, List.not_mem_nil, or_false] at hx
        omega
      have E17 := ((Evl.Ex.new (o := .lst [V.int (two : Int), .int (three : Int)]) nl).trans e16).trans e17
      have hc17 := hc2.ex E17
      have hb2 : b < s2.os.length := by rw [d2]; exact hb1
      have hp2 : (p : Int) < s2.c.pages := by rw [d1]; exact hp1
      have vk : valV s2.kp (Sum.inl s2.c.ops : Key) = some (.int m) := by
        rw [d4, d1, g1]
        exact val_one
      have mb : 0 ≤ m ∧ m < MM := by
        have := six_lt
        have hm6 : 0 ≤ m ∧ m ≤ 6 := by
          rw [hm]
          split <;> omega
        omega
      refine ⟨ch, dx, s2, b, hc17, hb2, by rw [d4]; exact plan_one mb.1 mb.2, by rw [d5]; exact plan_nil, .inr ⟨p, sg, _, true, rfl, hp2, S17, ow.1, ow.2, ⟨fun m' s' d H18 hv f _ _ hc3 hs => ?_, fun s' v H18 hv => ?_⟩⟩⟩
      rotate_left
      · rw [vk] at hv
        cases hv
      rw [vk] at hv
      have em : m = m' := V.int.inj (Option.some.inj hv)
      subst em
      have facts : ∃ s3 : CS, ChipAt K H18 ch dx s3 ∧ pg (s3.os.getD b []) p = Fw [a, two] ++ [2] ∧ s3.os.length = 8 ∧ s3.c.pages = 8 := by
        obtain ⟨r, rfl⟩ := hs
        rw [show s2.tb.getD b false = false from by rw [d3, gt]; exact rep_getD _ _ _ _ (by omega)] at hc3
        refine ⟨_, hc3, ?_, ?_, ?_⟩
        · show pg ((s2.os.set b (mix s2 b _ m)).getD b []) p = _
          rw [getD_set _ _ _ _ _ hb2, if_pos rfl]
          show pg (mixL (s2.os.getD b []) (wrote (s2.os.getD b []) (Fw [two, three] ++ [zc (bitsL (Fw [two, three]))]) p) m) p = _
          rw [d2, gX, mix_page m oW lW ow.1 ow.2 hp8, pgW, z23]
          exact mix_two ha tw1 th1 tw2 (by omega) (by omega) hm
        · show (s2.os.set b _).length = 8
          rw [List.length_set, d2]
          exact gl
        · show s2.c.pages = 8
          rw [d1]
          exact gp
      clear hc3 hs
      obtain ⟨s3, hc3, gP, gl3, gp3⟩ := facts
      have f : Fr ch s1.c H17 H18 := by rw [← d1]; exact f
      have K3 : ∀ (y : Addr) (u : HO), y ≠ bx → H y = some u → H18 y = some u := fun y u ny hy => f.out (K2 y u ny hy).1 (E17 _ _ (K2 y u ny hy).2)
      have hsp3 := f.out osp1 (E17 _ _ hsp2)
      have R := hc3.rd (b := b) (p := p) (by omega) (by omega)
      refine ⟨rfl, _, rfl, ?_⟩
      rw [decide_eq_true (show V.non = V.non from rfl)]
      refine iteF ⟨_, rfl, ch, dx, _, rfl, hc3.ins, rfl, _, rfl, Sv.ix (x := .non) (Sv.lst hsp3) (i := 0) rfl ⟨_, rfl, Sv.ix (x := .non) (Sv.lst hsp3) (i := 1) rfl ⟨ch, s3.c, b, p, s3.rs, s3.os.getD b [], rfl, ⟨dx, hc3.ins⟩, R.1.1, R.1.2, R.2.1, R.2.2.1, R.2.2.2.1, R.2.2.2.2.1, R.2.2.2.2.2.1, R.2.2.2.2.2.2, fun t2 H19 nt2 e19 ht2 => ?_⟩⟩⟩
      have ht2 : H19 t2 = some (.tup (IV (pg (s3.os.getD b []) p))) := ht2
      rw [gP] at ht2
      obtain ⟨u1, u2, u3⟩ := Fw_spec [a, two]
      have o2 : Oct [2] := octs (by decide)
      have oY := oct_app u2 o2
      have lY : (Fw [a, two] ++ [2]).length = 31 := by rw [List.length_append, u3]; rfl
      have nd12 : ([a, two] : List Nat).Nodup := by
        simp
        omega
      have in12 : ∀ x ∈ ([a, two] : List Nat), x < 240 := by
        intro x hx
        simp only [List.mem_cons, List.not_mem_nil, or_false] at hx
        omega
      have rs2 : rest (Fw [a, two]) (Fw [a, two] ++ [2]) = true := by
        refine (rest_inn u3).mpr ?_
        rw [zc_two ha tw1 tw2]
        exact inn_self oY
      refine ⟨_, rfl, rp_t (SqT.of ht2) (sm_oct oY) (by omega) ?_⟩
      refine ⟨_, rfl, _, rfl, by show 2 ≤ sizeLine; decide, fun l6 n6 => ⟨l6, [a, two], rfl, upd_same, in12, nd12, by simp, fun p6 H20 np6 e20 hp6 => ⟨by show 1 ≤ sizeLine; decide, fun l7 n7 => cat_l (ys := [2]) (Evl.Ex.new n7 _ _ hp6) upd_same (by rw [u3]; decide) fun l8 n8 => ?_⟩⟩⟩
      have x20 := (Evl.Ex.new (o := .lst [V.int (a : Int), .int (two : Int)]) n6).trans e20
      have x21 := (Evl.Ex.new (o := .lst [V.int 2]) n7).trans (Evl.Ex.new (o := .lst (IV (Fw [a, two] ++ [2]))) n8)
      refine ⟨l8, IV (Fw [a, two] ++ [2]), rfl, .inl ⟨SqL.of upd_same, fun l9 n9 => ?_⟩⟩
      have x22 := Evl.Ex.new (o := .tup (IV (Fw [a, two] ++ [2]))) n9
      have X22 := x20.trans (x21.trans x22)
      refine rp_t (SqT.of upd_same) (sm_oct oY) (by omega) (.inl ⟨rfl, _, rfl, same_eq ?_⟩)
      refine ⟨_, rfl, _, rfl, by show 2 ≤ sizeLine; decide, fun l10 n10 => ⟨l10, [a, two], rfl, upd_same, in12, nd12, by simp, fun p10 H23 np10 e23 hp10 => ?_⟩⟩
      have X23 := X22.trans ((Evl.Ex.new (o := .lst [V.int (a : Int), .int (two : Int)]) n10).trans e23)
      refine ⟨_, rfl, p10, t2, Fw [a, two], Fw [a, two] ++ [2], true, rfl, hp10, Sv.tup (X23 _ _ ht2), u2, oY, u3, lY, rs2, fun H24 e24 => ?_⟩
      exact q H24 fun y u ny hy => e24 _ _ (X23 _ _ (e19 _ _ (K3 y u ny hy)))
    have fin : ∀ m : Int, (m = 4 + if two < three then 1 else 2) → stTwo K CP { nx := fun x H' => Q V.non H', rt := Q } [some (.ref bx), some (.int (a : Int)), some (.int (two : Int)), some (.int (three : Int)), some (.ref ch), some (.ref lf), some (.ref sp), none, none] (upd H14 s1.c.p (.dK (putK [] (Sum.inl 1 : Key) (V.int m)))) := by
      intro m hm
      have op : Own ch s1.c s1.c.p := .inr (.inr (.inr (.inr (.inl rfl))))
      refine tail m _ { s1 with kp := putK [] (Sum.inl 1 : Key) (V.int m) } hm (hc14.setp _) rfl rfl rfl rfl gq ?_ fun y u ny hy => ⟨(K14 y u ny hy).1, ?_⟩
      · have ne : sp ≠ s1.c.p := fun z => osp1 (by rw [z]; exact op)
        rw [upd_ne ne]
        exact hsp14
      · have ne : y ≠ s1.c.p := fun z => (K14 y u ny hy).1 (by rw [z]; exact op)
        rw [upd_ne ne]
        exact (K14 y u ny hy).2
    have s6 := six_lt
    refine ⟨_, rfl, ch, dx, _, rfl, hc14.ins, rfl, _, rfl, _, rfl, _, _, rfl, rfl, _, rfl, if_dec (fun d => ?_) (fun d => ?_)⟩
    · refine .inl ⟨_, _, rfl, rfl, ch, s1.c, 1, 4 + 1, s1.kp, rfl, ⟨dx, hc14.ins⟩, by omega, by omega, by omega, hc14.p, by rw [gk]; decide, ?_⟩
      rw [gk]
      exact fin _ (by rw [if_pos (by omega)])
    · refine .inl ⟨_, _, rfl, rfl, ch, s1.c, 1, 4 + 2, s1.kp, rfl, ⟨dx, hc14.ins⟩, by omega, by omega, by omega, hc14.p, by rw [gk]; decide, ?_⟩
      rw [gk]
      exact fin _ (by rw [if_neg (by omega)])
end
end K10
namespace K10
open PySem PySem.Spec PyProof.Rows L2 VB BM
theorem ex_b {a : Addr} {H0 H H' : Hp} (e : Evl.Ex H0 H) (h : H0 a = none) (x : Exb a H H') : Evl.Ex H0 H' := fun b o q => x b o (fun z => by rw [z, h] at q; cases q) (e b o q)
section
variable {P : Program} {w : World} {K : PySem.W.Frag} {mg : Str → Option Value} {base : Heap} {f : Addr} {fd : FuncData}
def spLaw (K : PySem.W.Frag) : Sp := fun vs H Q _ => ∃ (a : Addr) (ns : List Int), vs = [.ref a] ∧ SqL K H a (ns.map V.int) ∧ ns.length ≤ 1000 ∧ ∀ H' : Hp, Q (.bl true) H'
theorem ok_law (T : Txt K mg) (F : FnP K "law" s_law f fd) (C__law_plain_right : Cal P w K mg base CX0 10 "_law_plain_right" ["_law_box_here"] spPlain) (C__law_two_right : Cal P w K mg base CX0 10 "_law_two_right" ["_law_box_here"] spTwo)
    (C__law_chip_right : Cal P w K mg base CX0 11 "_law_chip_right" ["_law_box_here"] spChipR) (C__law_box : Cal P w K mg base CX0 1 "_law_box" ["_law_great"] spBox) (C__law_cell : Cal P w K mg base CX0 1 "_law_cell" ["_law_script", "_law_k"] (spCell K)) :
    Fg P w K mg base CX0 12 f fd ["_law_script"] (spLaw K) := by
  refine fg_of F sc_law (fun vs H Q E h => ?_) (fun cdv A outer s H vs Q E hr h => ⟨_, (PSs.nox (pss_cons (ps_if (PW.pt (pw_or (pt_not (pt_tru (K := K) (pe_cal C__law_plain_right hr.le pass0 (pa_cons (pe_cal C__law_box hr.le pass0 (pa_cons (pe_cal C__law_cell hr.le pass0 (pa_cons (pv 0) (pa_cons pe_int pa_nil))) pa_nil)) pa_nil)) (by intro _; rfl))) (pw_or1 (pt_not (pt_tru (K := K) (pe_cal C__law_two_right hr.le pass0 (pa_cons (pe_cal C__law_box hr.le pass0 (pa_cons (pe_cal C__law_cell hr.le pass0 (pa_cons (pv 0) (pa_cons pe_int pa_nil))) pa_nil)) pa_nil)) (by intro _; rfl))))))
  (pss_one (ps_ret pe_bl)) pss_nil)
  (pss_one (ps_ret (pe_cal C__law_chip_right hr.le pass0 (pa_cons (pe_cal C__law_box hr.le pass0 (pa_cons (pe_cal C__law_cell hr.le pass0 (pa_cons (pv 0) (pa_cons pe_int pa_nil))) pa_nil)) pa_nil)))))), ?_⟩)
  · obtain ⟨a, ns, rfl, _⟩ := h
    rfl
  · obtain ⟨a, ns, rfl, S, hl, q⟩ := h
    refine ⟨_, rfl, a, ns, 1, rfl, S, by omega, by omega, hl, fun g H1 e1 => ⟨g, rfl, fun p H2 n2 e2 B => ⟨p, 0, rfl, B, by omega, fun H3 x3 B3 => ⟨true, rfl, iteF ?_⟩⟩⟩⟩
    have E3 := ex_b (e1.trans e2) (Evl.fresh_back e1 n2) x3
    refine ⟨_, rfl, a, ns, 2, rfl, Evl.ex_l E3 S, by omega, by omega, hl, fun g2 H4 e4 => ⟨g2, rfl, fun p2 H5 n5 e5 B5 => ⟨p2, 0, rfl, B5, by omega, fun H6 x6 => ⟨true, rfl, iteF ?_⟩⟩⟩⟩
    have E6 := ex_b ((E3.trans e4).trans e5) (Evl.fresh_back (E3.trans e4) n5) x6
    exact ⟨_, rfl, a, ns, 0, rfl, Evl.ex_l E6 S, by omega, by omega, hl, fun g7 H7 e7 => ⟨g7, rfl, fun p8 H8 n8 e8 B8 => ⟨p8, 0, rfl, B8, by omega, fun H9 => q H9⟩⟩⟩
end
end K10
/-! error classes that carry one value, from what is looked at -/
namespace VB
open PySem PySem.Spec PyProof.Rows L2
def oexB (K : PySem.W.Frag) (C : Addr) : Bool := match K.lookup C with
  | some ⟨.type "type", _, .cls cd, sl⟩ => (match cd.mro, sl.toList with
    | .ref C' :: bm, [_, _, _, _, some (.builtin n), _] => decide (C' = C) && (decide (n = "ValueError.__new__") && (!cd.hasDel && (cd.hasDict && PySem.HandSPX.refsVE bm)))
    | _, _ => false)
  | _ => false
theorem oexB_cls {K : PySem.W.Frag} {C : Addr} (q : oexB K C = true) : ∃ nm q N bs bm sn sub ab col dd k0 k1 k2 k3 k5, K.lookup C = some (excClassObj nm q C N bs bm true sn sub ab col dd k0 k1 k2 k3 k5 "ValueError.__new__") ∧ PySem.HandSPX.refsVE bm = true := by
  unfold oexB at q
  split at q
  · rename_i dd cd sl ho
    split at q
    · rename_i C' bm k0 k1 k2 k3 n k5 hm hs
      simp only [Bool.and_eq_true, decide_eq_true_eq, Bool.not_eq_true'] at q
      obtain ⟨rfl, rfl, hdel, hdic, ht⟩ := q
      obtain ⟨nm, bs, mro, ns, qn, hd, sn, sub, ab, col, del⟩ := cd
      dsimp only at hm hdel hdic
      subst hm hdel hdic
      have hsl : sl = #[k0, k1, k2, k3, some (.builtin "ValueError.__new__"), k5] := by
        obtain ⟨l⟩ := sl
        simp only at hs
        rw [hs]
      subst hsl
      exact ⟨nm, qn, ns, bs, bm, sn, sub, ab, col, dd, k0, k1, k2, k3, k5, ho, ht⟩
    · cases q
  · cases q
def errB (K : PySem.W.Frag) (x g : Str) : Bool := oexB K (He.ga K x) && (decide (PySem.W.findIn K (.ref (He.ga K x)) "__setattr__" = some (some (.builtin "object.__setattr__"))) && (decide (PySem.W.subIn K (.ref (He.ga K x)) (.type "BaseException") = some true) && (decide (PySem.W.typeIn K (.ref (He.ga K x)) = some (.type "type")) && (PySem.W.keepIn K (.ref (He.ga K x)) &&
  (decide (PySem.W.findIn K (.ref (He.ga K x)) "__init__" = some (some (.ref (He.ma K (He.ga K x) "__init__")))) && (decide (PySem.W.typeIn K (.ref (He.ma K (He.ga K x) "__init__")) = some (.type "function")) && (decide (PySem.W.findIn K (.ref (He.ga K x)) g = some none) && (xfB K (He.ga K x) && decide (PySem.W.exmOne K (.ref (He.ga K x)) (.ref (He.ga K x)) = some true)))))))))
theorem errB_ok {K : PySem.W.Frag} {mg : Str → Option Value} {x g : Str} (h : errB K x g = true) (gC : mg x = some (.ref (He.ga K x))) : ErrC K mg x g (He.ga K x) (He.ma K (He.ga K x) "__init__") ∧ PySem.W.exmOne K (.ref (He.ga K x)) (.ref (He.ga K x)) = some true := by
  unfold errB at h
  obtain ⟨h1, h⟩ := Bool.and_eq_true_iff.mp h
  obtain ⟨h2, h⟩ := Bool.and_eq_true_iff.mp h
  obtain ⟨h3, h⟩ := Bool.and_eq_true_iff.mp h
  obtain ⟨h4, h⟩ := Bool.and_eq_true_iff.mp h
  obtain ⟨h5, h⟩ := Bool.and_eq_true_iff.mp h
  obtain ⟨h6, h⟩ := Bool.and_eq_true_iff.mp h
  obtain ⟨h7, h⟩ := Bool.and_eq_true_iff.mp h
  obtain ⟨h8, h⟩ := Bool.and_eq_true_iff.mp h
  obtain ⟨h9, h10⟩ := Bool.and_eq_true_iff.mp h
  exact ⟨⟨⟨oexB_cls h1, of_decide_eq_true h2, of_decide_eq_true h3, of_decide_eq_true h4, h5⟩, gC, of_decide_eq_true h6, of_decide_eq_true h7, of_decide_eq_true h8, xfB_ok h9⟩, of_decide_eq_true h10⟩
end VB
namespace K10
open PySem PySem.Spec PyProof.Rows L2 VB BM
abbrev s_PowerCut____init__ : Stmt := mtop 10 0
theorem sc_PowerCut____init__ : FnScope ["self", "op"] ["self", "op"] (defScope s_PowerCut____init__) := ⟨rfl, rfl, rfl, by decide +kernel, rfl, by decide +kernel, by decide +kernel⟩
section
variable {P : Program} {w : World} {K : PySem.W.Frag} {mg : Str → Option Value} {base : Heap} {f : Addr} {fd : FuncData}
theorem ok_pcinit (F : FnM K "__init__" "PowerCut.__init__" s_PowerCut____init__ f fd) : FnOk P w K mg base CX0 1 f fd ["self", "op"] (spInit K "op") := by
  refine F.ok sc_PowerCut____init__ (fun vs H Q E h => ?_) (fun cdv A outer s H vs Q E hr h => ⟨_, pss_one (ps_ost (pv 0) (pv 1)), ?_⟩)
  · obtain ⟨a, C, y, rfl, _⟩ := h
    rfl
  · obtain ⟨a, C, y, rfl, T, no, ea, q⟩ := h
    exact ⟨_, rfl, _, rfl, a, C, rfl, T, no, .inl ⟨ea, fun dx n ne => q dx n ne⟩⟩
end
end K10
/-! the ends -/
namespace VB
open PySem PySem.Spec PyProof.Rows L2
theorem vals_getD {zs : List V} {ws : List Value} (h : Vals zs ws) : ∀ i : Nat, RelV (zs.getD i .non) (ws.getD i .none) := by
  induction h with
  | nil =>
    intro i
    exact rfl
  | cons r _ ih =>
    intro i
    cases i with
    | zero => exact r
    | succ i => exact ih i
theorem kb_of {K : PySem.W.Frag} {x qual : Str} {params : Arguments} {body : List Stmt} {scope : Scope} {kws : List (Str × V)} {f : Addr} {fd : FuncData} {ps ks : List Str} {n : Nat}
    {g : List Value → List Value → List Value} {gV : List V → List V → List V} (F : FunD K x qual params body scope [] kws f fd)
    (hrel : ∀ {vs : List V} {us : List Value} {zs : List V} {ws : List Value}, Vals vs us → Vals zs ws → Vals (gV vs zs) (g us ws))
    (h : ∀ (kV doc pm : Value) (an : Option Addr) (cdv ct : Value) (us ws : List Value), us.length = n → ws.length = ks.length → bindArgs (PySem.W.fnOf x qual params body scope .none kV doc pm an cdv ct) ⟨us, ks.zip ws⟩ = pure (ps.zip (g us ws))) :
    KBn K fd ps n ks g gV := by
  obtain ⟨oc, od, dV, kV, doc, pm, an, cdv, ct, osl, rfl, lk, hcd, hD, hK⟩ := F.ex
  rcases hD with ⟨_, rfl⟩ | ⟨e, _⟩
  · exact ⟨fun s us ws _ l1 l2 => .of_eq (h kV doc pm an cdv ct us ws l1 l2), fun r1 r2 => hrel r1 r2⟩
  · exact absurd rfl e
end VB
set_option maxHeartbeats 0
namespace K10
open PySem PySem.Spec PyProof.Rows L2 VB
def d__law_take : He.DefD := ⟨("_law_take", none), "_law_take", "_law_take", defArgs s__law_take, defBody s__law_take, defScope s__law_take, [], []⟩
def d__law_drawn : He.DefD := ⟨("_law_drawn", none), "_law_drawn", "_law_drawn", defArgs s__law_drawn, defBody s__law_drawn, defScope s__law_drawn, [], []⟩
def d__law_data : He.DefD := ⟨("_law_data", none), "_law_data", "_law_data", defArgs s__law_data, defBody s__law_data, defScope s__law_data, [], []⟩
def d__law_zeros : He.DefD := ⟨("_law_zeros", none), "_law_zeros", "_law_zeros", defArgs s__law_zeros, defBody s__law_zeros, defScope s__law_zeros, [], []⟩
def d__law_page : He.DefD := ⟨("_law_page", none), "_law_page", "_law_page", defArgs s__law_page, defBody s__law_page, defScope s__law_page, [], []⟩
def d__law_part : He.DefD := ⟨("_law_part", none), "_law_part", "_law_part", defArgs s__law_part, defBody s__law_part, defScope s__law_part, [], []⟩
def d_is_list : He.DefD := ⟨("is_list", none), "is_list", "is_list", defArgs s_is_list, defBody s_is_list, defScope s_is_list, [], []⟩
def d_is_octets : He.DefD := ⟨("is_octets", none), "is_octets", "is_octets", defArgs s_is_octets, defBody s_is_octets, defScope s_is_octets, [], []⟩
def d_is_octets_of : He.DefD := ⟨("is_octets_of", none), "is_octets_of", "is_octets_of", defArgs s_is_octets_of, defBody s_is_octets_of, defScope s_is_octets_of, [], []⟩
def d__is_page : He.DefD := ⟨("_is_page", none), "_is_page", "_is_page", defArgs s__is_page, defBody s__is_page, defScope s__is_page, [], []⟩
def d_zero_bits : He.DefD := ⟨("zero_bits", none), "zero_bits", "zero_bits", defArgs s_zero_bits, defBody s_zero_bits, defScope s_zero_bits, [], []⟩
def d_data_told_by : He.DefD := ⟨("data_told_by", none), "data_told_by", "data_told_by", defArgs s_data_told_by, defBody s_data_told_by, defScope s_data_told_by, [], []⟩
def d_data_of : He.DefD := ⟨("data_of", none), "data_of", "data_of", defArgs s_data_of, defBody s_data_of, defScope s_data_of, [], []⟩
def d_surplus : He.DefD := ⟨("surplus", none), "surplus", "surplus", defArgs s_surplus, defBody s_surplus, defScope s_surplus, [], []⟩
def d_is_whole : He.DefD := ⟨("is_whole", none), "is_whole", "is_whole", defArgs s_is_whole, defBody s_is_whole, defScope s_is_whole, [], []⟩
def d_is_clean : He.DefD := ⟨("is_clean", none), "is_clean", "is_clean", defArgs s_is_clean, defBody s_is_clean, defScope s_is_clean, [], []⟩
def d_is_torn : He.DefD := ⟨("is_torn", none), "is_torn", "is_torn", defArgs s_is_torn, defBody s_is_torn, defScope s_is_torn, [], []⟩
def d_sealed : He.DefD := ⟨("sealed", none), "sealed", "sealed", defArgs s_sealed, defBody s_sealed, defScope s_sealed, [], []⟩
def d_is_rest : He.DefD := ⟨("is_rest", none), "is_rest", "is_rest", defArgs s_is_rest, defBody s_is_rest, defScope s_is_rest, [], []⟩
def d__law_told_right : He.DefD := ⟨("_law_told_right", none), "_law_told_right", "_law_told_right", defArgs s__law_told_right, defBody s__law_told_right, defScope s__law_told_right, [], []⟩
def d__law_plain_right : He.DefD := ⟨("_law_plain_right", none), "_law_plain_right", "_law_plain_right", defArgs s__law_plain_right, defBody s__law_plain_right, defScope s__law_plain_right, [], []⟩
def d__law_without : He.DefD := ⟨("_law_without", none), "_law_without", "_law_without", defArgs s__law_without, defBody s__law_without, defScope s__law_without, [], []⟩
def d_is_int_from : He.DefD := ⟨("is_int_from", none), "is_int_from", "is_int_from", defArgs s_is_int_from, defBody s_is_int_from, defScope s_is_int_from, [], []⟩
def d_is_block_count : He.DefD := ⟨("is_block_count", none), "is_block_count", "is_block_count", defArgs s_is_block_count, defBody s_is_block_count, defScope s_is_block_count, [], []⟩
def d_is_page_count : He.DefD := ⟨("is_page_count", none), "is_page_count", "is_page_count", defArgs s_is_page_count, defBody s_is_page_count, defScope s_is_page_count, [], []⟩
def d_is_bad_count : He.DefD := ⟨("is_bad_count", none), "is_bad_count", "is_bad_count", defArgs s_is_bad_count, defBody s_is_bad_count, defScope s_is_bad_count, [], []⟩
def d__clean_block : He.DefD := ⟨("_clean_block", none), "_clean_block", "_clean_block", defArgs s__clean_block, defBody s__clean_block, defScope s__clean_block, [], []⟩
def d__check_octets : He.DefD := ⟨("_check_octets", none), "_check_octets", "_check_octets", defArgs s__check_octets, defBody s__check_octets, defScope s__check_octets, [], []⟩
def d__check_pair : He.DefD := ⟨("_check_pair", none), "_check_pair", "_check_pair", defArgs s__check_pair, defBody s__check_pair, defScope s__check_pair, [], []⟩
def d__worth : He.DefD := ⟨("_worth", none), "_worth", "_worth", defArgs s__worth, defBody s__worth, defScope s__worth, [], []⟩
def d__ones : He.DefD := ⟨("_ones", none), "_ones", "_ones", defArgs s__ones, defBody s__ones, defScope s__ones, [], []⟩
def d_is_int : He.DefD := ⟨("is_int", none), "is_int", "is_int", defArgs s_is_int, defBody s_is_int, defScope s_is_int, [], []⟩
def d_is_mask : He.DefD := ⟨("is_mask", none), "is_mask", "is_mask", defArgs s_is_mask, defBody s_is_mask, defScope s_is_mask, [], []⟩
def d_changed : He.DefD := ⟨("changed", none), "changed", "changed", defArgs s_changed, defBody s_changed, defScope s_changed, [], []⟩
def d__law_done : He.DefD := ⟨("_law_done", none), "_law_done", "_law_done", defArgs s__law_done, defBody s__law_done, defScope s__law_done, [], []⟩
def d__law_two_right : He.DefD := ⟨("_law_two_right", none), "_law_two_right", "_law_two_right", defArgs s__law_two_right, defBody s__law_two_right, defScope s__law_two_right, [], []⟩
def d__law_long : He.DefD := ⟨("_law_long", none), "_law_long", "_law_long", defArgs s__law_long, defBody s__law_long, defScope s__law_long, [], []⟩
def d__law_mask : He.DefD := ⟨("_law_mask", none), "_law_mask", "_law_mask", defArgs s__law_mask, defBody s__law_mask, defScope s__law_mask, [], []⟩
def d__law_step_right : He.DefD := ⟨("_law_step_right", none), "_law_step_right", "_law_step_right", defArgs s__law_step_right, defBody s__law_step_right, defScope s__law_step_right, [], []⟩
def d__law_chip_right : He.DefD := ⟨("_law_chip_right", none), "_law_chip_right", "_law_chip_right", defArgs s__law_chip_right, defBody s__law_chip_right, defScope s__law_chip_right, [], []⟩
def d__law_box : He.DefD := ⟨("_law_box", none), "_law_box", "_law_box", defArgs s__law_box, defBody s__law_box, defScope s__law_box, [], []⟩
def d__law_cell : He.DefD := ⟨("_law_cell", none), "_law_cell", "_law_cell", defArgs s__law_cell, defBody s__law_cell, defScope s__law_cell, [], []⟩
def d_law : He.DefD := ⟨("law", none), "law", "law", defArgs s_law, defBody s_law, defScope s_law, [], []⟩
def d_Chip____init__ : He.DefD := ⟨("Chip", some "__init__"), "__init__", "Chip.__init__", defArgs s_Chip____init__, defBody s_Chip____init__, defScope s_Chip____init__, [], []⟩
def d_Chip___check_block : He.DefD := ⟨("Chip", some "_check_block"), "_check_block", "Chip._check_block", defArgs s_Chip___check_block, defBody s_Chip___check_block, defScope s_Chip___check_block, [], []⟩
def d_Chip___check_page : He.DefD := ⟨("Chip", some "_check_page"), "_check_page", "Chip._check_page", defArgs s_Chip___check_page, defBody s_Chip___check_page, defScope s_Chip___check_page, [], []⟩
def d_Chip__read : He.DefD := ⟨("Chip", some "read"), "read", "Chip.read", defArgs s_Chip__read, defBody s_Chip__read, defScope s_Chip__read, [], []⟩
def d_Chip__bad_blocks : He.DefD := ⟨("Chip", some "bad_blocks"), "bad_blocks", "Chip.bad_blocks", defArgs s_Chip__bad_blocks, defBody s_Chip__bad_blocks, defScope s_Chip__bad_blocks, [], []⟩
def d_Chip___set_octets : He.DefD := ⟨("Chip", some "_set_octets"), "_set_octets", "Chip._set_octets", defArgs s_Chip___set_octets, defBody s_Chip___set_octets, defScope s_Chip___set_octets, [], []⟩
def d_Chip___do_op : He.DefD := ⟨("Chip", some "_do_op"), "_do_op", "Chip._do_op", defArgs s_Chip___do_op, defBody s_Chip___do_op, defScope s_Chip___do_op, [], []⟩
def d_Chip__write : He.DefD := ⟨("Chip", some "write"), "write", "Chip.write", defArgs s_Chip__write, defBody s_Chip__write, defScope s_Chip__write, [], []⟩
def d_Chip___check_plan : He.DefD := ⟨("Chip", some "_check_plan"), "_check_plan", "Chip._check_plan", defArgs s_Chip___check_plan, defBody s_Chip___check_plan, defScope s_Chip___check_plan, [], []⟩
def d_Chip__cut : He.DefD := ⟨("Chip", some "cut"), "cut", "Chip.cut", defArgs s_Chip__cut, defBody s_Chip__cut, defScope s_Chip__cut, [], []⟩
def d_Chip__erase : He.DefD := ⟨("Chip", some "erase"), "erase", "Chip.erase", defArgs s_Chip__erase, defBody s_Chip__erase, defScope s_Chip__erase, [], []⟩
def d_Chip__fail : He.DefD := ⟨("Chip", some "fail"), "fail", "Chip.fail", defArgs s_Chip__fail, defBody s_Chip__fail, defScope s_Chip__fail, [], []⟩
def d_PowerCut____init__ : He.DefD := ⟨("PowerCut", some "__init__"), "__init__", "PowerCut.__init__", defArgs s_PowerCut____init__, defBody s_PowerCut____init__, defScope s_PowerCut____init__, [], []⟩
def fnl : List He.DefD := [d__law_take, d__law_drawn, d__law_data, d__law_zeros, d__law_page, d__law_part, d_is_list, d_is_octets, d_is_octets_of, d__is_page, d_zero_bits, d_data_told_by, d_data_of, d_surplus, d_is_whole, d_is_clean, d_is_torn, d_sealed, d_is_rest, d__law_told_right, d__law_plain_right, d__law_without, d_is_int_from, d_is_block_count, d_is_page_count, d_is_bad_count, d__clean_block, d__check_octets, d__check_pair, d__worth, d__ones, d_is_int, d_is_mask, d_changed, d__law_done, d__law_two_right, d__law_long, d__law_mask, d__law_step_right, d__law_chip_right, d__law_box, d__law_cell, d_law, d_Chip____init__, d_Chip___check_block, d_Chip___check_page, d_Chip__read, d_Chip__bad_blocks, d_Chip___set_octets, d_Chip___do_op, d_Chip__write, d_Chip___check_plan, d_Chip__cut, d_Chip__erase, d_Chip__fail, d_PowerCut____init__]
def fal : List He.Fa := [.glo "_law_take", .glo "_law_drawn", .glo "_law_data", .glo "_law_zeros", .glo "_law_page", .glo "_law_part", .glo "is_list", .glo "is_octets", .glo "is_octets_of", .glo "_is_page", .glo "zero_bits", .glo "data_told_by", .glo "data_of", .glo "surplus", .glo "is_whole", .glo "is_clean", .glo "is_torn", .glo "sealed", .glo "is_rest", .glo "_law_told_right", .glo "_law_plain_right", .glo "_law_without", .glo "is_int_from", .glo "is_block_count", .glo "is_page_count", .glo "is_bad_count", .glo "_clean_block", .glo "_check_octets", .glo "_check_pair", .glo "_worth", .glo "_ones", .glo "is_int", .glo "is_mask", .glo "changed", .glo "_law_done", .glo "_law_two_right", .glo "_law_long", .glo "_law_mask", .glo "_law_step_right", .glo "_law_chip_right", .glo "_law_box", .glo "_law_cell", .glo "law", .free "abs", .free "all", .free "bool", .free "enumerate", .free "int", .free "isinstance", .free "len", .free "list", .free "min", .free "range", .free "repr", .free "sum", .free "tuple", .free "zip", .int "DATA_OCTETS" 30, .int "LEAST_BLOCKS" 8, .int "LEAST_GOOD_BLOCKS" 7, .int "LEAST_PAGES" 8, .int "MASK_BITS" 4096, .int "MOST_BLOCKS" 24, .int "MOST_PAGES" 16, .int "MOST_ZEROS" 240, .int "PAGE_OCTETS" 31, .glo "ZEROS_OF_HALF", .glo "Chip", .glo "PowerCut", .cls "Chip", .noat "Chip" "blocks", .noat "Chip" "pages", .noat "Chip" "bad", .noat "Chip" "ops", .noat "Chip" "cuts", .noat "Chip" "_octets", .noat "Chip" "_erased", .noat "Chip" "_turned_bad", .noat "Chip" "_cut_plans", .noat "Chip" "_fail_plans", .noat "Chip" "_reads", .meth "Chip" "_check_block", .meth "Chip" "_check_page", .meth "Chip" "read", .meth "Chip" "bad_blocks", .meth "Chip" "_set_octets", .meth "Chip" "_do_op", .meth "Chip" "write", .meth "Chip" "_check_plan", .meth "Chip" "cut", .meth "Chip" "erase", .meth "Chip" "fail", .mkr "Chip"]
abbrev Rw : PySem.W.OpenRow := PySem.W.OpenLaw.row PySem.Challenge.rw_onewaybits_k10_whole_what_cuts_leave
def exB (K : PySem.W.Frag) : Bool := He.tupB K "ZEROS_OF_HALF" [.int 4, .int 3, .int 3, .int 2, .int 3, .int 2, .int 2, .int 1, .int 3, .int 2, .int 2, .int 1, .int 2, .int 1, .int 1, .int 0] && (errB K "PowerCut" "op")
abbrev hk : PySem.W.Hook := He.hookX 6 fal fnl [] [] exB
def ob (s : PySem.W.SharedT) : He.AlX := He.obsX 6 fal fnl [] [] exB (HandSHeadRun.getT s)
theorem ob_eq (s : PySem.W.SharedT) : ob s = hk.obs s.abs := He.obsX_eq (HandSHeadRun.getT_eq s)
def ln0 : List Str := ["_wall", "FlashError", "InvalidOctets", "InvalidMask", "InvalidOp", "InvalidBlock", "InvalidPage", "InvalidShape", "InvalidData", "PowerCut", "PAGE_OCTETS", "DATA_OCTETS", "MASK_BITS", "is_int", "is_int_from", "is_list", "is_octets", "is_octets_of", "is_mask", "ZEROS_OF_HALF", "zero_bits", "changed", "_check_octets", "_check_pair", "_ones", "_worth", "MOST_ZEROS", "sealed", "is_clean", "is_whole"]
def ln1 : List Str := ["is_torn", "data_of", "data_told_by", "surplus", "is_rest", "_is_page", "LEAST_BLOCKS", "MOST_BLOCKS", "LEAST_PAGES", "MOST_PAGES", "LEAST_GOOD_BLOCKS", "Chip", "is_block_count", "is_page_count", "is_bad_count", "_clean_block", "_law_cell", "_law_box", "_law_take", "_law_zeros", "_law_drawn", "_law_data", "_law_page", "_law_part", "_law_long", "_law_mask", "_law_told_right", "_law_plain_right", "_law_done", "_law_step_right"]
def ln2 : List Str := ["_law_chip_right", "_law_without", "_law_two_right"]
abbrev lns : List Str := ln0 ++ ln1 ++ ln2
theorem run (w : World) : HandSHeadRun.RunEq Rw (PySem.W.view Rw.prog [69]) hk ob 30000 lns w := by
  intro os
  kernel_rfl
theorem facts {P : Program} {w : World} {K : PySem.W.Frag} {h : Heap} {mg : Str → Option Value} {f : Addr} (X : K.In h) (G : h.Ns mainGlobals mg) (hfa : mg ("law" : Str) = some (.ref f)) (cx : He.SaysX fal fnl [] [] exB w h K) :
    ∃ fd : FuncData, (∀ (s : Shared) (v : Value), BindsTo s fd ⟨[v], []⟩ [("_law_script", v)]) ∧ ∀ base : Heap, K.In base → base.Ns mainGlobals mg → Fg P w K mg base CX0 12 f fd ["_law_script"] (spLaw K) := by
  have c := cx.t.d
  have cm := cx.more
  have tb_ZEROS_OF_HALF : ∀ H : Hp, SqT K H (He.ga K "ZEROS_OF_HALF") (List.map V.int [4, 3, 3, 2, 3, 2, 2, 1, 3, 2, 2, 1, 2, 1, 1, 0]) := fun H => He.tupB_ok (He.ba cm).1 H
  have cm := (He.ba cm).2
  obtain ⟨fd__law_take, F__law_take⟩ := c.def_ 0 (d := d__law_take) rfl
  obtain ⟨fd__law_drawn, F__law_drawn⟩ := c.def_ 1 (d := d__law_drawn) rfl
  obtain ⟨fd__law_data, F__law_data⟩ := c.def_ 2 (d := d__law_data) rfl
  obtain ⟨fd__law_zeros, F__law_zeros⟩ := c.def_ 3 (d := d__law_zeros) rfl
  obtain ⟨fd__law_page, F__law_page⟩ := c.def_ 4 (d := d__law_page) rfl
  obtain ⟨fd__law_part, F__law_part⟩ := c.def_ 5 (d := d__law_part) rfl
  obtain ⟨fd_is_list, F_is_list⟩ := c.def_ 6 (d := d_is_list) rfl
  obtain ⟨fd_is_octets, F_is_octets⟩ := c.def_ 7 (d := d_is_octets) rfl
  obtain ⟨fd_is_octets_of, F_is_octets_of⟩ := c.def_ 8 (d := d_is_octets_of) rfl
  obtain ⟨fd__is_page, F__is_page⟩ := c.def_ 9 (d := d__is_page) rfl
  obtain ⟨fd_zero_bits, F_zero_bits⟩ := c.def_ 10 (d := d_zero_bits) rfl
  obtain ⟨fd_data_told_by, F_data_told_by⟩ := c.def_ 11 (d := d_data_told_by) rfl
  obtain ⟨fd_data_of, F_data_of⟩ := c.def_ 12 (d := d_data_of) rfl
  obtain ⟨fd_surplus, F_surplus⟩ := c.def_ 13 (d := d_surplus) rfl
  obtain ⟨fd_is_whole, F_is_whole⟩ := c.def_ 14 (d := d_is_whole) rfl
  obtain ⟨fd_is_clean, F_is_clean⟩ := c.def_ 15 (d := d_is_clean) rfl
  obtain ⟨fd_is_torn, F_is_torn⟩ := c.def_ 16 (d := d_is_torn) rfl
  obtain ⟨fd_sealed, F_sealed⟩ := c.def_ 17 (d := d_sealed) rfl
  obtain ⟨fd_is_rest, F_is_rest⟩ := c.def_ 18 (d := d_is_rest) rfl
  obtain ⟨fd__law_told_right, F__law_told_right⟩ := c.def_ 19 (d := d__law_told_right) rfl
  obtain ⟨fd__law_plain_right, F__law_plain_right⟩ := c.def_ 20 (d := d__law_plain_right) rfl
  obtain ⟨fd__law_without, F__law_without⟩ := c.def_ 21 (d := d__law_without) rfl
  obtain ⟨fd_is_int_from, F_is_int_from⟩ := c.def_ 22 (d := d_is_int_from) rfl
  obtain ⟨fd_is_block_count, F_is_block_count⟩ := c.def_ 23 (d := d_is_block_count) rfl
  obtain ⟨fd_is_page_count, F_is_page_count⟩ := c.def_ 24 (d := d_is_page_count) rfl
  obtain ⟨fd_is_bad_count, F_is_bad_count⟩ := c.def_ 25 (d := d_is_bad_count) rfl
  obtain ⟨fd__clean_block, F__clean_block⟩ := c.def_ 26 (d := d__clean_block) rfl
  obtain ⟨fd__check_octets, F__check_octets⟩ := c.def_ 27 (d := d__check_octets) rfl
  obtain ⟨fd__check_pair, F__check_pair⟩ := c.def_ 28 (d := d__check_pair) rfl
  obtain ⟨fd__worth, F__worth⟩ := c.def_ 29 (d := d__worth) rfl
  obtain ⟨fd__ones, F__ones⟩ := c.def_ 30 (d := d__ones) rfl
  obtain ⟨fd_is_int, F_is_int⟩ := c.def_ 31 (d := d_is_int) rfl
  obtain ⟨fd_is_mask, F_is_mask⟩ := c.def_ 32 (d := d_is_mask) rfl
  obtain ⟨fd_changed, F_changed⟩ := c.def_ 33 (d := d_changed) rfl
  obtain ⟨fd__law_done, F__law_done⟩ := c.def_ 34 (d := d__law_done) rfl
  obtain ⟨fd__law_two_right, F__law_two_right⟩ := c.def_ 35 (d := d__law_two_right) rfl
  obtain ⟨fd__law_long, F__law_long⟩ := c.def_ 36 (d := d__law_long) rfl
  obtain ⟨fd__law_mask, F__law_mask⟩ := c.def_ 37 (d := d__law_mask) rfl
  obtain ⟨fd__law_step_right, F__law_step_right⟩ := c.def_ 38 (d := d__law_step_right) rfl
  obtain ⟨fd__law_chip_right, F__law_chip_right⟩ := c.def_ 39 (d := d__law_chip_right) rfl
  obtain ⟨fd__law_box, F__law_box⟩ := c.def_ 40 (d := d__law_box) rfl
  obtain ⟨fd__law_cell, F__law_cell⟩ := c.def_ 41 (d := d__law_cell) rfl
  obtain ⟨fd_law, F_law⟩ := c.def_ 42 (d := d_law) rfl
  obtain ⟨fd_Chip____init__, F_Chip____init__⟩ := c.def_ 43 (d := d_Chip____init__) rfl
  obtain ⟨fd_Chip___check_block, F_Chip___check_block⟩ := c.def_ 44 (d := d_Chip___check_block) rfl
  obtain ⟨fd_Chip___check_page, F_Chip___check_page⟩ := c.def_ 45 (d := d_Chip___check_page) rfl
  obtain ⟨fd_Chip__read, F_Chip__read⟩ := c.def_ 46 (d := d_Chip__read) rfl
  obtain ⟨fd_Chip__bad_blocks, F_Chip__bad_blocks⟩ := c.def_ 47 (d := d_Chip__bad_blocks) rfl
  obtain ⟨fd_Chip___set_octets, F_Chip___set_octets⟩ := c.def_ 48 (d := d_Chip___set_octets) rfl
  obtain ⟨fd_Chip___do_op, F_Chip___do_op⟩ := c.def_ 49 (d := d_Chip___do_op) rfl
  obtain ⟨fd_Chip__write, F_Chip__write⟩ := c.def_ 50 (d := d_Chip__write) rfl
  obtain ⟨fd_Chip___check_plan, F_Chip___check_plan⟩ := c.def_ 51 (d := d_Chip___check_plan) rfl
  obtain ⟨fd_Chip__cut, F_Chip__cut⟩ := c.def_ 52 (d := d_Chip__cut) rfl
  obtain ⟨fd_Chip__erase, F_Chip__erase⟩ := c.def_ 53 (d := d_Chip__erase) rfl
  obtain ⟨fd_Chip__fail, F_Chip__fail⟩ := c.def_ 54 (d := d_Chip__fail) rfl
  obtain ⟨fd_PowerCut____init__, F_PowerCut____init__⟩ := c.def_ 55 (d := d_PowerCut____init__) rfl
  have g__law_take := He.glo_ok X G (c.fact 0 (f := .glo "_law_take") rfl)
  have g__law_drawn := He.glo_ok X G (c.fact 1 (f := .glo "_law_drawn") rfl)
  have g__law_data := He.glo_ok X G (c.fact 2 (f := .glo "_law_data") rfl)
  have g__law_zeros := He.glo_ok X G (c.fact 3 (f := .glo "_law_zeros") rfl)
  have g__law_page := He.glo_ok X G (c.fact 4 (f := .glo "_law_page") rfl)
  have g__law_part := He.glo_ok X G (c.fact 5 (f := .glo "_law_part") rfl)
  have g_is_list := He.glo_ok X G (c.fact 6 (f := .glo "is_list") rfl)
  have g_is_octets := He.glo_ok X G (c.fact 7 (f := .glo "is_octets") rfl)
  have g_is_octets_of := He.glo_ok X G (c.fact 8 (f := .glo "is_octets_of") rfl)
  have g__is_page := He.glo_ok X G (c.fact 9 (f := .glo "_is_page") rfl)
  have g_zero_bits := He.glo_ok X G (c.fact 10 (f := .glo "zero_bits") rfl)
  have g_data_told_by := He.glo_ok X G (c.fact 11 (f := .glo "data_told_by") rfl)
  have g_data_of := He.glo_ok X G (c.fact 12 (f := .glo "data_of") rfl)
  have g_surplus := He.glo_ok X G (c.fact 13 (f := .glo "surplus") rfl)
  have g_is_whole := He.glo_ok X G (c.fact 14 (f := .glo "is_whole") rfl)
  have g_is_clean := He.glo_ok X G (c.fact 15 (f := .glo "is_clean") rfl)
  have g_is_torn := He.glo_ok X G (c.fact 16 (f := .glo "is_torn") rfl)
  have g_sealed := He.glo_ok X G (c.fact 17 (f := .glo "sealed") rfl)
  have g_is_rest := He.glo_ok X G (c.fact 18 (f := .glo "is_rest") rfl)
  have g__law_told_right := He.glo_ok X G (c.fact 19 (f := .glo "_law_told_right") rfl)
  have g__law_plain_right := He.glo_ok X G (c.fact 20 (f := .glo "_law_plain_right") rfl)
  have g__law_without := He.glo_ok X G (c.fact 21 (f := .glo "_law_without") rfl)
  have g_is_int_from := He.glo_ok X G (c.fact 22 (f := .glo "is_int_from") rfl)
  have g_is_block_count := He.glo_ok X G (c.fact 23 (f := .glo "is_block_count") rfl)
  have g_is_page_count := He.glo_ok X G (c.fact 24 (f := .glo "is_page_count") rfl)
  have g_is_bad_count := He.glo_ok X G (c.fact 25 (f := .glo "is_bad_count") rfl)
  have g__clean_block := He.glo_ok X G (c.fact 26 (f := .glo "_clean_block") rfl)
  have g__check_octets := He.glo_ok X G (c.fact 27 (f := .glo "_check_octets") rfl)
  have g__check_pair := He.glo_ok X G (c.fact 28 (f := .glo "_check_pair") rfl)
  have g__worth := He.glo_ok X G (c.fact 29 (f := .glo "_worth") rfl)
  have g__ones := He.glo_ok X G (c.fact 30 (f := .glo "_ones") rfl)
  have g_is_int := He.glo_ok X G (c.fact 31 (f := .glo "is_int") rfl)
  have g_is_mask := He.glo_ok X G (c.fact 32 (f := .glo "is_mask") rfl)
  have g_changed := He.glo_ok X G (c.fact 33 (f := .glo "changed") rfl)
  have g__law_done := He.glo_ok X G (c.fact 34 (f := .glo "_law_done") rfl)
  have g__law_two_right := He.glo_ok X G (c.fact 35 (f := .glo "_law_two_right") rfl)
  have g__law_long := He.glo_ok X G (c.fact 36 (f := .glo "_law_long") rfl)
  have g__law_mask := He.glo_ok X G (c.fact 37 (f := .glo "_law_mask") rfl)
  have g__law_step_right := He.glo_ok X G (c.fact 38 (f := .glo "_law_step_right") rfl)
  have g__law_chip_right := He.glo_ok X G (c.fact 39 (f := .glo "_law_chip_right") rfl)
  have g__law_box := He.glo_ok X G (c.fact 40 (f := .glo "_law_box") rfl)
  have g__law_cell := He.glo_ok X G (c.fact 41 (f := .glo "_law_cell") rfl)
  have g_law := He.glo_ok X G (c.fact 42 (f := .glo "law") rfl)
  have T : Txt K mg := ⟨He.free_ok X G (c.fact 43 (f := .free "abs") rfl), He.free_ok X G (c.fact 44 (f := .free "all") rfl), He.free_ok X G (c.fact 45 (f := .free "bool") rfl), He.free_ok X G (c.fact 46 (f := .free "enumerate") rfl), He.free_ok X G (c.fact 47 (f := .free "int") rfl), He.free_ok X G (c.fact 48 (f := .free "isinstance") rfl), He.free_ok X G (c.fact 49 (f := .free "len") rfl), He.free_ok X G (c.fact 50 (f := .free "list") rfl), He.free_ok X G (c.fact 51 (f := .free "min") rfl), He.free_ok X G (c.fact 52 (f := .free "range") rfl), He.free_ok X G (c.fact 53 (f := .free "repr") rfl), He.free_ok X G (c.fact 54 (f := .free "sum") rfl), He.free_ok X G (c.fact 55 (f := .free "tuple") rfl), He.free_ok X G (c.fact 56 (f := .free "zip") rfl), He.int_ok X G (c.fact 57 (f := .int "DATA_OCTETS" 30) rfl), He.int_ok X G (c.fact 58 (f := .int "LEAST_BLOCKS" 8) rfl), He.int_ok X G (c.fact 59 (f := .int "LEAST_GOOD_BLOCKS" 7) rfl), He.int_ok X G (c.fact 60 (f := .int "LEAST_PAGES" 8) rfl), He.int_ok X G (c.fact 61 (f := .int "MASK_BITS" 4096) rfl), He.int_ok X G (c.fact 62 (f := .int "MOST_BLOCKS" 24) rfl), He.int_ok X G (c.fact 63 (f := .int "MOST_PAGES" 16) rfl), He.int_ok X G (c.fact 64 (f := .int "MOST_ZEROS" 240) rfl), He.int_ok X G (c.fact 65 (f := .int "PAGE_OCTETS" 31) rfl), tb_ZEROS_OF_HALF, He.glo_ok X G (c.fact 66 (f := .glo "ZEROS_OF_HALF") rfl)⟩
  have kc := He.cls_ok (c.fact 69 (f := .cls "Chip") rfl)
  have TC : TxC K := by
    refine ⟨kc, fun x hx => ?_⟩
    simp only [List.mem_cons, List.not_mem_nil, or_false] at hx
    rcases hx with rfl | rfl | rfl | rfl | rfl | rfl | rfl | rfl | rfl | rfl | rfl
    · exact He.noat_ok (c.fact 70 (f := .noat "Chip" "blocks") rfl)
    · exact He.noat_ok (c.fact 71 (f := .noat "Chip" "pages") rfl)
    · exact He.noat_ok (c.fact 72 (f := .noat "Chip" "bad") rfl)
    · exact He.noat_ok (c.fact 73 (f := .noat "Chip" "ops") rfl)
    · exact He.noat_ok (c.fact 74 (f := .noat "Chip" "cuts") rfl)
    · exact He.noat_ok (c.fact 75 (f := .noat "Chip" "_octets") rfl)
    · exact He.noat_ok (c.fact 76 (f := .noat "Chip" "_erased") rfl)
    · exact He.noat_ok (c.fact 77 (f := .noat "Chip" "_turned_bad") rfl)
    · exact He.noat_ok (c.fact 78 (f := .noat "Chip" "_cut_plans") rfl)
    · exact He.noat_ok (c.fact 79 (f := .noat "Chip" "_fail_plans") rfl)
    · exact He.noat_ok (c.fact 80 (f := .noat "Chip" "_reads") rfl)
  have gChip := He.glo_ok X G (c.fact 67 (f := .glo "Chip") rfl)
  have gPC := He.glo_ok X G (c.fact 68 (f := .glo "PowerCut") rfl)
  obtain ⟨errPC, xm⟩ := errB_ok cm gPC
  cases hfa.symm.trans g_law
  have b := FunD.bindsA (ps := ["_law_script"]) F_law fun _ _ _ _ _ _ us hl => match us, hl with | [_], _ => rfl
  refine ⟨fd_law, fun s v => b s [v] rfl, fun base _ _ => ?_⟩
  have E_PowerCut : MkE P w K mg base "PowerCut" "op" (He.ga K "PowerCut") (He.ma K (He.ga K "PowerCut") "__init__") := ⟨errPC, fd_PowerCut____init__, ok_pcinit F_PowerCut____init__, F_PowerCut____init__.bindsN fun _ _ _ _ _ _ us hl => match us, hl with | [_, _], _ => rfl⟩
  have G__law_take : Fg P w K mg base CX0 1 _ fd__law_take ["_law_box_here", "_law_many"] spTake := ok_take (F := F__law_take) (T := T)
  have C__law_take_1 : Cal P w K mg base CX0 1 "_law_take" ["_law_box_here", "_law_many"] spTake := ⟨_, fd__law_take, G__law_take.le (by omega), g__law_take, F__law_take.kp, F__law_take.bindsN fun _ _ _ _ _ _ us hl => match us, hl with | [_, _], _ => rfl⟩
  have G__law_drawn : Fg P w K mg base CX0 2 _ fd__law_drawn ["_law_box_here", "_law_count"] spLD := ok_ldrawn (F := F__law_drawn) (T := T) (C__law_take := C__law_take_1)
  have C__law_drawn_2 : Cal P w K mg base CX0 2 "_law_drawn" ["_law_box_here", "_law_count"] spLD := ⟨_, fd__law_drawn, G__law_drawn.le (by omega), g__law_drawn, F__law_drawn.kp, F__law_drawn.bindsN fun _ _ _ _ _ _ us hl => match us, hl with | [_, _], _ => rfl⟩
  have G__law_data : Fg P w K mg base CX0 3 _ fd__law_data ["_law_box_here"] spDa := ok_ldata (F := F__law_data) (T := T) (C__law_take := C__law_take_1) (C__law_drawn := C__law_drawn_2)
  have G__law_zeros : Fg P w K mg base CX0 1 _ fd__law_zeros ["_law_octets"] (spLZ K) := ok_lzeros (F := F__law_zeros) (T := T)
  have C__law_zeros_1 : Cal P w K mg base CX0 1 "_law_zeros" ["_law_octets"] (spLZ K) := ⟨_, fd__law_zeros, G__law_zeros.le (by omega), g__law_zeros, F__law_zeros.kp, F__law_zeros.bindsN fun _ _ _ _ _ _ us hl => match us, hl with | [_], _ => rfl⟩
  have G__law_page : Fg P w K mg base CX0 2 _ fd__law_page ["_law_data_here"] (spPg K) := ok_page (F := F__law_page) (T := T) (C__law_zeros := C__law_zeros_1)
  have G__law_part : Fg P w K mg base CX0 3 _ fd__law_part ["_law_box_here"] spPart := ok_part (F := F__law_part) (T := T) (C__law_take := C__law_take_1) (C__law_drawn := C__law_drawn_2)
  have G_is_list : Fg P w K mg base CX0 1 _ fd_is_list ["value"] (spIsList K) := ok_is_list (F := F_is_list) (T := T)
  have C_is_list_1 : Cal P w K mg base CX0 1 "is_list" ["value"] (spIsList K) := ⟨_, fd_is_list, G_is_list.le (by omega), g_is_list, F_is_list.kp, F_is_list.bindsN fun _ _ _ _ _ _ us hl => match us, hl with | [_], _ => rfl⟩
  have G_is_octets : Fg P w K mg base CX0 2 _ fd_is_octets ["value"] (spIsOct K) := ok_is_octets (F := F_is_octets) (T := T) (C_is_list := C_is_list_1)
  have C_is_octets_2 : Cal P w K mg base CX0 2 "is_octets" ["value"] (spIsOct K) := ⟨_, fd_is_octets, G_is_octets.le (by omega), g_is_octets, F_is_octets.kp, F_is_octets.bindsN fun _ _ _ _ _ _ us hl => match us, hl with | [_], _ => rfl⟩
  have G_is_octets_of : Fg P w K mg base CX0 3 _ fd_is_octets_of ["value", "count"] (spOctOf K) := ok_octets_of (F := F_is_octets_of) (T := T) (C_is_list := C_is_list_1) (C_is_octets := C_is_octets_2)
  have C_is_octets_of_3 : Cal P w K mg base CX0 3 "is_octets_of" ["value", "count"] (spOctOf K) := ⟨_, fd_is_octets_of, G_is_octets_of.le (by omega), g_is_octets_of, F_is_octets_of.kp, F_is_octets_of.bindsN fun _ _ _ _ _ _ us hl => match us, hl with | [_, _], _ => rfl⟩
  have G__is_page : Fg P w K mg base CX0 4 _ fd__is_page ["value"] (spIsPage K) := ok_is_page (F := F__is_page) (T := T) (C_is_octets_of := C_is_octets_of_3)
  have G_zero_bits : Fg P w K mg base CX0 1 _ fd_zero_bits ["octets"] (spZB K) := ok_zero_bits (F := F_zero_bits) (T := T)
  have C_zero_bits_1 : Cal P w K mg base CX0 1 "zero_bits" ["octets"] (spZB K) := ⟨_, fd_zero_bits, G_zero_bits.le (by omega), g_zero_bits, F_zero_bits.kp, F_zero_bits.bindsN fun _ _ _ _ _ _ us hl => match us, hl with | [_], _ => rfl⟩
  have G_data_told_by : Fg P w K mg base CX0 4 _ fd_data_told_by ["page"] (spDTB K) := ok_data_told_by (F := F_data_told_by) (T := T) (C_zero_bits := C_zero_bits_1)
  have C__is_page_4 : Cal P w K mg base CX0 4 "_is_page" ["value"] (spIsPage K) := ⟨_, fd__is_page, G__is_page.le (by omega), g__is_page, F__is_page.kp, F__is_page.bindsN fun _ _ _ _ _ _ us hl => match us, hl with | [_], _ => rfl⟩
  have C_data_told_by_4 : Cal P w K mg base CX0 4 "data_told_by" ["page"] (spDTB K) := ⟨_, fd_data_told_by, G_data_told_by.le (by omega), g_data_told_by, F_data_told_by.kp, F_data_told_by.bindsN fun _ _ _ _ _ _ us hl => match us, hl with | [_], _ => rfl⟩
  have G_data_of : Fg P w K mg base CX0 8 _ fd_data_of ["octets"] (spDataOf K) := ok_data_of (F := F_data_of) (T := T) (C__is_page := C__is_page_4) (C_data_told_by := C_data_told_by_4)
  have G_surplus : Fg P w K mg base CX0 7 _ fd_surplus ["octets"] (spSurplus K) := ok_surplus (F := F_surplus) (T := T) (C__is_page := C__is_page_4) (C_zero_bits := C_zero_bits_1)
  have C_surplus_7 : Cal P w K mg base CX0 7 "surplus" ["octets"] (spSurplus K) := ⟨_, fd_surplus, G_surplus.le (by omega), g_surplus, F_surplus.kp, F_surplus.bindsN fun _ _ _ _ _ _ us hl => match us, hl with | [_], _ => rfl⟩
  have G_is_whole : Fg P w K mg base CX0 8 _ fd_is_whole ["value"] (spWhole K) := ok_is_whole (F := F_is_whole) (T := T) (C__is_page := C__is_page_4) (C_surplus := C_surplus_7)
  have G_is_clean : Fg P w K mg base CX0 8 _ fd_is_clean ["value"] (spClean K) := ok_is_clean (F := F_is_clean) (T := T) (C__is_page := C__is_page_4)
  have G_is_torn : Fg P w K mg base CX0 8 _ fd_is_torn ["value"] (spTorn K) := ok_is_torn (F := F_is_torn) (T := T) (C__is_page := C__is_page_4) (C_surplus := C_surplus_7)
  have G_sealed : Fg P w K mg base CX0 6 _ fd_sealed ["data"] (spSealed K) := ok_sealed (F := F_sealed) (T := T) (C_is_octets_of := C_is_octets_of_3) (C_zero_bits := C_zero_bits_1)
  have C_sealed_6 : Cal P w K mg base CX0 6 "sealed" ["data"] (spSealed K) := ⟨_, fd_sealed, G_sealed.le (by omega), g_sealed, F_sealed.kp, F_sealed.bindsN fun _ _ _ _ _ _ us hl => match us, hl with | [_], _ => rfl⟩
  have G_is_rest : Fg P w K mg base CX0 8 _ fd_is_rest ["data", "value"] (spRest K) := ok_is_rest (F := F_is_rest) (T := T) (C_sealed := C_sealed_6) (C__is_page := C__is_page_4)
  have C__law_page_2 : Cal P w K mg base CX0 2 "_law_page" ["_law_data_here"] (spPg K) := ⟨_, fd__law_page, G__law_page.le (by omega), g__law_page, F__law_page.kp, F__law_page.bindsN fun _ _ _ _ _ _ us hl => match us, hl with | [_], _ => rfl⟩
  have C_data_of_8 : Cal P w K mg base CX0 8 "data_of" ["octets"] (spDataOf K) := ⟨_, fd_data_of, G_data_of.le (by omega), g_data_of, F_data_of.kp, F_data_of.bindsN fun _ _ _ _ _ _ us hl => match us, hl with | [_], _ => rfl⟩
  have C_is_whole_8 : Cal P w K mg base CX0 8 "is_whole" ["value"] (spWhole K) := ⟨_, fd_is_whole, G_is_whole.le (by omega), g_is_whole, F_is_whole.kp, F_is_whole.bindsN fun _ _ _ _ _ _ us hl => match us, hl with | [_], _ => rfl⟩
  have C_is_clean_8 : Cal P w K mg base CX0 8 "is_clean" ["value"] (spClean K) := ⟨_, fd_is_clean, G_is_clean.le (by omega), g_is_clean, F_is_clean.kp, F_is_clean.bindsN fun _ _ _ _ _ _ us hl => match us, hl with | [_], _ => rfl⟩
  have C_is_torn_8 : Cal P w K mg base CX0 8 "is_torn" ["value"] (spTorn K) := ⟨_, fd_is_torn, G_is_torn.le (by omega), g_is_torn, F_is_torn.kp, F_is_torn.bindsN fun _ _ _ _ _ _ us hl => match us, hl with | [_], _ => rfl⟩
  have C_is_rest_8 : Cal P w K mg base CX0 8 "is_rest" ["data", "value"] (spRest K) := ⟨_, fd_is_rest, G_is_rest.le (by omega), g_is_rest, F_is_rest.kp, F_is_rest.bindsN fun _ _ _ _ _ _ us hl => match us, hl with | [_, _], _ => rfl⟩
  have G__law_told_right : Fg P w K mg base CX0 9 _ fd__law_told_right ["_law_data_here", "_law_page_here"] (spTR K) := ok_ltr (F := F__law_told_right) (T := T) (C__law_page := C__law_page_2) (C_data_of := C_data_of_8) (C_is_whole := C_is_whole_8) (C_is_clean := C_is_clean_8) (C_is_torn := C_is_torn_8) (C_is_rest := C_is_rest_8)
  have C__law_data_3 : Cal P w K mg base CX0 3 "_law_data" ["_law_box_here"] spDa := ⟨_, fd__law_data, G__law_data.le (by omega), g__law_data, F__law_data.kp, F__law_data.bindsN fun _ _ _ _ _ _ us hl => match us, hl with | [_], _ => rfl⟩
  have C__law_part_3 : Cal P w K mg base CX0 3 "_law_part" ["_law_box_here"] spPart := ⟨_, fd__law_part, G__law_part.le (by omega), g__law_part, F__law_part.kp, F__law_part.bindsN fun _ _ _ _ _ _ us hl => match us, hl with | [_], _ => rfl⟩
  have C__law_told_right_9 : Cal P w K mg base CX0 9 "_law_told_right" ["_law_data_here", "_law_page_here"] (spTR K) := ⟨_, fd__law_told_right, G__law_told_right.le (by omega), g__law_told_right, F__law_told_right.kp, F__law_told_right.bindsN fun _ _ _ _ _ _ us hl => match us, hl with | [_, _], _ => rfl⟩
  have C_surplus_8 : Cal P w K mg base CX0 8 "surplus" ["octets"] (spSurplus K) := ⟨_, fd_surplus, G_surplus.le (by omega), g_surplus, F_surplus.kp, F_surplus.bindsN fun _ _ _ _ _ _ us hl => match us, hl with | [_], _ => rfl⟩
  have G__law_plain_right : Fg P w K mg base CX0 10 _ fd__law_plain_right ["_law_box_here"] spPlain := ok_plain (F := F__law_plain_right) (T := T) (C__law_take := C__law_take_1) (C__law_data := C__law_data_3) (C__law_page := C__law_page_2) (C__law_part := C__law_part_3) (C__law_told_right := C__law_told_right_9) (C_surplus := C_surplus_8)
  have G__law_without : Fg P w K mg base CX0 1 _ fd__law_without ["_law_bits"] (spWo K) := ok_without (F := F__law_without) (T := T)
  have G_is_int_from : Fg P w K mg base CX0 2 _ fd_is_int_from ["value", "least", "greatest"] spIntFrom := ok_int_from (F := F_is_int_from) (T := T)
  have C_is_int_from_2 : Cal P w K mg base CX0 2 "is_int_from" ["value", "least", "greatest"] spIntFrom := ⟨_, fd_is_int_from, G_is_int_from.le (by omega), g_is_int_from, F_is_int_from.kp, F_is_int_from.bindsN fun _ _ _ _ _ _ us hl => match us, hl with | [_, _, _], _ => rfl⟩
  have G_is_block_count : Fg P w K mg base CX0 3 _ fd_is_block_count ["value"] spBC := ok_bc (F := F_is_block_count) (T := T) (C_is_int_from := C_is_int_from_2)
  have G_is_page_count : Fg P w K mg base CX0 3 _ fd_is_page_count ["value"] spPC := ok_pc (F := F_is_page_count) (T := T) (C_is_int_from := C_is_int_from_2)
  have G_is_bad_count : Fg P w K mg base CX0 3 _ fd_is_bad_count ["value", "blocks"] spBdC := ok_bdc (F := F_is_bad_count) (T := T) (C_is_int_from := C_is_int_from_2)
  have G__clean_block : Fg P w K mg base CX0 1 _ fd__clean_block ["pages"] spCB := ok_cb (F := F__clean_block) (T := T)
  have C_is_block_count_3 : Cal P w K mg base CX0 3 "is_block_count" ["value"] spBC := ⟨_, fd_is_block_count, G_is_block_count.le (by omega), g_is_block_count, F_is_block_count.kp, F_is_block_count.bindsN fun _ _ _ _ _ _ us hl => match us, hl with | [_], _ => rfl⟩
  have C_is_page_count_3 : Cal P w K mg base CX0 3 "is_page_count" ["value"] spPC := ⟨_, fd_is_page_count, G_is_page_count.le (by omega), g_is_page_count, F_is_page_count.kp, F_is_page_count.bindsN fun _ _ _ _ _ _ us hl => match us, hl with | [_], _ => rfl⟩
  have C_is_bad_count_3 : Cal P w K mg base CX0 3 "is_bad_count" ["value", "blocks"] spBdC := ⟨_, fd_is_bad_count, G_is_bad_count.le (by omega), g_is_bad_count, F_is_bad_count.kp, F_is_bad_count.bindsN fun _ _ _ _ _ _ us hl => match us, hl with | [_, _], _ => rfl⟩
  have C__clean_block_1 : Cal P w K mg base CX0 1 "_clean_block" ["pages"] spCB := ⟨_, fd__clean_block, G__clean_block.le (by omega), g__clean_block, F__clean_block.kp, F__clean_block.bindsN fun _ _ _ _ _ _ us hl => match us, hl with | [_], _ => rfl⟩
  have G_Chip____init__ : Fg P w K mg base CX0 4 _ fd_Chip____init__ ["self", "blocks", "pages", "bad"] (spInitC K) := ok_init (F := F_Chip____init__) (T := T) (TC := TC) (C_is_block_count := C_is_block_count_3) (C_is_page_count := C_is_page_count_3) (C_is_bad_count := C_is_bad_count_3) (C__clean_block := C__clean_block_1)
  have G_Chip___check_block : Fg P w K mg base CX0 3 _ fd_Chip___check_block ["self", "block"] (spChkB K) := ok_check_block (F := F_Chip___check_block) (T := T) (TC := TC) (C_is_int_from := C_is_int_from_2)
  have G_Chip___check_page : Fg P w K mg base CX0 3 _ fd_Chip___check_page ["self", "page"] (spChkP K) := ok_check_page (F := F_Chip___check_page) (T := T) (TC := TC) (C_is_int_from := C_is_int_from_2)
  have M_Chip___check_block_3 : CalM P w K mg base CX0 3 (Ch K) "_check_block" ["self", "block"] (spChkB K) := ⟨_, fd_Chip___check_block, G_Chip___check_block.le (by omega), kc, He.meth_ok (c.fact 81 (f := .meth "Chip" "_check_block") rfl), F_Chip___check_block.bindsN fun _ _ _ _ _ _ us hl => match us, hl with | [_, _], _ => rfl⟩
  have M_Chip___check_page_3 : CalM P w K mg base CX0 3 (Ch K) "_check_page" ["self", "page"] (spChkP K) := ⟨_, fd_Chip___check_page, G_Chip___check_page.le (by omega), kc, He.meth_ok (c.fact 82 (f := .meth "Chip" "_check_page") rfl), F_Chip___check_page.bindsN fun _ _ _ _ _ _ us hl => match us, hl with | [_, _], _ => rfl⟩
  have G_Chip__read : Fg P w K mg base CX0 4 _ fd_Chip__read ["self", "block", "page"] (spRead K) := ok_read (F := F_Chip__read) (T := T) (TC := TC) (M_Chip___check_block := M_Chip___check_block_3) (M_Chip___check_page := M_Chip___check_page_3)
  have C_is_octets_3 : Cal P w K mg base CX0 3 "is_octets" ["value"] (spIsOct K) := ⟨_, fd_is_octets, G_is_octets.le (by omega), g_is_octets, F_is_octets.kp, F_is_octets.bindsN fun _ _ _ _ _ _ us hl => match us, hl with | [_], _ => rfl⟩
  have G__check_octets : Fg P w K mg base CX0 4 _ fd__check_octets ["octets"] (spChk K) := ok_chk (F := F__check_octets) (T := T) (C_is_octets := C_is_octets_3)
  have C__check_octets_4 : Cal P w K mg base CX0 4 "_check_octets" ["octets"] (spChk K) := ⟨_, fd__check_octets, G__check_octets.le (by omega), g__check_octets, F__check_octets.kp, F__check_octets.bindsN fun _ _ _ _ _ _ us hl => match us, hl with | [_], _ => rfl⟩
  have G__check_pair : Fg P w K mg base CX0 5 _ fd__check_pair ["old", "new"] (spPair K) := ok_pair (F := F__check_pair) (T := T) (C__check_octets := C__check_octets_4)
  have G__worth : Fg P w K mg base CX0 1 _ fd__worth ["bit"] spWorth := ok_worth (F := F__worth) (T := T)
  have C__worth_1 : Cal P w K mg base CX0 1 "_worth" ["bit"] spWorth := ⟨_, fd__worth, G__worth.le (by omega), g__worth, F__worth.kp, F__worth.bindsN fun _ _ _ _ _ _ us hl => match us, hl with | [_], _ => rfl⟩
  have G__ones : Fg P w K mg base CX0 2 _ fd__ones ["octets"] (spOnes K) := ok_ones (F := F__ones) (T := T) (C__worth := C__worth_1)
  have G_is_int : Fg P w K mg base CX0 1 _ fd_is_int ["value"] spIsInt := ok_is_int (F := F_is_int) (T := T)
  have C_is_int_1 : Cal P w K mg base CX0 1 "is_int" ["value"] spIsInt := ⟨_, fd_is_int, G_is_int.le (by omega), g_is_int, F_is_int.kp, F_is_int.bindsN fun _ _ _ _ _ _ us hl => match us, hl with | [_], _ => rfl⟩
  have G_is_mask : Fg P w K mg base CX0 2 _ fd_is_mask ["value"] spIsMask := ok_is_mask (F := F_is_mask) (T := T) (C_is_int := C_is_int_1)
  have C__check_pair_5 : Cal P w K mg base CX0 5 "_check_pair" ["old", "new"] (spPair K) := ⟨_, fd__check_pair, G__check_pair.le (by omega), g__check_pair, F__check_pair.kp, F__check_pair.bindsN fun _ _ _ _ _ _ us hl => match us, hl with | [_, _], _ => rfl⟩
  have C__ones_2 : Cal P w K mg base CX0 2 "_ones" ["octets"] (spOnes K) := ⟨_, fd__ones, G__ones.le (by omega), g__ones, F__ones.kp, F__ones.bindsN fun _ _ _ _ _ _ us hl => match us, hl with | [_], _ => rfl⟩
  have C_is_mask_2 : Cal P w K mg base CX0 2 "is_mask" ["value"] spIsMask := ⟨_, fd_is_mask, G_is_mask.le (by omega), g_is_mask, F_is_mask.kp, F_is_mask.bindsN fun _ _ _ _ _ _ us hl => match us, hl with | [_], _ => rfl⟩
  have G_changed : Fg P w K mg base CX0 6 _ fd_changed ["old", "new", "mask"] (spChanged K) := ok_changed (F := F_changed) (T := T) (C__check_pair := C__check_pair_5) (C__ones := C__ones_2) (C_is_mask := C_is_mask_2) (C__worth := C__worth_1)
  have G_Chip__bad_blocks : Fg P w K mg base CX0 1 _ fd_Chip__bad_blocks ["self"] (spBadB K) := ok_bad_blocks (F := F_Chip__bad_blocks) (T := T) (TC := TC)
  have G_Chip___set_octets : Fg P w K mg base CX0 1 _ fd_Chip___set_octets ["self", "block", "octets"] (spSetO K) := ok_set_octets (F := F_Chip___set_octets) (T := T) (TC := TC)
  have C_changed_6 : Cal P w K mg base CX0 6 "changed" ["old", "new", "mask"] (spChanged K) := ⟨_, fd_changed, G_changed.le (by omega), g_changed, F_changed.kp, F_changed.bindsN fun _ _ _ _ _ _ us hl => match us, hl with | [_, _, _], _ => rfl⟩
  have M_Chip__bad_blocks_1 : CalM P w K mg base CX0 1 (Ch K) "bad_blocks" ["self"] (spBadB K) := ⟨_, fd_Chip__bad_blocks, G_Chip__bad_blocks.le (by omega), kc, He.meth_ok (c.fact 84 (f := .meth "Chip" "bad_blocks") rfl), F_Chip__bad_blocks.bindsN fun _ _ _ _ _ _ us hl => match us, hl with | [_], _ => rfl⟩
  have M_Chip___set_octets_1 : CalM P w K mg base CX0 1 (Ch K) "_set_octets" ["self", "block", "octets"] (spSetO K) := ⟨_, fd_Chip___set_octets, G_Chip___set_octets.le (by omega), kc, He.meth_ok (c.fact 85 (f := .meth "Chip" "_set_octets") rfl), F_Chip___set_octets.bindsN fun _ _ _ _ _ _ us hl => match us, hl with | [_, _, _], _ => rfl⟩
  have G_Chip___do_op : Fg P w K mg base (CX P w) 7 _ fd_Chip___do_op ["self", "block", "new"] (spDo K (He.ga K "PowerCut")) := ok_do_op (F := F_Chip___do_op) (T := T) (TC := TC) (E_PowerCut := E_PowerCut) (C_changed := C_changed_6) (M_Chip__bad_blocks := M_Chip__bad_blocks_1) (M_Chip___set_octets := M_Chip___set_octets_1)
  have C_is_octets_of_4 : Cal P w K mg base CX0 4 "is_octets_of" ["value", "count"] (spOctOf K) := ⟨_, fd_is_octets_of, G_is_octets_of.le (by omega), g_is_octets_of, F_is_octets_of.kp, F_is_octets_of.bindsN fun _ _ _ _ _ _ us hl => match us, hl with | [_, _], _ => rfl⟩
  have M_Chip___do_op_7 : CalM P w K mg base (CX P w) 7 (Ch K) "_do_op" ["self", "block", "new"] (spDo K (He.ga K "PowerCut")) := ⟨_, fd_Chip___do_op, G_Chip___do_op.le (by omega), kc, He.meth_ok (c.fact 86 (f := .meth "Chip" "_do_op") rfl), F_Chip___do_op.bindsN fun _ _ _ _ _ _ us hl => match us, hl with | [_, _, _], _ => rfl⟩
  have G_Chip__write : Fg P w K mg base (CX P w) 8 _ fd_Chip__write ["self", "block", "page", "octets"] (spWr K (He.ga K "PowerCut")) := ok_write (F := F_Chip__write) (T := T) (TC := TC) (M_Chip___check_block := M_Chip___check_block_3) (M_Chip___check_page := M_Chip___check_page_3) (C_is_octets_of := C_is_octets_of_4) (M_Chip___do_op := M_Chip___do_op_7)
  have G_Chip___check_plan : Fg P w K mg base CX0 3 _ fd_Chip___check_plan ["self", "op", "mask"] (spChkPl K) := ok_check_plan (F := F_Chip___check_plan) (T := T) (TC := TC) (C_is_int := C_is_int_1) (C_is_mask := C_is_mask_2)
  have M_Chip___check_plan_3 : CalM P w K mg base CX0 3 (Ch K) "_check_plan" ["self", "op", "mask"] (spChkPl K) := ⟨_, fd_Chip___check_plan, G_Chip___check_plan.le (by omega), kc, He.meth_ok (c.fact 88 (f := .meth "Chip" "_check_plan") rfl), F_Chip___check_plan.bindsN fun _ _ _ _ _ _ us hl => match us, hl with | [_, _, _], _ => rfl⟩
  have G_Chip__cut : Fg P w K mg base CX0 4 _ fd_Chip__cut ["self", "op", "mask"] (spCut K) := ok_cut (F := F_Chip__cut) (T := T) (TC := TC) (M_Chip___check_plan := M_Chip___check_plan_3)
  have G_Chip__erase : Fg P w K mg base (CX P w) 8 _ fd_Chip__erase ["self", "block"] (spEr K (He.ga K "PowerCut")) := ok_erase (F := F_Chip__erase) (T := T) (TC := TC) (M_Chip___check_block := M_Chip___check_block_3) (C__clean_block := C__clean_block_1) (M_Chip___do_op := M_Chip___do_op_7)
  have M_Chip__erase_8 : CalM P w K mg base (CX P w) 8 (Ch K) "erase" ["self", "block"] (spEr K (He.ga K "PowerCut")) := ⟨_, fd_Chip__erase, G_Chip__erase.le (by omega), kc, He.meth_ok (c.fact 90 (f := .meth "Chip" "erase") rfl), F_Chip__erase.bindsN fun _ _ _ _ _ _ us hl => match us, hl with | [_, _], _ => rfl⟩
  have M_Chip__write_8 : CalM P w K mg base (CX P w) 8 (Ch K) "write" ["self", "block", "page", "octets"] (spWr K (He.ga K "PowerCut")) := ⟨_, fd_Chip__write, G_Chip__write.le (by omega), kc, He.meth_ok (c.fact 87 (f := .meth "Chip" "write") rfl), F_Chip__write.bindsN fun _ _ _ _ _ _ us hl => match us, hl with | [_, _, _, _], _ => rfl⟩
  have G__law_done : Fg P w K mg base CX0 9 _ fd__law_done ["_law_chip", "_law_block", "_law_page_here", "_law_octets"] (spDone K (He.ga K "PowerCut")) := ok_done (F := F__law_done) (T := T) (xm := xm) (E_PowerCut := E_PowerCut) (M_Chip__erase := M_Chip__erase_8) (M_Chip__write := M_Chip__write_8)
  have C__law_without_1 : Cal P w K mg base CX0 1 "_law_without" ["_law_bits"] (spWo K) := ⟨_, fd__law_without, G__law_without.le (by omega), g__law_without, F__law_without.kp, F__law_without.bindsN fun _ _ _ _ _ _ us hl => match us, hl with | [_], _ => rfl⟩
  have N_Chip_4 : Mak P w K mg base CX0 4 "Chip" (Ch K) ["self", "blocks", "pages", "bad"] (spInitC K) := ⟨_, fd_Chip____init__, G_Chip____init__.le (by omega), He.mkr_ok (c.fact 92 (f := .mkr "Chip") rfl), gChip, F_Chip____init__.bindsN fun _ _ _ _ _ _ us hl => match us, hl with | [_, _, _, _], _ => rfl⟩
  have M_Chip__read_4 : CalM P w K mg base CX0 4 (Ch K) "read" ["self", "block", "page"] (spRead K) := ⟨_, fd_Chip__read, G_Chip__read.le (by omega), kc, He.meth_ok (c.fact 83 (f := .meth "Chip" "read") rfl), F_Chip__read.bindsN fun _ _ _ _ _ _ us hl => match us, hl with | [_, _, _], _ => rfl⟩
  have M_Chip__cut_4 : CalM P w K mg base CX0 4 (Ch K) "cut" ["self", "op", "mask"] (spCut K) := ⟨_, fd_Chip__cut, G_Chip__cut.le (by omega), kc, He.meth_ok (c.fact 89 (f := .meth "Chip" "cut") rfl), F_Chip__cut.bindsN fun _ _ _ _ _ _ us hl => match us, hl with | [_, _, _], _ => rfl⟩
  have C__law_done_9 : Cal P w K mg base CX0 9 "_law_done" ["_law_chip", "_law_block", "_law_page_here", "_law_octets"] (spDone K (He.ga K "PowerCut")) := ⟨_, fd__law_done, G__law_done.le (by omega), g__law_done, F__law_done.kp, F__law_done.bindsN fun _ _ _ _ _ _ us hl => match us, hl with | [_, _, _, _], _ => rfl⟩
  have C_sealed_8 : Cal P w K mg base CX0 8 "sealed" ["data"] (spSealed K) := ⟨_, fd_sealed, G_sealed.le (by omega), g_sealed, F_sealed.kp, F_sealed.bindsN fun _ _ _ _ _ _ us hl => match us, hl with | [_], _ => rfl⟩
  have G__law_two_right : Fg P w K mg base CX0 10 _ fd__law_two_right ["_law_box_here"] spTwo := ok_two (F := F__law_two_right) (T := T) (TC := TC) (C__law_take := C__law_take_1) (C__law_without := C__law_without_1) (N_Chip := N_Chip_4) (C__law_told_right := C__law_told_right_9) (M_Chip__read := M_Chip__read_4) (M_Chip__write := M_Chip__write_8) (M_Chip__cut := M_Chip__cut_4) (C__law_done := C__law_done_9) (C_sealed := C_sealed_8)
  have G__law_long : Fg P w K mg base CX0 2 _ fd__law_long ["_law_box_here"] spLong := ok_long (F := F__law_long) (T := T) (C__law_take := C__law_take_1)
  have C__law_long_2 : Cal P w K mg base CX0 2 "_law_long" ["_law_box_here"] spLong := ⟨_, fd__law_long, G__law_long.le (by omega), g__law_long, F__law_long.kp, F__law_long.bindsN fun _ _ _ _ _ _ us hl => match us, hl with | [_], _ => rfl⟩
  have G__law_mask : Fg P w K mg base CX0 3 _ fd__law_mask ["_law_box_here"] spMask := ok_mask (F := F__law_mask) (T := T) (C__law_take := C__law_take_1) (C__law_long := C__law_long_2)
  have G_Chip__fail : Fg P w K mg base CX0 4 _ fd_Chip__fail ["self", "op", "mask"] (spFail K) := ok_fail (F := F_Chip__fail) (T := T) (TC := TC) (M_Chip___check_plan := M_Chip___check_plan_3)
  have C__law_mask_3 : Cal P w K mg base CX0 3 "_law_mask" ["_law_box_here"] spMask := ⟨_, fd__law_mask, G__law_mask.le (by omega), g__law_mask, F__law_mask.kp, F__law_mask.bindsN fun _ _ _ _ _ _ us hl => match us, hl with | [_], _ => rfl⟩
  have M_Chip__fail_4 : CalM P w K mg base CX0 4 (Ch K) "fail" ["self", "op", "mask"] (spFail K) := ⟨_, fd_Chip__fail, G_Chip__fail.le (by omega), kc, He.meth_ok (c.fact 91 (f := .meth "Chip" "fail") rfl), F_Chip__fail.bindsN fun _ _ _ _ _ _ us hl => match us, hl with | [_, _, _], _ => rfl⟩
  have G__law_step_right : Fg P w K mg base CX0 10 _ fd__law_step_right ["_law_box_here", "_law_chip", "_law_block", "_law_pages", "_law_datas"] (spStep K) := ok_step (F := F__law_step_right) (T := T) (TC := TC) (C__law_mask := C__law_mask_3) (C__law_take := C__law_take_1) (M_Chip__cut := M_Chip__cut_4) (M_Chip__fail := M_Chip__fail_4) (M_Chip__read := M_Chip__read_4) (C__law_done := C__law_done_9) (C_sealed := C_sealed_8) (C__law_told_right := C__law_told_right_9) (C__law_page := C__law_page_2) (C_surplus := C_surplus_8)
  have C__law_step_right_10 : Cal P w K mg base CX0 10 "_law_step_right" ["_law_box_here", "_law_chip", "_law_block", "_law_pages", "_law_datas"] (spStep K) := ⟨_, fd__law_step_right, G__law_step_right.le (by omega), g__law_step_right, F__law_step_right.kp, F__law_step_right.bindsN fun _ _ _ _ _ _ us hl => match us, hl with | [_, _, _, _, _], _ => rfl⟩
  have G__law_chip_right : Fg P w K mg base CX0 11 _ fd__law_chip_right ["_law_box_here"] spChipR := ok_chipr (F := F__law_chip_right) (T := T) (TC := TC) (C__law_take := C__law_take_1) (N_Chip := N_Chip_4) (C__law_data := C__law_data_3) (C__law_step_right := C__law_step_right_10) (M_Chip__read := M_Chip__read_4)
  have G__law_box : Fg P w K mg base CX0 1 _ fd__law_box ["_law_great"] spBox := ok_box (F := F__law_box) (T := T)
  have G__law_cell : Fg P w K mg base CX0 1 _ fd__law_cell ["_law_script", "_law_k"] (spCell K) := ok_cell (F := F__law_cell) (T := T)
  have C__law_plain_right_10 : Cal P w K mg base CX0 10 "_law_plain_right" ["_law_box_here"] spPlain := ⟨_, fd__law_plain_right, G__law_plain_right.le (by omega), g__law_plain_right, F__law_plain_right.kp, F__law_plain_right.bindsN fun _ _ _ _ _ _ us hl => match us, hl with | [_], _ => rfl⟩
  have C__law_two_right_10 : Cal P w K mg base CX0 10 "_law_two_right" ["_law_box_here"] spTwo := ⟨_, fd__law_two_right, G__law_two_right.le (by omega), g__law_two_right, F__law_two_right.kp, F__law_two_right.bindsN fun _ _ _ _ _ _ us hl => match us, hl with | [_], _ => rfl⟩
  have C__law_chip_right_11 : Cal P w K mg base CX0 11 "_law_chip_right" ["_law_box_here"] spChipR := ⟨_, fd__law_chip_right, G__law_chip_right.le (by omega), g__law_chip_right, F__law_chip_right.kp, F__law_chip_right.bindsN fun _ _ _ _ _ _ us hl => match us, hl with | [_], _ => rfl⟩
  have C__law_box_1 : Cal P w K mg base CX0 1 "_law_box" ["_law_great"] spBox := ⟨_, fd__law_box, G__law_box.le (by omega), g__law_box, F__law_box.kp, F__law_box.bindsN fun _ _ _ _ _ _ us hl => match us, hl with | [_], _ => rfl⟩
  have C__law_cell_1 : Cal P w K mg base CX0 1 "_law_cell" ["_law_script", "_law_k"] (spCell K) := ⟨_, fd__law_cell, G__law_cell.le (by omega), g__law_cell, F__law_cell.kp, F__law_cell.bindsN fun _ _ _ _ _ _ us hl => match us, hl with | [_, _], _ => rfl⟩
  exact ok_law (F := F_law) (T := T) (C__law_plain_right := C__law_plain_right_10) (C__law_two_right := C__law_two_right_10) (C__law_chip_right := C__law_chip_right_11) (C__law_box := C__law_box_1) (C__law_cell := C__law_cell_1)
end K10
open PySem PySem.W PySem.Calls PyProof.Rows
theorem PySem.Challenge.cw_onewaybits_k10_whole_what_cuts_leave_holds : PySem.Challenge.rw_onewaybits_k10_whole_what_cuts_leave.Holds := by
  w_on; o_law
  refine HandSHeadRun.head_any (r := OpenLaw.row PySem.Challenge.rw_onewaybits_k10_whole_what_cuts_leave) (q := view (OpenLaw.row PySem.Challenge.rw_onewaybits_k10_whole_what_cuts_leave).prog [69]) (H := K10.hk) (ob := K10.ob) (M := 30000) (loose := K10.lns) (d := HandSHeadRun.topDef (OpenLaw.row PySem.Challenge.rw_onewaybits_k10_whole_what_cuts_leave).prog 69) (kwd := []) K10.ob_eq
    (by kernel_rfl) (fun s => by kernel_rfl) K10.run (by kernel_rfl) (by kernel_rfl) (by kernel_rfl) (by rfl) (by first | assumption | decide +kernel) (by decide +kernel) ⟨rfl, rfl, rfl, rfl, rfl, by decide +kernel⟩ ?hw ?hc
  case hw => w_witness2
  case hc =>
    refine VB.law_walk (l := PySem.Challenge.rw_onewaybits_k10_whole_what_cuts_leave) (n := 63) (k := 12) (x := "_law_script") (CX := L2.CX0) rfl (by decide) (by kernel_rfl) ⟨⟨rfl, by decide, by decide⟩, rfl⟩ ?F (fun _ _ _ _ z => z)
    intro w mg fa h Y G hmg0
    obtain ⟨K, KX, c⟩ := Y
    have hmg : mg ("law" : PySem.Str) = some (.ref fa) := by
      have e : (HandSHeadRun.topDef (OpenLaw.row PySem.Challenge.rw_onewaybits_k10_whole_what_cuts_leave).prog 69).name = ("law" : PySem.Str) := by kernel_rfl
      rw [← e]
      exact hmg0
    obtain ⟨fd, hb, hF⟩ := K10.facts (P := (PySem.Challenge.rw_onewaybits_k10_whole_what_cuts_leave).prog) (w := w) KX G hmg c
    exact ⟨K, fd, (K10.spLaw K), KX, hb, fun H a ns hl _ hS => ⟨a, ns, rfl, hS, by omega, fun _ => rfl⟩, hF⟩
