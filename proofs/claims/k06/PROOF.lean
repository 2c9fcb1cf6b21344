import PyProof.Rows.All
import Wide.All
import OpenK.AllK
import Wide.FinOn
import HandS.ForMost
import HandS.Evl
import HandS.IsInst
import HandS.Walk
import HandS.Conv
import HandS.TupMul
import HandS.WideBits
import HandS.Wide
import HandS.Defaults
import HandS.HeadHook2
import HandS.RaiseMore
import HandS.Zip
import HandS.Style
import HandS.SetFor
import HandS.Text
import PyProof.ReprText
import PyProof.Rows.StrJoinMade
import KE.KxField
import HandS.FStr
import HandS.Zip0
import KE.BitLaws
import HandS.Exc
import HandS.ExcOwn
import HandS.ExcInit
import HandS.ExcField
import HandS.TryMany
import HandS.Small
import HandS.TupAny
import HandS.RevRange
import PyProof.CallFns
import HandS.Head0
import HandS.Head1
import HandS.Head2
import HandS.HeadEnd
import HandS.HeadHook1
import HandS.HeadHook3
import HandS.HeadHook4
import HandS.TryOnly
import PyProof.AutoSeq1
import KE.DataMinMax
import PyProof.Rows.RuleB_small
import PyProof.P3Eq
import PySem.Challenge.RW_onewaybits_k06_whole_cut_again_and_done
set_option Elab.async false
set_option linter.all false
set_option maxRecDepth 100000
set_option maxHeartbeats 4000000
namespace VB
open PySem PySem.Spec PyProof.Rows L2

/-! ## 1. Room, and no display under way -/
structure Rm (k : Nat) (A : Around) : Prop where
  rm : Room k A
  gd : A.guards = some []
theorem Rm.le {j k : Nat} {A : Around} (r : Rm k A) (h : j ≤ k := by omega) : Rm j A := ⟨r.rm.mono h, r.gd⟩
theorem Rm.down {k : Nat} {A : Around} (r : Rm (k + 1) A) (e : Env) : Rm k (A.deeper e) := ⟨r.rm.deeper e, r.gd⟩

section
variable {P : Program} {w : World} {K : PySem.W.Frag} {mg : Str → Option Value} {base : Heap} {CX : CXT} {k : Nat}

/-- a def's promise, kept wherever there is room and no display is under way -/
structure Fg (P : Program) (w : World) (K : PySem.W.Frag) (mg : Str → Option Value) (base : Heap)
    (CX : CXT) (k : Nat) (f : Addr) (fd : FuncData) (ps : List Str) (sp : Sp) : Prop where
  cnt : ∀ vs H Q E, sp vs H Q E → vs.length = ps.length
  go : ∀ (A : Around) (outer : List Env) (s : Shared) (H : Hp) (args : Args) (us : List Value) (vs : List V)
    (Q : VK) (E : XK), Rm k A → Env0 P w K mg base A outer s H → BindsTo s fd args (ps.zip us) →
    Vals vs us → sp vs H Q E → codeAny (model P w) A (.call (.ref f) args) (CR CX outer P w H s Q E) s

theorem Fg.le {j : Nat} {f : Addr} {fd : FuncData} {ps : List Str} {sp : Sp}
    (F : Fg P w K mg base CX j f fd ps sp) (h : j ≤ k) : Fg P w K mg base CX k f fd ps sp :=
  ⟨F.cnt, fun A o s H a us vs Q E r => F.go A o s H a us vs Q E (r.le h)⟩

/-- a def by its body -/
theorem fg_of {x qual : Str} {params : Arguments} {body : List Stmt} {scope : Scope} {dvs : List V}
    {kws : List (Str × V)} {f : Addr} {fd : FuncData} {N ps : List Str} {sp : Sp}
    (F : FunD K x qual params body scope dvs kws f fd) (S : FnScope N ps scope)
    (cnt : ∀ vs H Q E, sp vs H Q E → vs.length = ps.length)
    (hb : ∀ (cdv : Value) (A : Around) (outer : List Env) (s : Shared) (H : Hp) (vs : List V) (Q : VK) (E : XK),
      Rm k (A.deeper (envOfC qual scope s.heap.objs.size f cdv)) → sp vs H Q E →
      ∃ t, PSs (cxOf CX P w K mg base N qual scope f cdv A outer s H E) body t ∧
        t { nx := fun _ H' => Q .non H', rt := Q } (start N vs) H) :
    Fg P w K mg base CX (k + 1) f fd ps sp := by
  obtain ⟨oc, od, dV, kV, doc, pm, an, cdv, ct, osl, rfl, lk, hcd, _, _⟩ := F.ex
  refine ⟨cnt, ?_⟩
  intro A outer s H args us vs Q E hr e0 hbind hv hsp
  have kin : K.In s.heap := e0.mod.kin.keeps (fun b o e => (e0.bs b o e).1)
  have nol : s.heap.NoLimit := e0.mod.nolimit.keeps (fun b o e => (e0.bs b o e).1)
  have hk : ∀ y ∈ ps.zip us, scope.names.lookup y.1 = some .local ∨
      (scope.names.lookup y.1 = some .cell ∧
        ((cellsFrom (s.heap.objs.size + 1) scope.names []).lookup y.1).isSome = true) := by
    rintro ⟨n, v⟩ hy
    cases S.par n (List.of_mem_zip hy).1 with
    | inl q => exact .inl q
    | inr q => exact .inr ⟨q, PySem.W.cellsFrom_some _ _ _ (.inl q)⟩
  refine codeAny_call_function hr.rm.depth (kin _ _ lk) rfl S.co S.gen rfl
    (PySem.W.codeRec_of kin hcd) (hbind _ _ _ _ (wpAny_newFunctionEnv_cells S.kind hk ?_))
  intro env he s1 x
  subst he
  refine ⟨nol.keeps x.toInCall.keep, codeAny_func ?_⟩
  obtain ⟨t, ht, hq⟩ := hb cdv A outer s H vs Q E (hr.down _) hsp
  have I := inv_start (CX := CX) (E := E) S hr.rm.hd e0 (cnt _ _ _ _ hsp) hv x
  refine wpAny_mono (ht.run [] s1 (start N vs) H _ I hq) ?_ (fun e s' hs => hs)
  intro fl s' hs
  cases fl with
  | ret u =>
    obtain ⟨v, σ', H', J, rv, q⟩ := hs
    exact ⟨v, H', J.os, J.bare, J.base, J.hok, rv, q⟩
  | next =>
    obtain ⟨σ', H', J, q⟩ := hs
    exact ⟨.non, H', J.os, J.bare, J.base, J.hok, rfl, q⟩
  | brk => exact (hs.choose_spec.choose_spec.2 : False).elim
  | cont => exact (hs.choose_spec.choose_spec.2 : False).elim

/-! ## 2. Calls by name -/
/-- a def of the module, told by its name -/
structure Cal (P : Program) (w : World) (K : PySem.W.Frag) (mg : Str → Option Value) (base : Heap)
    (CX : CXT) (k : Nat) (x : Str) (ps : List Str) (sp : Sp) : Prop where
  ex : ∃ (f : Addr) (fd : FuncData), Fg P w K mg base CX k f fd ps sp ∧ mg x = some (.ref f) ∧
    PySem.W.keepIn K (.ref f) = true ∧ Binds K fd ps []
/-- .. called with keywords -/
structure CalK (P : Program) (w : World) (K : PySem.W.Frag) (mg : Str → Option Value) (base : Heap)
    (CX : CXT) (k : Nat) (x : Str) (ps : List Str) (n : Nat) (ks : List Str)
    (g : List Value → List Value → List Value) (gV : List V → List V → List V) (sp : Sp) : Prop where
  ex : ∃ (f : Addr) (fd : FuncData), Fg P w K mg base CX k f fd ps sp ∧ mg x = some (.ref f) ∧
    PySem.W.keepIn K (.ref f) = true ∧ KBn K fd ps n ks g gV
end

section
variable {X : Cx} {CX : CXT} {k n : Nat} {ps ks : List Str} {sp : Sp} {E : XK} {x : Str} {p pos : Pos}
  {e : Expr} {es : List Expr} {kws : List Keyword} {t tk : TA}
  {g : List Value → List Value → List Value} {gV : List V → List V → List V}

/-- the end of a call, where the caller stands -/
theorem back {pins : List (Addr × Obj)} {σ : L2.St} {H : Hp} {s s' : Shared} {Q : VK} {E : XK} {r : Result}
    (hx : Passes CX X E) (I : Inv X pins σ H s) (hq : CR CX X.stack X.prog X.w H s Q E r s') :
    match r with
    | .ok (.ret u) => EP X pins σ Q u s'
    | .ok _ => False
    | .error e => X.xe e s' := by
  cases r with
  | error e => exact hx pins σ H s e s' I hq
  | ok fl =>
    cases fl with
    | ret u => exact I.after hq
    | next => exact hq
    | brk => exact hq
    | cont => exact hq

theorem enter {f : Addr} {fd : FuncData} {pins : List (Addr × Obj)} {σ : L2.St} {H : Hp} {s : Shared} {Q : VK}
    {args : Args} {us : List Value} {vs : List V} (F : Fg X.prog X.w X.K X.mg X.base CX k f fd ps sp)
    (hr : Rm k X.A) (hx : Passes CX X E) (I : Inv X pins σ H s) (hb : BindsTo s fd args (ps.zip us))
    (r : Vals vs us) (h : sp vs H Q E) :
    wpAny (model X.prog X.w) X.A (call (.ref f) args.pos args.kw) (EP X pins σ Q) X.xe s := by
  refine wpAny_call (codeAny_mono (F.go X.A X.stack s H args us vs Q E hr I.env0 hb r h) ?_)
  intro r s' hq
  have z := back hx I hq
  cases r with
  | error e => exact z
  | ok fl =>
    cases fl with
    | ret u => exact z
    | next => exact z.elim
    | brk => exact z.elim
    | cont => exact z.elim

theorem pe_cal (C : Cal X.prog X.w X.K X.mg X.base CX k x ps sp) (hr : Rm k X.A) (hx : Passes CX X E)
    (ha : PA X (e :: es) t) (hg : Gl X x := by rfl) (hdb : (x == ("__debug__" : Str)) = false := by decide)
    (he : starEach (e :: es) X.env = (false, eval e X.env) :: starEach es X.env := by rfl)
    (hpl : (backTo pos (starEach es X.env)).any (·.1) = false := by rfl) :
    PE X (.Call (.Name x p) (e :: es) [] pos) (tCall sp [] E t) := by
  obtain ⟨f, fd, F, hm, hk, hb⟩ := C.ex
  constructor
  intro pins s σ H Q I h
  refine wpAny_Call_Name_kw (ld_glob I hg hm ?_ hdb)
  refine PySem.W.callWith_K (h₀ := X.base) I.ok.mod.kin hk (thn (ha.run pos pins s σ H _ I h) ?_) he hpl
  rintro us s1 ⟨vs, H1, I1, r, q⟩
  have q : sp (vs ++ []) H1 Q E := q
  rw [List.append_nil] at q
  have l : (us ++ []).length = ps.length := by
    rw [List.append_nil, ← r.length]
    exact F.cnt _ _ _ _ q
  have b := hb s1 us I1.kIn l
  rw [List.append_nil] at b
  exact ⟨I1.kIn, enter (args := ⟨us, []⟩) F hr hx I1 b r q⟩

theorem pe_cal0 (C : Cal X.prog X.w X.K X.mg X.base CX k x ps sp) (hr : Rm k X.A) (hx : Passes CX X E)
    (hg : Gl X x := by rfl) (hdb : (x == ("__debug__" : Str)) = false := by decide) :
    PE X (.Call (.Name x p) [] [] pos) (tCall sp [] E tNil) := by
  obtain ⟨f, fd, F, hm, hk, hb⟩ := C.ex
  constructor
  intro pins s σ H Q I h
  have q : sp [] H Q E := h
  refine wpAny_Call_Name_kw (ld_glob I hg hm ?_ hdb)
  refine PySem.W.callWith_K0 I.kIn hk ?_
  have b := hb s [] I.kIn (F.cnt _ _ _ _ q)
  exact enter (args := ⟨[], []⟩) F hr hx I b .nil q

/-- f(k = v, ..): no value by position -/
theorem pe_calk (C : CalK X.prog X.w X.K X.mg X.base CX k x ps 0 ks g gV sp) (hr : Rm k X.A) (hx : Passes CX X E)
    (hkw : PK X kws tk) (hg : Gl X x := by rfl)
    (hall : (backToKw pos (keywordEach kws X.env)).all (·.1.isSome) = true := by rfl)
    (hks : (backToKw pos (keywordEach kws X.env)).filterMap (·.1) = ks := by rfl)
    (hdb : (x == ("__debug__" : Str)) = false := by decide)
    (hpl : ((backTo pos (starEach [] X.env)).any (·.1) || (backToKw pos (keywordEach kws X.env)).any (·.1.isNone)) = false := by rfl) :
    PE X (.Call (.Name x p) [] kws pos) (tCallN 0 ks.length sp gV E tNil tk) := by
  obtain ⟨f, fd, F, hm, hk, hb⟩ := C.ex
  constructor
  intro pins s σ H Q I h
  refine wpAny_Call_Name_kw (ld_glob I hg hm ?_ hdb)
  have h : tk σ H fun zs H2 => ([] : List V).length = 0 ∧ zs.length = ks.length ∧ sp (gV [] zs) H2 Q E := h
  refine PySem.W.callWith_KW0 (h₀ := X.base) I.ok.mod.kin hk hall (thn (hkw.run pos pins s σ H _ I h) ?_) hpl
  rintro ws s2 ⟨zs, H2, I2, rz, _, l2, q2⟩
  refine ⟨I2.kIn, ?_⟩
  rw [hks]
  exact enter (args := ⟨[], ks.zip ws⟩) F hr hx I2
    (hb.to s2 [] ws I2.kIn rfl (rz.length.symm.trans l2)) (hb.rel .nil rz) q2
/-- f(e, .., k = v, ..) -/
theorem pe_calpk (C : CalK X.prog X.w X.K X.mg X.base CX k x ps n ks g gV sp) (hr : Rm k X.A) (hx : Passes CX X E)
    (ha : PA X (e :: es) t) (hkw : PK X kws tk) (hg : Gl X x := by rfl)
    (hall : (backToKw pos (keywordEach kws X.env)).all (·.1.isSome) = true := by rfl)
    (hks : (backToKw pos (keywordEach kws X.env)).filterMap (·.1) = ks := by rfl)
    (hdb : (x == ("__debug__" : Str)) = false := by decide)
    (he : starEach (e :: es) X.env = (false, eval e X.env) :: starEach es X.env := by rfl)
    (hpl : ((backTo pos (starEach (e :: es) X.env)).any (·.1) || (backToKw pos (keywordEach kws X.env)).any (·.1.isNone)) = false := by rfl) :
    PE X (.Call (.Name x p) (e :: es) kws pos) (tCallN n ks.length sp gV E t tk) := by
  obtain ⟨f, fd, F, hm, hk, hb⟩ := C.ex
  constructor
  intro pins s σ H Q I h
  refine wpAny_Call_Name_kw (ld_glob I hg hm ?_ hdb)
  refine PySem.W.callWith_KW (h₀ := X.base) I.ok.mod.kin hk hall (thn (ha.run pos pins s σ H _ I h) ?_) hpl he
  rintro us s1 ⟨vs, H1, I1, r, q⟩
  refine thn (hkw.run pos pins s1 σ H1 _ I1 q) ?_
  rintro ws s2 ⟨zs, H2, I2, rz, l1, l2, q2⟩
  refine ⟨I2.kIn, ?_⟩
  rw [hks]
  exact enter (args := ⟨us, ks.zip ws⟩) F hr hx I2
    (hb.to s2 us ws I2.kIn (r.length.symm.trans l1) (rz.length.symm.trans l2)) (hb.rel r rz) q2
end

/-! ## 3. The law's own call -/
theorem first_call {P : Program} {w : World} {K : PySem.W.Frag} {mg mb : Str → Option Value} {CX : CXT} {k : Nat}
    {fa a : Addr} {fd : FuncData} {x : Str} {sp : Sp} {s : Shared} {vs : List Value} {ns : List Int}
    (KX : K.In s.heap) (hns : s.heap.Ns mainGlobals mg) (hb : s.heap.Ns builtinsNs mb)
    (hbb : ∀ x : Str, x ≠ "__name__" → mb x = bootBuiltins x) (hlim : s.heap.NoLimit) (hg : s.gens = #[])
    (ha : s.heap.get? a = some { cls := .type "list", data := .seq vs.toArray }) (hi : IntsAre vs ns)
    (hl : ns.length ≤ sizeLine) (hr : Rm k callerA)
    (F : ∀ base : Heap, K.In base → base.Ns mainGlobals mg → Fg P w K mg base CX k fa fd [x] sp)
    (hbind : ∀ (s : Shared) (u : Value), BindsTo s fd ⟨[u], []⟩ [(x, u)])
    (hsp : ∀ H : Hp, Only H → SqL K H a (ns.map V.int) → sp [.ref a] H (fun v _ => v = .bl true) fun _ _ _ => False)
    (hCX : ∀ H e s', CX [] H s (fun _ _ _ => False) e s' → False) :
    codeAny (model P w) callerA (.call (.ref fa) ⟨[.ref a], []⟩)
      (fun r s' => r = .ok (.ret (.bool true)) ∧ OldK s.heap s'.heap ∧ s'.os = s.os ∧ AllBare s'.gens) s := by
  -- what is tracked at first: the script at most
  let o : Obj := { cls := .type "list", data := .seq vs.toArray }
  have main : ∀ H : Hp, (∀ b, H b = none ∨ (b = a ∧ H b = some (.frz o (.lst (ns.map V.int))) ∧ K.lookup a = none)) →
      SqL K H a (ns.map V.int) → HOk P w H s.heap → codeAny (model P w) callerA (.call (.ref fa) ⟨[.ref a], []⟩)
      (fun r s' => r = .ok (.ret (.bool true)) ∧ OldK s.heap s'.heap ∧ s'.os = s.os ∧ AllBare s'.gens) s := by
    intro H hH hS hok
    have dictFree : ∀ {b : Addr} {ob : Obj} {es : Array DictEntry} {ep : Nat}, s.heap.get? b = some ob →
        ob.data = .dict es ep → H b = none := by
      intro b ob es ep e d
      rcases hH b with q | ⟨rfl, q, _⟩
      · exact q
      · rw [ha] at e
        cases e
        exact nomatch d
    have nsB : ∀ {b : Addr} {m : Str → Option Value}, s.heap.Ns b m → (hidT s.heap H).Ns b m := by
      rintro b m ⟨ob, es, ep, e, d, r⟩
      exact ⟨ob, es, ep, hidT_get e (dictFree e d), d, r⟩
    have kB : K.In (hidT s.heap H) := by
      intro b ob e
      refine hidT_get (KX b ob e) ?_
      rcases hH b with q | ⟨rfl, _, q⟩
      · exact q
      · rw [e] at q
        cases q
    have lim' : (hidT s.heap H).NoLimit := by
      obtain ⟨mc, h1, h2⟩ := hlim
      exact ⟨mc, nsB h1, h2⟩
    have md : Mod K mg (hidT s.heap H) := ⟨kB, nsB hns, ⟨mb, nsB hb, hbb⟩, lim'⟩
    have nob : ∀ b ∈ frs ([] : List Env), H b = none := fun b hb => by cases hb
    have e0 : Env0 P w K mg (hidT s.heap H) callerA [] s H :=
      ⟨rfl, md, fun b ob e => of_hidT e, Nat.le_of_eq (hidT_size _ _), trivial, nob, hok, .of_eq hg⟩
    have oH : Only H := by
      intro b
      rcases hH b with q | ⟨_, q, _⟩
      · exact .inl q
      · exact .inr ⟨_, _, q⟩
    have run := (F _ kB (nsB hns)).go callerA [] s H ⟨[.ref a], []⟩ [.ref a] [.ref a] _ _ hr e0
      (hbind s (.ref a)) (.cons rfl .nil) (hsp H oH hS)
    refine codeAny_mono run ?_
    intro r s' h
    match r, h with
    | .error e, h => exact (hCX H e s' h).elim
    | .ok .next, h => exact False.elim h
    | .ok .brk, h => exact False.elim h
    | .ok .cont, h => exact False.elim h
    | .ok (.ret u), h =>
      obtain ⟨v, H', os, bare, un, hok', rv, q⟩ := h
      have q : v = .bl true := q
      subst q
      have ru : u = Value.bool true := rv
      subst ru
      refine ⟨rfl, OldK.of_keep ?_, os, bare⟩
      intro b ob e
      rcases hH b with q | ⟨_, q, _⟩
      · exact un.keep b ob e q (fun z => by cases z) (fun z => by cases z)
      · obtain ⟨e1, _⟩ := hok b _ q
        obtain ⟨e2, _⟩ := hok' b _ (un.frzs b o _ q)
        rw [e] at e1
        cases e1
        exact e2
  have rv := vals_ints hi
  cases hk : K.lookup a with
  | some ob =>
    have e := KX a ob hk
    rw [ha] at e
    cases e
    refine main (fun _ => none) (fun b => .inl rfl) (.inr ⟨_, vs.toArray, _, hk, rfl, rfl, rfl, ?_, by simpa using rv⟩) (fun b u z => by cases z)
    rw [List.size_toArray, hi.length]
    exact hl
  | none =>
    let H1 : Hp := fun b => if b = a then some (.frz o (.lst (ns.map V.int))) else none
    have at1 : H1 a = some (.frz o (.lst (ns.map V.int))) := if_pos rfl
    refine main H1 ?_ (.inl (.inr ⟨o, at1⟩)) ?_
    · intro b
      by_cases hb : b = a
      · subst hb
        exact .inr ⟨rfl, at1, hk⟩
      · exact .inl (if_neg hb)
    · intro b u z
      by_cases hb : b = a
      · subst hb
        rw [at1] at z
        cases z
        exact ⟨ha, by rw [List.length_map]; exact hl, vs, _, rv, ha⟩
      · have z' : H1 b = none := if_neg hb
        rw [z'] at z
        cases z

/-- the goal behind the head -/
theorem law_walk {l : PySem.W.OpenLaw} {n k : Nat} {q : Program} {loose : List Str} {XP : (Str → Option Value) → Heap → Prop}
    {YP : World → Heap → Prop} {d : DefRec} {CX : CXT} {x : Str}
    (hn : l.most = some n) (hn2 : n ≤ sizeLine) (hdf : d.params.defaults = []) (hr : Rm k callerA)
    (F : ∀ (w : World) (mg : Str → Option Value) (fa : Addr) (h : Heap), YP w h → h.Ns mainGlobals mg → mg d.name = some (.ref fa) →
      ∃ (K : PySem.W.Frag) (fd : FuncData) (sp : Sp), K.In h ∧ (∀ (s : Shared) (u : Value), BindsTo s fd ⟨[u], []⟩ [(x, u)]) ∧
        (∀ (H : Hp) (a : Addr) (ns : List Int), ns.length ≤ n → Only H → SqL K H a (ns.map V.int) →
          sp [.ref a] H (fun v _ => v = .bl true) fun _ _ _ => False) ∧
        ∀ base : Heap, K.In base → base.Ns mainGlobals mg → Fg l.prog w K mg base CX k fa fd [x] sp)
    (hCX : ∀ (H : Hp) (s : Shared) (e : Value) (s' : Shared), CX [] H s (fun _ _ _ => False) e s' → False) :
    PySem.W.WalkO q loose XP YP l.row.toRowW d [] (fun f vs => PySem.call f vs) := by
  refine Att.attach_call hn hdf ?_
  intro w s₀ s₁ mg mb fa o pm cd doc a vs ns G Y ho hd hcd hmg hobj hints hlen hg
  obtain ⟨K, fd, sp, KX, hb, hsp, hF⟩ := F w mg fa _ Y G.T.g hmg
  exact first_call KX G.T.g G.T.b G.T.builtins G.T.nolimit hg hobj hints (Nat.le_trans hlen hn2) hr hF hb
    (fun H hO hS => hsp H a ns hlen hO hS) (fun H e s' => hCX H s₁ e s')
end VB
namespace VB
open PySem PySem.Spec PyProof.Rows L2
mutual
theorem dp_noDict {K : PySem.W.Frag} {H : Hp} : ∀ {d : PyData} {v : V}, Dp K H v d → d.hasDict = false
  | .none, _, _ => by simp only [PyData.hasDict]
  | .bool _, _, _ => by simp only [PyData.hasDict]
  | .int _, _, _ => by simp only [PyData.hasDict]
  | .str _, _, _ => by simp only [PyData.hasDict]
  | .list ds, _, .lst _ h => by
    simp only [PyData.hasDict]
    exact dpAll_noDict h
  | .tuple ds, _, .tup _ h => by
    simp only [PyData.hasDict]
    exact dpAll_noDict h
  | .dict _, _, h => nomatch h
theorem dpAll_noDict {K : PySem.W.Frag} {H : Hp} : ∀ {ds : List PyData} {vs : List V}, DpAll K H vs ds → PyData.hasDictAll ds = false
  | [], _, _ => by simp only [PyData.hasDictAll]
  | d :: ds, _, .cons h t => by simp only [PyData.hasDictAll, dp_noDict h, dpAll_noDict t, Bool.or_self]
end
section
variable {X : Cx} {k : Nat}
/-- repr(x), x data of any depth without dicts -/
@[irreducible] def rRepr (K : PySem.W.Frag) : List V → Hp → VK → Prop := fun xs H Q => ∃ (a : Addr) (d : PyData), xs = [.ref a] ∧
  Dp K H (.ref a) d ∧ d.showable = true ∧ d.depth ≤ 60 ∧ d.shown.length ≤ sizeLine ∧ Q (.str d.shown) H
theorem call_repr (hr : Rm k X.A) : CallR X (.builtin "repr") (rRepr X.K) := by
  intro pins s σ H xs us Q I r h
  unfold rRepr at h
  obtain ⟨a, d, rfl, hd, hs, hdep, hl, q⟩ := h
  obtain ⟨u, rfl, ru⟩ := vals1 r
  obtain ⟨as, rd⟩ := Dp.reads I d _ u hd ru
  cases (show u = Value.ref a from ru)
  have hu := hr.rm.un
  refine repr_of_reads' rd hs (PyData.noDict_hsm (dp_noDict hd)) hr.gd (by omega) (fun _ _ e => e) ?_ hl
  intro h' u tk kp
  refine ⟨.str d.shown, H, ?_, ⟨u, rfl⟩, q⟩
  exact I.un (Un.kept kp) (I.hok.kept kp)
end
end VB
namespace VB
open PySem PySem.Spec PyProof.Rows L2
section
variable {X : Cx} {K : PySem.W.Frag}
def rAddU (K : PySem.W.Frag) : R2 := fun x y H Q => rI0 (fun i j => .int (i + j)) x y H Q ∨ (rCat x y H Q ∨ rCatT K x y H Q)
theorem u_add (hK : X.K = K := by rfl) : OpR X (binaryOp .Add) (rAddU K) := by
  subst hK
  exact op_add.or (op_cat.or op_catT)
def rMulU (K : PySem.W.Frag) : R2 := fun x y H Q => rI CMulX (fun i j => .int (i * j)) x y H Q ∨ (rRep x y H Q ∨ rRepT K x y H Q)
theorem u_mul (hK : X.K = K := by rfl) : OpR X (binaryOp .Mult) (rMulU K) := by
  subst hK
  exact op_mulX.or (op_rep.or op_repT)
def rEqU (K : PySem.W.Frag) : R2 := fun x y H Q => rEq x y H Q ∨ rEqD K x y H Q
theorem u_eq {k : Nat} (hr : Rm k X.A) (hK : X.K = K := by rfl) : OpR X (compareOp .Eq) (rEqU K) := by
  subst hK
  exact op_eq.or (op_eqD hr.rm.units)
def rNeU (K : PySem.W.Frag) : R2 := fun x y H Q => rNe x y H Q ∨ rNeD K x y H Q
theorem u_ne {k : Nat} (hr : Rm k X.A) (hK : X.K = K := by rfl) : OpR X (compareOp .NotEq) (rNeU K) := by
  subst hK
  exact op_ne.or (op_neD hr.rm.units)
def rSlU (K : PySem.W.Frag) : V → Option Int → Option Int → Hp → VK → Prop := fun x lo hi H Q => rSlL K x lo hi H Q ∨ (rSlT K x lo hi H Q ∨ rSlS x lo hi H Q)
theorem u_sl (hK : X.K = K := by rfl) : SlR X (rSlU K) := by
  subst hK
  exact sl_list.or (sl_tup.or sl_str)
theorem u_ix (hK : X.K = K := by rfl) : IxR X (rIx K) := by
  subst hK
  exact ix_seq
theorem u_in (hK : X.K = K := by rfl) : OpR X (compareOp .In) (rIn K false) := by
  subst hK
  exact op_in_seq
theorem u_notin (hK : X.K = K := by rfl) : OpR X (compareOp .NotIn) (rIn K true) := by
  subst hK
  exact op_notIn_seq
def rLenU (K : PySem.W.Frag) : List V → Hp → VK → Prop := fun xs H Q => ∃ x n, xs = [x] ∧ LenV K x H n ∧ Q (.int n) H
theorem u_len (hK : X.K = K := by rfl) : CallR X (.builtin "len") (rLenU K) := by
  subst hK
  exact call_len
theorem u_isi (hK : X.K = K := by rfl) : CallR X (.builtin "isinstance") (rIsi K) := by
  subst hK
  exact call_isi
theorem u_isiT (hK : X.K = K := by rfl) : CallR X (.builtin "isinstance") (rIsiT K) := by
  subst hK
  exact call_isiT
theorem u_sum (hc : X.calm = true) (hK : X.K = K := by rfl) : CallR X (.builtin "sum") (rSum K) := by
  subst hK
  exact cr_sum hc
theorem u_all (hc : X.calm = true) (hK : X.K = K := by rfl) : CallR X (.builtin "all") (rAll K) := by
  subst hK
  exact cr_all hc
theorem u_any (hc : X.calm = true) (hK : X.K = K := by rfl) : CallR X (.builtin "any") (rAny K) := by
  subst hK
  exact cr_any hc
theorem u_repr {k : Nat} (hr : Rm k X.A) (hK : X.K = K := by rfl) : CallR X (.builtin "repr") (rRepr K) := by
  subst hK
  exact call_repr hr
def rListU (K : PySem.W.Frag) : List V → Hp → VK → Prop := fun xs H Q => ∃ p ys, xs = [.ref p] ∧ (SqL K H p ys ∨ SqT K H p ys) ∧ ∀ l, H l = none → Q (.ref l) (upd H l (.lst ys))
theorem u_list (hK : X.K = K := by rfl) : CallR X (.type "list") (rListU K) := by
  subst hK
  exact call_list_of
def rTupU (K : PySem.W.Frag) : List V → Hp → VK → Prop := fun xs H Q => ∃ p ys, xs = [.ref p] ∧ ((SqL K H p ys ∧ ∀ l, H l = none → Q (.ref l) (upd H l (.tup ys))) ∨ (SqT K H p ys ∧ Q (.ref p) H))
theorem u_tup (hK : X.K = K := by rfl) : CallR X (.type "tuple") (rTupU K) := by
  subst hK
  exact call_tuple_of
theorem u_count (hK : X.K = K := by rfl) : MtR X "list.count" (rCntI K) := by
  subst hK
  exact mt_lcount
def tTru (K : PySem.W.Frag) (ta : TE) : TT := fun σ H Q => ta σ H fun x H' => ∃ k, TruV K x H' k ∧ Q k H'
theorem pt_tru {a : Expr} {ta : TE} (ha : PE X a ta) (he : ∀ whole, isTrue a X.env whole = (do let v ← whole; standAt a.pos; holding [v] (truthy v))) (hK : X.K = K := by rfl) : PT X a (tTru K ta) := by
  subst hK
  exact pt_truth ha he
theorem pi_either {tg iter : Expr} {a b : TI} (h : PI X tg iter a) (h' : PI X tg iter b) : PI X tg iter (fun σ H R => a σ H R ∨ b σ H R) := by
  constructor
  intro pins s σ H R I q
  rcases q with q | q
  · exact h.run pins s σ H R I q
  · exact h'.run pins s σ H R I q
def iSeq (K : PySem.W.Frag) (t : TE) : TI := fun σ H R => iList K t σ H R ∨ iTup K t σ H R
theorem pi_seq {tg e : Expr} {t : TE} (h : PE X e t) (hK : X.K = K := by rfl) : PI X tg e (iSeq K t) := by
  subst hK
  exact pi_either (pi_list h) (pi_tup h)
theorem pi_enu {e : Expr} {ta : TA} {p pos tpos : Pos} {elts : List Expr} {kk : Nat} (hg : Gl X "enumerate") (hm : X.mg "enumerate" = none) (ha : PA X [e] ta) (hK : X.K = K := by rfl)
    (hs : starEach [e] X.env = (false, eval e X.env) :: starEach [] X.env := by rfl) : PI X (.Tuple elts kk tpos) (.Call (.Name "enumerate" p) [e] [] pos) (iEnum K ta) := by
  subst hK
  exact pi_enum hg hm ha hs
theorem pg_tupU {es : List Expr} {k : Nat} {t : TGs} {n : Nat} {pos : Pos} (hc : X.calm = true) (h : PGs X es t) (hK : X.K = K := by rfl)
    (hn : (assignEach es X.env).length = n := by rfl) (hst : (assignEach es X.env).findIdx? (·.1) = none := by rfl) : PG X (.Tuple es k pos) (gTup K n t) := by
  subst hK
  exact pg_tup hc h hn hst
/-- an int's remainder and quotient by a positive one, as they are -/
theorem fmodE {a b : Int} (h : 0 ≤ b := by decide) : a.fmod b = a % b := Int.fmod_eq_emod_of_nonneg a h
theorem fdivE {a b : Int} (h : 0 ≤ b := by decide) : a.fdiv b = a / b := Int.fdiv_eq_ediv_of_nonneg a h
/-- by a positive divisor -/
theorem u_mod : OpR X (binaryOp .Mod) (rI (fun _ j => 0 < j) fun i j => .int (i % j)) := by
  intro pins s σ H x y v u Q I rx ry h
  obtain ⟨i, j, rfl, rfl, hj, q⟩ := h
  refine op_modN pins s σ H _ _ v u Q I rx ry ⟨i, j, rfl, rfl, by omega, ?_⟩
  show Q (.int (i.fmod j)) H
  rw [fmodE (by omega)]
  exact q
theorem u_fdiv : OpR X (binaryOp .FloorDiv) (rI (fun _ j => 0 < j ∧ j < 1073741824) fun i j => .int (i / j)) := by
  intro pins s σ H x y v u Q I rx ry h
  obtain ⟨i, j, rfl, rfl, hj, q⟩ := h
  refine op_fdivN pins s σ H _ _ v u Q I rx ry ⟨i, j, rfl, rfl, ⟨by omega, by omega⟩, ?_⟩
  show Q (.int (i.fdiv j)) H
  rw [fdivE (by omega)]
  exact q
end
end VB
namespace VB
/-- what follows, shown once for several ways -/
theorem once {R G : Prop} (main : R → G) (rest : R) : G := main rest
end VB
/-! sequences: lists and tuples alike -/
namespace VB
open PySem PySem.Spec PyProof.Rows L2
/-- a list (false) or a tuple (true) of the values xs -/
def Sv (t : Bool) (K : PySem.W.Frag) (H : Hp) (a : Addr) (xs : List V) : Prop := match t with
  | false => SqL K H a xs
  | true => SqT K H a xs
section
variable {K : PySem.W.Frag} {H H' : Hp} {a : Addr} {xs : List V} {t : Bool}
theorem Sv.ex (h : Sv t K H a xs) (e : Evl.Ex H H') : Sv t K H' a xs := by
  cases t with
  | false => exact Evl.ex_l e (show SqL K H a xs from h)
  | true => exact Evl.ex_t e (show SqT K H a xs from h)
theorem Sv.lst (h : H a = some (.lst xs)) : Sv false K H a xs := SqL.of h
theorem Sv.tup (h : H a = some (.tup xs)) : Sv true K H a xs := SqT.of h
/-- a walk over what stands in a slot -/
theorem seq_var {i : Nat} {σ : L2.St} {R : It → Hp → Prop} (e : σ[i]? = some (some (.ref a))) (S : Sv t K H a xs)
    (h : ∀ J, Walk J xs.length (fun H => Sv t K H a xs) (YAt xs) → R J H) : iSeq K (tVar i) σ H R := by
  cases t with
  | false => exact .inl ⟨_, e, a, rfl, ⟨xs, S⟩, h _ walk_list⟩
  | true => exact .inr ⟨_, e, a, rfl, ⟨xs, S⟩, h _ walk_tup⟩
theorem Sv.len (S : Sv t K H a xs) : LenV K (.ref a) H xs.length := by
  cases t with
  | false => exact .inl ⟨xs, S, rfl⟩
  | true => exact .inr ⟨xs, S, rfl⟩
theorem Sv.ix {x v : V} {i : Int} {Q : VK} (S : Sv t K H a xs) (h : atI xs i = some v) (q : Q v H) : rIx K (.ref a) (.int i) H Q := by
  cases t with
  | false => exact .inl ⟨a, xs, i, v, rfl, rfl, S, h, q⟩
  | true => exact .inr (.inl ⟨a, xs, i, v, rfl, rfl, S, h, q⟩)
theorem Sv.either (S : Sv t K H a xs) : SqL K H a xs ∨ SqT K H a xs := by
  cases t with
  | false => exact .inl S
  | true => exact .inr S
end
/-- a range by a step upward -/
theorem rg_up {n c : Int} (hn : 0 ≤ n) (hn2 : n < 1000000) (hc : 0 < c) (hc2 : c < 1000000) : RgC 0 n c ((n + c - 1) / c).toNat := by
  refine ⟨by omega, by omega, ?_, ?_⟩
  · have z := PyProof.Rows.rangeSize_pos (len := n) (c := c) (by omega) hn
    have d : 0 ≤ (n + c - 1) / c := Int.ediv_nonneg (by omega) (by omega)
    have d2 : (n + c - 1) / c ≤ n + c - 1 := Int.ediv_le_self _ (by omega)
    have d3 : (n + c - 1) / c * c ≤ n + c - 1 := Int.ediv_mul_le _ (by omega)
    unfold Builtin.Range.small
    rw [z]
    simp only [Builtin.Range.rangeFitsLong, Bool.and_eq_true, Bool.or_eq_true, decide_eq_true_eq, beq_iff_eq, hc, gt_iff_lt, if_true]
    omega
  · have d : 0 ≤ (n + c - 1) / c := Int.ediv_nonneg (by omega) (by omega)
    rw [PyProof.Rows.rangeSize_pos (by omega) hn]
    omega
/-- the promises' shapes: a new list, a new tuple, a value; what stood stands -/
abbrev RL (xs : List V) (H : Hp) (Q : VK) : Prop := ∀ (p : Addr) (H' : Hp), H p = none → Evl.Ex H H' → H' p = some (.lst xs) → Q (.ref p) H'
abbrev RT (xs : List V) (H : Hp) (Q : VK) : Prop := ∀ (p : Addr) (H' : Hp), H p = none → Evl.Ex H H' → H' p = some (.tup xs) → Q (.ref p) H'
abbrev RV (v : V) (H : Hp) (Q : VK) : Prop := ∀ H' : Hp, Evl.Ex H H' → Q v H'
/-- ints as values -/
abbrev IV (ns : List Int) : List V := ns.map V.int
theorem iv_get {ns : List Int} {i : Nat} {x : V} (h : (IV ns)[i]? = some x) : ∃ n, ns[i]? = some n ∧ x = .int n := by
  rw [List.getElem?_map] at h
  cases e : ns[i]? with
  | none => rw [e] at h; cases h
  | some n =>
    rw [e] at h
    exact ⟨n, rfl, (Option.some.inj h).symm⟩
theorem iv_at {ns : List Int} {i : Nat} {n : Int} (h : ns[i]? = some n) : atI (IV ns) (i : Int) = some (.int n) := by
  apply atI_nat
  rw [List.getElem?_map, h]
  rfl
theorem iv_len (ns : List Int) : (IV ns).length = ns.length := List.length_map ..
theorem iv_snoc (ns : List Int) (n : Int) : IV ns ++ [V.int n] = IV (ns ++ [n]) := by simp
theorem take_snoc {α : Type} {l : List α} {i : Nat} {x : α} (h : l[i]? = some x) : l.take (i + 1) = l.take i ++ [x] := by
  rw [List.take_add_one, h]
  rfl
/-- a comprehension over a range that changes nothing: us its items -/
theorem lc_pureR {n j : Nat} {us : List Int} {te : TE} {vs : List Nat} {σ : L2.St} {H1 : Hp} {D : Addr} {Qd : Hp → Prop} (hl : us.length = n) (hz : n ≤ 60000) (hD : H1 D = none)
    (hw : ∀ x, wipe ((wipe σ vs).set j x) vs = wipe σ vs)
    (hs : ∀ (i : Nat) (u : Int) (H : Hp) (Q : VK), us[i]? = some u → Evl.Ex H1 H → (∀ H' : Hp, Evl.Ex H H' → Q (.int u) H') → te ((wipe σ vs).set j (some (.int (i : Int)))) H Q)
    (hd : ∀ H, Evl.Ex H1 H → H D = some (.lst (IV us)) → Qd H) :
    ∃ W : Nat → Nat → Hp → Prop, (∃ m, W 0 m (upd H1 D (.lst []))) ∧ ∀ i m H, W i m H →
      ((Itr 0 n).stop i H ∧ Qd H) ∨ ((Itr 0 n).go i H ∧ ∃ Nx : Hp → Prop, (∀ H', Nx H' → ∃ m', m' < m ∧ W (i + 1) m' H') ∧ ∀ x H', (Itr 0 n).yld i H x H' →
        gName j x (wipe σ vs) H' fun σ2 H2 => wipe σ2 vs = wipe σ vs ∧ tYes σ2 H2 fun b H3 =>
        if b = true then te σ2 H3 fun y H4 => ∃ acc, H4 D = some (.lst acc) ∧ acc.length < sizeLine ∧ Nx (upd H4 D (.lst (acc ++ [y]))) else Nx H3) := by
  refine lc_range (lo := 0) (n := n) (fun i H' => Evl.Ex H1 H' ∧ i ≤ n ∧ H' D = some (.lst (IV (us.take i)))) ⟨Evl.Ex.new hD, Nat.zero_le _, upd_same⟩ ?_ ?_
  · rintro i H hi ⟨e1, hi2, h1⟩
    have e0 : (0 : Int) + (i : Int) = (i : Int) := Int.zero_add _
    rw [e0]
    refine ⟨hw _, ?_⟩
    obtain ⟨u, hu⟩ : ∃ u, us[i]? = some u := ⟨us[i]'(by omega), by simp [show i < us.length by omega]⟩
    show te _ H _
    refine hs i u H _ hu e1 fun H' e2 => ⟨_, e2 D _ h1, ?_, Evl.Ex.mut (e1.trans e2) hD, by omega, ?_⟩
    · rw [iv_len, List.length_take]
      exact Evl.sz_lt (by omega)
    · rw [upd_same, iv_snoc, take_snoc hu]
  · rintro H ⟨e1, _, h1⟩
    refine hd H e1 ?_
    rw [h1, ← hl, List.take_length]
/-- .. over a sequence -/
theorem lc_pureS {J : It} {G : Hp → Prop} {n j : Nat} {us : List Int} {xs : List V} {te : TE} {vs : List Nat} {σ : L2.St} {H1 : Hp} {D : Addr} {Qd : Hp → Prop} (wk : Walk J n G (YAt xs)) (hG : ∀ H, Evl.Ex H1 H → G H)
    (hl : us.length = n) (hz : n ≤ 60000) (hD : H1 D = none) (hw : ∀ x, wipe ((wipe σ vs).set j x) vs = wipe σ vs)
    (hs : ∀ (i : Nat) (x : V) (u : Int) (H : Hp) (Q : VK), xs[i]? = some x → us[i]? = some u → Evl.Ex H1 H → (∀ H' : Hp, Evl.Ex H H' → Q (.int u) H') → te ((wipe σ vs).set j (some x)) H Q)
    (hd : ∀ H, Evl.Ex H1 H → H D = some (.lst (IV us)) → Qd H) :
    ∃ W : Nat → Nat → Hp → Prop, (∃ m, W 0 m (upd H1 D (.lst []))) ∧ ∀ i m H, W i m H →
      (J.stop i H ∧ Qd H) ∨ (J.go i H ∧ ∃ Nx : Hp → Prop, (∀ H', Nx H' → ∃ m', m' < m ∧ W (i + 1) m' H') ∧ ∀ x H', J.yld i H x H' →
        gName j x (wipe σ vs) H' fun σ2 H2 => wipe σ2 vs = wipe σ vs ∧ tYes σ2 H2 fun b H3 =>
        if b = true then te σ2 H3 fun y H4 => ∃ acc, H4 D = some (.lst acc) ∧ acc.length < sizeLine ∧ Nx (upd H4 D (.lst (acc ++ [y]))) else Nx H3) := by
  refine lc_it wk (fun i H' => Evl.Ex H1 H' ∧ i ≤ n ∧ H' D = some (.lst (IV (us.take i)))) ⟨Evl.Ex.new hD, Nat.zero_le _, upd_same⟩ (fun i H _ h => hG H h.1) ?_ ?_
  · rintro i x H H' hi ⟨e1, hi2, h1⟩ ⟨rfl, hx⟩
    refine ⟨hw _, ?_⟩
    obtain ⟨u, hu⟩ : ∃ u, us[i]? = some u := ⟨us[i]'(by omega), by simp [show i < us.length by omega]⟩
    show te _ H' _
    refine hs i x u H' _ hx hu e1 fun H'' e2 => ⟨_, e2 D _ h1, ?_, Evl.Ex.mut (e1.trans e2) hD, by omega, ?_⟩
    · rw [iv_len, List.length_take]
      exact Evl.sz_lt (by omega)
    · rw [upd_same, iv_snoc, take_snoc hu]
  · rintro H ⟨e1, _, h1⟩
    refine hd H e1 ?_
    rw [h1, ← hl, List.take_length]
end VB
/-! data of ints: what stands, what repr shows, what == says -/
namespace VB
open PySem PySem.Spec PyProof.Rows L2
abbrev DL (ns : List Int) : PyData := .list (ns.map .int)
abbrev DT (ns : List Int) : PyData := .tuple (ns.map .int)
section
variable {K : PySem.W.Frag} {H H' : Hp} {a : Addr} {ns : List Int} {t : Bool}
theorem dpAll_ints : ∀ ns : List Int, DpAll K H (IV ns) (ns.map .int)
  | [] => .nil
  | n :: ns => .cons (.int n) (dpAll_ints ns)
theorem dp_l (h : SqL K H a (IV ns)) : Dp K H (.ref a) (DL ns) := .lst h (dpAll_ints ns)
theorem dp_t (h : SqT K H a (IV ns)) : Dp K H (.ref a) (DT ns) := .tup h (dpAll_ints ns)
end
/-- what can be shown, its depth and its text's length bounded -/
structure Sh (d : PyData) (h b : Nat) : Prop where
  ok : d.showable = true
  dep : d.depth ≤ h
  len : d.shown.length ≤ b
theorem Sh.le {d : PyData} {h b h' b' : Nat} (s : Sh d h b) (h1 : h ≤ h' := by omega) (h2 : b ≤ b' := by omega) : Sh d h' b' :=
  ⟨s.ok, Nat.le_trans s.dep h1, Nat.le_trans s.len h2⟩
theorem pow2_lt : ∀ n : Nat, n < 2 ^ n
  | 0 => by decide
  | n + 1 => by
    have := pow2_lt n
    rw [Nat.pow_succ]
    omega
theorem log2_le_self (n : Nat) : n.log2 ≤ n := by
  by_cases h : n = 0
  · subst h
    decide
  · have q := Nat.log2_self_le h
    have p := pow2_lt n.log2
    omega
theorem sh_int {n : Int} (h : 0 ≤ n ∧ n < 10000 ∧ n.natAbs.log2 < 1920) : Sh (.int n) 0 4 := by
  refine ⟨by simp only [PyData.showable, decide_eq_true_eq]; exact h.2.2, by simp only [PyData.depth]; exact Nat.le_refl _, ?_⟩
  rw [PyData.shown_int]
  exact toString_length_le h.1 (by decide) (by omega)
theorem log_small {n : Int} (h : 0 ≤ n) (h2 : n < 10000) : n.natAbs.log2 < 1920 := by
  by_cases z : n.natAbs = 0
  · rw [z]
    decide
  · have q := Nat.log2_lt z (k := 1920)
    refine q.mpr (Nat.lt_of_lt_of_le (m := 2 ^ 14) (by omega) (Nat.pow_le_pow_right (by decide) (by decide)))
theorem piled_le {b : Nat} : ∀ ts : List Str, (∀ t ∈ ts, t.length ≤ b) → piled ts ≤ (b + 2) * ts.length
  | [], _ => Nat.zero_le _
  | t :: ts, h => by
    have a := h t (List.mem_cons_self ..)
    have c := piled_le ts fun u hu => h u (List.mem_cons_of_mem _ hu)
    rw [piled_cons, List.length_cons, Nat.mul_succ]
    omega
theorem join_le {b : Nat} (ts : List Str) (h : ∀ t ∈ ts, t.length ≤ b) : (Str.join ", " ts).length ≤ (b + 2) * ts.length := by
  by_cases z : ts = []
  · subst z
    exact Nat.zero_le _
  · have j := join_length_add ts z
    have p := piled_le ts h
    omega
theorem mem_shown {x : Str} : ∀ {ds : List PyData}, x ∈ PyData.shownAll ds → ∃ d ∈ ds, x = d.shown
  | [], h => by
    rw [PyData.shownAll_nil] at h
    cases h
  | d :: ds, h => by
    rw [PyData.shownAll_cons] at h
    cases h with
    | head => exact ⟨d, List.mem_cons_self .., rfl⟩
    | tail _ h =>
      obtain ⟨e, he, q⟩ := mem_shown h
      exact ⟨e, List.mem_cons_of_mem _ he, q⟩
theorem depAll {h : Nat} : ∀ {ds : List PyData}, (∀ d ∈ ds, d.depth ≤ h) → PyData.depthAll ds ≤ h
  | [], _ => by simp only [PyData.depthAll]; exact Nat.zero_le _
  | d :: ds, q => by
    simp only [PyData.depthAll]
    exact Nat.max_le.mpr ⟨q d (List.mem_cons_self ..), depAll fun e he => q e (List.mem_cons_of_mem _ he)⟩
theorem str_app (a b : Str) : (a ++ b).length = a.length + b.length := by
  exact strLen_append a b
theorem sh_list {ds : List PyData} {h b n : Nat} (q : ∀ d ∈ ds, Sh d h b) (hn : ds.length ≤ n) : Sh (.list ds) (h + 1) ((b + 2) * n + 4) := by
  refine ⟨?_, ?_, ?_⟩
  · simp only [PyData.showable]
    exact PySem.Spec.showableAll_of fun d hd => (q d hd).ok
  · simp only [PyData.depth]
    exact Nat.succ_le_succ (depAll fun d hd => (q d hd).dep)
  · rw [PyData.shown_list, str_app, str_app]
    have j := join_le (b := b) (PyData.shownAll ds) (by
      intro t ht
      obtain ⟨d, hd, rfl⟩ := mem_shown ht
      exact (q d hd).len)
    rw [PyData.shownAll_length] at j
    have l1 : ("[" : Str).length = 1 := by decide
    have l2 : ("]" : Str).length = 1 := by decide
    have m : (b + 2) * ds.length ≤ (b + 2) * n := Nat.mul_le_mul_left _ hn
    omega
theorem sh_tup {ds : List PyData} {h b n : Nat} (q : ∀ d ∈ ds, Sh d h b) (hn : ds.length ≤ n) : Sh (.tuple ds) (h + 1) ((b + 2) * n + 4) := by
  refine ⟨?_, ?_, ?_⟩
  · simp only [PyData.showable]
    exact PySem.Spec.showableAll_of fun d hd => (q d hd).ok
  · simp only [PyData.depth]
    exact Nat.succ_le_succ (depAll fun d hd => (q d hd).dep)
  · rw [PyData.shown_tuple, str_app, str_app]
    have j := join_le (b := b) (PyData.shownAll ds) (by
      intro t ht
      obtain ⟨d, hd, rfl⟩ := mem_shown ht
      exact (q d hd).len)
    rw [PyData.shownAll_length] at j
    have l1 : ("(" : Str).length = 1 := by decide
    have l2 : (if ds.length == 1 then ",)" else ")" : Str).length ≤ 2 := by
      split <;> decide
    have m : (b + 2) * ds.length ≤ (b + 2) * n := Nat.mul_le_mul_left _ hn
    have l3 : (Str.ofString (if ds.length == 1 then ",)" else ")" : String)).length ≤ 2 := by
      split <;> decide
    omega
/-- ints below 10000 -/
def Sm (ns : List Int) : Prop := ∀ n ∈ ns, 0 ≤ n ∧ n < 10000
theorem sm_ds {ns : List Int} (h : Sm ns) : ∀ d ∈ ns.map PyData.int, Sh d 0 4 := by
  intro d hd
  obtain ⟨n, hn, rfl⟩ := List.mem_map.mp hd
  have := h n hn
  exact sh_int ⟨this.1, this.2, log_small this.1 this.2⟩
theorem sh_l {ns : List Int} (h : Sm ns) (hl : ns.length ≤ 6000) : Sh (DL ns) 1 40000 := (sh_list (sm_ds h) (n := 6000) (by simpa using hl)).le
theorem sh_t {ns : List Int} (h : Sm ns) (hl : ns.length ≤ 6000) : Sh (DT ns) 1 40000 := (sh_tup (sm_ds h) (n := 6000) (by simpa using hl)).le
section
variable {K : PySem.W.Frag} {H : Hp} {a b : Addr} {ns ms : List Int} {Q : VK}
theorem rp {d : PyData} {h n : Nat} (e : Dp K H (.ref a) d) (s : Sh d h n) (q : Q (.str d.shown) H) (hh : h ≤ 60 := by decide) (hn : n ≤ 1000000 := by omega) : rRepr K [.ref a] H Q := by
  unfold rRepr
  exact ⟨a, d, rfl, e, s.ok, Nat.le_trans s.dep hh, Nat.le_trans (Nat.le_trans s.len hn) (by decide), q⟩
theorem rp_l (e : SqL K H a (IV ns)) (h : Sm ns) (hl : ns.length ≤ 6000) (q : Q (.str (DL ns).shown) H) : rRepr K [.ref a] H Q := rp (dp_l e) (sh_l h hl) q
theorem rp_t (e : SqT K H a (IV ns)) (h : Sm ns) (hl : ns.length ≤ 6000) (q : Q (.str (DT ns).shown) H) : rRepr K [.ref a] H Q := rp (dp_t e) (sh_t h hl) q
theorem eqvAll_ints : ∀ xs ys : List Int, PyData.eqvAll (xs.map .int) (ys.map .int) = decide (xs = ys)
  | [], [] => by simp [PyData.eqvAll]
  | [], _ :: _ => by simp [PyData.eqvAll]
  | _ :: _, [] => by simp [PyData.eqvAll]
  | x :: xs, y :: ys => by
    simp only [List.map_cons, PyData.eqvAll, PyData.eqv, eqvAll_ints xs ys]
    by_cases h : x = y <;> by_cases h2 : xs = ys <;> simp [h, h2]
theorem canAll : ∀ ns : List Int, PyData.canLayAll0 (ns.map .int) = true
  | [] => by simp [PyData.canLayAll0]
  | n :: ns => by simp [PyData.canLayAll0, PyData.canLay0, canAll ns]
theorem depInts : ∀ ns : List Int, PyData.depthAll (ns.map .int) = 0
  | [] => by simp [PyData.depthAll]
  | n :: ns => by simp [PyData.depthAll, PyData.depth, depInts ns]
theorem shp_l (ns : List Int) : SeqAt.shaped (DL ns) = true := by simp [SeqAt.shaped, PyData.canLay0, PyData.depth, canAll, depInts]
theorem shp_t (ns : List Int) : SeqAt.shaped (DT ns) = true := by simp [SeqAt.shaped, PyData.canLay0, PyData.depth, canAll, depInts]
theorem req_l (e : SqL K H a (IV ns)) (e' : SqL K H b (IV ms)) (q : Q (.bl (decide (ns = ms))) H) : rEqD K (.ref a) (.ref b) H Q := by
  refine ⟨DL ns, DL ms, dp_l e, dp_l e', shp_l _, shp_l _, ?_⟩
  rw [show PyData.eqv (DL ns) (DL ms) = decide (ns = ms) by simp only [DL, PyData.eqv]; exact eqvAll_ints ns ms]
  exact q
theorem req_t (e : SqT K H a (IV ns)) (e' : SqT K H b (IV ms)) (q : Q (.bl (decide (ns = ms))) H) : rEqD K (.ref a) (.ref b) H Q := by
  refine ⟨DT ns, DT ms, dp_t e, dp_t e', shp_t _, shp_t _, ?_⟩
  rw [show PyData.eqv (DT ns) (DT ms) = decide (ns = ms) by simp only [DT, PyData.eqv]; exact eqvAll_ints ns ms]
  exact q
theorem rne_l (e : SqL K H a (IV ns)) (e' : SqL K H b (IV ms)) (q : Q (.bl (!decide (ns = ms))) H) : rNeD K (.ref a) (.ref b) H Q := by
  refine ⟨DL ns, DL ms, dp_l e, dp_l e', shp_l _, shp_l _, ?_⟩
  rw [show PyData.eqv (DL ns) (DL ms) = decide (ns = ms) by simp only [DL, PyData.eqv]; exact eqvAll_ints ns ms]
  exact q
end
end VB
/-! a tuple once is the tuple -/
namespace VB
open PySem PySem.Spec PyProof.Rows L2
theorem tuple_mul1 (l : Addr) (items : Array Value) (n : Nat) (dd : Option Addr) (sl : Array (Option Value)) (x : Int) (u : Tok) (c0 : (decide (x < -(2 ^ 63)) || decide (x ≥ 2 ^ 63)) = false) (c1 : (items.isEmpty || x == 1) = true) :
    Meets (Builtin.«tuple.__mul__» ⟨[.ref l, .int x u], []⟩) (fun _ R s => s.heap.get? l = some { cls := .type "tuple", dict := dd, data := .seq items n, slots := sl } ∧
      R (.ok (.ret (.ref l))) s) :=
  .of_wp fun prog w A R s h => by
    obtain ⟨hp, g, d, tk, os⟩ := s
    obtain ⟨hl, h⟩ := h
    have f1 := AutoSeq1.idx_int
    wp_walk using wpAny_loadPart' hl
    repeat (first
      | (refine wpAny_ite_false (decide_eq_false (by rw [c0]; exact Bool.false_ne_true)) ?_; wp_walk using wpAny_loadPart' hl)
      | (refine wpAny_ite_true (decide_eq_true c1) ?_; wp_walk using wpAny_loadPart' hl))
    exact ⟨_, rfl, h⟩
def rRepT1 (K : PySem.W.Frag) : R2 := fun x y H Q => ∃ l xs, x = .ref l ∧ y = .int 1 ∧ SqT K H l xs ∧ Q (.ref l) H
section
variable {X : Cx} {K : PySem.W.Frag}
theorem op_repT1 : OpR X (binaryOp .Mult) (rRepT1 X.K) := by
  intro pins s σ H x y v u Q I rx ry h
  obtain ⟨l, xs, rfl, rfl, hT, q⟩ := h
  cases rx
  obtain ⟨t, rfl⟩ := ry
  obtain ⟨its, r, ⟨⟨cls, dd, data, sl⟩, ho, hc, n, hd⟩, hs⟩ := I.tuple hT
  simp only at hc hd
  subst hc hd
  have c0 : (decide ((1 : Int) < -(2 ^ 63)) || decide ((1 : Int) ≥ 2 ^ 63)) = false := by decide
  have c1 : (its.toArray.isEmpty || (1 : Int) == 1) = true := by simp
  refine wpAny_binaryOp_repeat_ref (T := "tuple") (U := "int") (by decide) ⟨_, ho, rfl⟩ (fun s' => typeIs_int s' 1 t) noFill_tuple_mul F.fills_int_mul F.slot_int_rmul repeat_tuple F.slot_int_index.lookup
    (call_meets F.slot_int_rmul (typeIs_int s 1 t) F.entry_int_rmul (F.args_int_rmul_2 _ _) (int_rmul_tuple 1 t l its.toArray n dd sl)
      ⟨ho, rfl, ⟨_, ho, rfl⟩, call_meets F.slot_tuple_mul ⟨_, ho, rfl⟩ F.entry_tuple_mul (F.args_tuple_mul_2 _ _) (tuple_mul1 l its.toArray n dd sl 1 t c0 c1) ⟨ho, ?_⟩⟩)
  exact ⟨.ref l, H, I, rfl, q⟩
/-- +, * of this law: tuples once, too -/
@[irreducible] def rMulU1 (K : PySem.W.Frag) : R2 := fun x y H Q => rMulU K x y H Q ∨ rRepT1 K x y H Q
theorem u_mul1 (hK : X.K = K := by rfl) : OpR X (binaryOp .Mult) (rMulU1 K) := by
  subst hK
  unfold rMulU1
  exact (u_mul rfl).or op_repT1
end
end VB
/-! readings that are never unfolded -/
namespace VB
open PySem PySem.Spec PyProof.Rows L2
section
variable {X : Cx} {K : PySem.W.Frag}
@[irreducible] def rTupI (K : PySem.W.Frag) : List V → Hp → VK → Prop := rTupU K
@[irreducible] def rListI (K : PySem.W.Frag) : List V → Hp → VK → Prop := rListU K
theorem u_tupI (hK : X.K = K := by rfl) : CallR X (.type "tuple") (rTupI K) := by
  unfold rTupI
  exact u_tup hK
theorem u_listI (hK : X.K = K := by rfl) : CallR X (.type "list") (rListI K) := by
  unfold rListI
  exact u_list hK
@[irreducible] def tIfI (c : TT) (t u : TS) : TS := tIfS c t u
theorem ps_ifI {test : Expr} {body orelse : List Stmt} {pos : Pos} {c : TT} {t u : TS} (hc : PT X test c) (ht : PSs X body t) (hu : PSs X orelse u) : PS X (.If test body orelse pos) (tIfI c t u) := by
  unfold tIfI
  exact ps_if hc ht hu
end
end VB
/-! bits of octets: plain mathematics -/
namespace BM
def bitsOf (o : Int) : List Int := [o / 128 % 2, o / 64 % 2, o / 32 % 2, o / 16 % 2, o / 8 % 2, o / 4 % 2, o / 2 % 2, o / 1 % 2]
def bitsL (os : List Int) : List Int := os.flatMap bitsOf
def octOf (bs : List Int) : Int := bs.foldl (fun n b => 2 * n + b) 0
def octetsN : Nat → List Int → List Int
  | 0, _ => []
  | n + 1, bs => octOf (bs.take 8) :: octetsN n (bs.drop 8)
def octetsL (bs : List Int) : List Int := octetsN ((bs.length + 7) / 8) bs
def Oct (os : List Int) : Prop := ∀ o ∈ os, 0 ≤ o ∧ o ≤ 255
def Bit (bs : List Int) : Prop := ∀ b ∈ bs, b = 0 ∨ b = 1
/-- the indices at which the first is 1 and the second 0 -/
def fallenL : Int → List Int → List Int → List Int
  | k, a :: as, b :: bs => if a = 1 ∧ b = 0 then k :: fallenL (k + 1) as bs else fallenL (k + 1) as bs
  | _, _, _ => []
/-- what a mask leaves on the way -/
def turned : List Int → List Int → Int → List Int
  | a :: as, b :: bs, m => if a = b then a :: turned as bs m else (if m % 2 = 1 then b else a) :: turned as bs (m / 2)
  | _, _, _ => []
def unlike : List Int → List Int → Nat
  | a :: as, b :: bs => (if a = b then 0 else 1) + unlike as bs
  | _, _ => 0

theorem bitsOf_bit {o b : Int} (h : b ∈ bitsOf o) : b = 0 ∨ b = 1 := by
  simp only [bitsOf, List.mem_cons, List.not_mem_nil, or_false] at h
  omega
theorem bitsL_bit (os : List Int) : Bit (bitsL os) := by
  intro b h
  obtain ⟨o, _, ho⟩ := List.mem_flatMap.mp h
  exact bitsOf_bit ho
theorem bitsL_nil : bitsL [] = [] := rfl
theorem bitsL_cons (o : Int) (os : List Int) : bitsL (o :: os) = bitsOf o ++ bitsL os := by simp [bitsL]
theorem bitsOf_len (o : Int) : (bitsOf o).length = 8 := rfl
theorem bitsL_len : ∀ os : List Int, (bitsL os).length = 8 * os.length
  | [] => rfl
  | o :: os => by
    rw [bitsL_cons, List.length_append, bitsL_len os, bitsOf_len, List.length_cons]
    omega
theorem bitsL_append (a b : List Int) : bitsL (a ++ b) = bitsL a ++ bitsL b := by simp [bitsL]
theorem octOf_bitsOf {o : Int} (h : 0 ≤ o ∧ o ≤ 255) : octOf (bitsOf o) = o := by
  have key : ∀ n : Fin 256, octOf (bitsOf ((n : Nat) : Int)) = ((n : Nat) : Int) := by decide +kernel
  have e := key ⟨o.toNat, by omega⟩
  have e2 : ((o.toNat : Nat) : Int) = o := Int.toNat_of_nonneg h.1
  simp only [e2] at e
  exact e
theorem eight {bs : List Int} (h : 8 ≤ bs.length) : ∃ a b c d e f g i r, bs = a :: b :: c :: d :: e :: f :: g :: i :: r := by
  match bs, h with
  | a :: b :: c :: d :: e :: f :: g :: i :: r, _ => exact ⟨a, b, c, d, e, f, g, i, r, rfl⟩
theorem octOf8 (a b c d e f g i : Int) : octOf [a, b, c, d, e, f, g, i] = 128 * a + 64 * b + 32 * c + 16 * d + 8 * e + 4 * f + 2 * g + i := by
  simp only [octOf, List.foldl_cons, List.foldl_nil]
  omega
theorem bit_le {x : Int} (h : x = 0 ∨ x = 1) : 0 ≤ x ∧ x ≤ 1 := by omega
theorem bitsOf_octOf {a b c d e f g i : Int} (h : Bit [a, b, c, d, e, f, g, i]) : bitsOf (octOf [a, b, c, d, e, f, g, i]) = [a, b, c, d, e, f, g, i] := by
  obtain ⟨a0, a1⟩ := bit_le (h a (by simp))
  obtain ⟨b0, b1⟩ := bit_le (h b (by simp))
  obtain ⟨c0, c1⟩ := bit_le (h c (by simp))
  obtain ⟨d0, d1⟩ := bit_le (h d (by simp))
  obtain ⟨e0, e1⟩ := bit_le (h e (by simp))
  obtain ⟨f0, f1⟩ := bit_le (h f (by simp))
  obtain ⟨g0, g1⟩ := bit_le (h g (by simp))
  obtain ⟨i0, i1⟩ := bit_le (h i (by simp))
  clear h
  rw [octOf8]
  simp only [bitsOf, List.cons.injEq, and_true]
  refine ⟨?_, ?_, ?_, ?_, ?_, ?_, ?_, ?_⟩ <;> omega
theorem octOf_range {a b c d e f g i : Int} (h : Bit [a, b, c, d, e, f, g, i]) : 0 ≤ octOf [a, b, c, d, e, f, g, i] ∧ octOf [a, b, c, d, e, f, g, i] ≤ 255 := by
  have ha := h a (by simp)
  have hb := h b (by simp)
  have hc := h c (by simp)
  have hd := h d (by simp)
  have he := h e (by simp)
  have hf := h f (by simp)
  have hg := h g (by simp)
  have hi := h i (by simp)
  rw [octOf8]
  omega
theorem Bit.split8 {a b c d e f g i : Int} {r : List Int} (h : Bit (a :: b :: c :: d :: e :: f :: g :: i :: r)) : Bit [a, b, c, d, e, f, g, i] ∧ Bit r := by
  constructor
  · intro x hx
    refine h x ?_
    simp only [List.mem_cons, List.not_mem_nil, or_false] at hx
    simp only [List.mem_cons]
    rcases hx with q | q | q | q | q | q | q | q <;> simp [q]
  · intro x hx
    exact h x (by simp [hx])
/-- bits of octets of bits -/
theorem octetsN_spec : ∀ (n : Nat) (bs : List Int), bs.length = 8 * n → Bit bs → bitsL (octetsN n bs) = bs ∧ Oct (octetsN n bs) ∧ (octetsN n bs).length = n
  | 0, bs, hl, _ => by
    have e : bs = [] := List.eq_nil_of_length_eq_zero (by omega)
    subst e
    exact ⟨rfl, fun _ h => (by cases h), rfl⟩
  | n + 1, bs, hl, hb => by
    obtain ⟨a, b, c, d, e, f, g, i, r, rfl⟩ := eight (bs := bs) (by omega)
    obtain ⟨h1, h2⟩ := hb.split8
    have hr : r.length = 8 * n := by
      simp only [List.length_cons] at hl
      omega
    obtain ⟨i1, i2, i3⟩ := octetsN_spec n r hr h2
    refine ⟨?_, ?_, ?_⟩
    · show bitsL (octOf [a, b, c, d, e, f, g, i] :: octetsN n r) = _
      rw [bitsL_cons, bitsOf_octOf h1, i1]
      rfl
    · intro o ho
      rcases List.mem_cons.mp ho with q | q
      · rw [q]
        exact octOf_range h1
      · exact i2 o q
    · show (octetsN n r).length + 1 = n + 1
      rw [i3]
theorem octetsL_spec {bs : List Int} {n : Nat} (hl : bs.length = 8 * n) (hb : Bit bs) : bitsL (octetsL bs) = bs ∧ Oct (octetsL bs) ∧ (octetsL bs).length = n := by
  have e : (bs.length + 7) / 8 = n := by omega
  unfold octetsL
  rw [e]
  exact octetsN_spec n bs hl hb
theorem octetsL_bitsL : ∀ {os : List Int}, Oct os → octetsL (bitsL os) = os := by
  intro os
  induction os with
  | nil => intro _; rfl
  | cons o os ih =>
    intro h
    have h1 := h o List.mem_cons_self
    have h2 : Oct os := fun x hx => h x (List.mem_cons_of_mem _ hx)
    have i := ih h2
    have l := bitsL_len os
    have l2 := bitsL_len (o :: os)
    unfold octetsL at i ⊢
    have e1 : ((bitsL os).length + 7) / 8 = os.length := by omega
    have e2 : ((bitsL (o :: os)).length + 7) / 8 = os.length + 1 := by
      rw [l2, List.length_cons]
      omega
    rw [e1] at i
    rw [e2, bitsL_cons]
    show octOf ((bitsOf o ++ bitsL os).take 8) :: octetsN os.length ((bitsOf o ++ bitsL os).drop 8) = _
    have t : (bitsOf o ++ bitsL os).take 8 = bitsOf o := by rw [List.take_append_of_le_length (by rw [bitsOf_len]; omega)]; rfl
    have d : (bitsOf o ++ bitsL os).drop 8 = bitsL os := rfl
    rw [t, d, octOf_bitsOf h1, i]
theorem turned_len : ∀ (as bs : List Int) (m : Int), as.length = bs.length → (turned as bs m).length = as.length
  | [], [], _, _ => rfl
  | a :: as, b :: bs, m, h => by
    unfold turned
    have h' : as.length = bs.length := by simpa using h
    split
    · rw [List.length_cons, turned_len as bs m h', List.length_cons]
    · rw [List.length_cons, turned_len as bs _ h', List.length_cons]
  | [], _ :: _, _, h => by simp at h
  | _ :: _, [], _, h => by simp at h
theorem turned_bit : ∀ (as bs : List Int) (m : Int), Bit as → Bit bs → Bit (turned as bs m)
  | [], _, _, _, _ => by
    unfold turned
    intro x h
    cases h
  | _ :: _, [], _, _, _ => by
    unfold turned
    intro x h
    cases h
  | a :: as, b :: bs, m, ha, hb => by
    have h1 := ha a List.mem_cons_self
    have h2 := hb b List.mem_cons_self
    have h3 : Bit as := fun x hx => ha x (List.mem_cons_of_mem _ hx)
    have h4 : Bit bs := fun x hx => hb x (List.mem_cons_of_mem _ hx)
    unfold turned
    split
    · intro x hx
      rcases List.mem_cons.mp hx with q | q
      · rw [q]; exact h1
      · exact turned_bit as bs m h3 h4 x q
    · intro x hx
      rcases List.mem_cons.mp hx with q | q
      · rw [q]
        split
        · exact h2
        · exact h1
      · exact turned_bit as bs _ h3 h4 x q
/-- below at each place -/
def Le : List Int → List Int → Prop
  | a :: as, b :: bs => a ≤ b ∧ Le as bs
  | [], [] => True
  | _, _ => False
theorem Le.refl : ∀ as : List Int, Le as as
  | [] => True.intro
  | a :: as => ⟨Int.le_refl a, Le.refl as⟩
theorem Le.len : ∀ {as bs : List Int}, Le as bs → as.length = bs.length
  | [], [], _ => rfl
  | _ :: as, _ :: bs, h => by rw [List.length_cons, List.length_cons, Le.len h.2]
  | [], _ :: _, h => h.elim
  | _ :: _, [], h => h.elim
/-- where nothing rises from as to bs, what is left lies between -/
theorem turned_down : ∀ {as bs : List Int} (m : Int), Le bs as → Le bs (turned as bs m) ∧ Le (turned as bs m) as
  | [], [], _, _ => ⟨True.intro, True.intro⟩
  | a :: as, b :: bs, m, h => by
    have i1 := turned_down (as := as) (bs := bs) m h.2
    have i2 := turned_down (as := as) (bs := bs) (m / 2) h.2
    have h1 := h.1
    unfold turned
    split
    · rename_i e
      exact ⟨⟨by omega, i1.1⟩, ⟨Int.le_refl a, i1.2⟩⟩
    · refine ⟨⟨?_, i2.1⟩, ⟨?_, i2.2⟩⟩ <;> split <;> omega
  | [], _ :: _, _, h => h.elim
  | _ :: _, [], _, h => h.elim
theorem turned_up : ∀ {as bs : List Int} (m : Int), Le as bs → Le as (turned as bs m) ∧ Le (turned as bs m) bs
  | [], [], _, _ => ⟨True.intro, True.intro⟩
  | a :: as, b :: bs, m, h => by
    have i1 := turned_up (as := as) (bs := bs) m h.2
    have i2 := turned_up (as := as) (bs := bs) (m / 2) h.2
    have h1 := h.1
    unfold turned
    split
    · rename_i e
      exact ⟨⟨Int.le_refl a, i1.1⟩, ⟨by omega, i1.2⟩⟩
    · refine ⟨⟨?_, i2.1⟩, ⟨?_, i2.2⟩⟩ <;> split <;> omega
  | [], _ :: _, _, h => h.elim
  | _ :: _, [], _, h => h.elim
theorem Le.trans : ∀ {as bs cs : List Int}, Le as bs → Le bs cs → Le as cs
  | [], [], [], _, _ => True.intro
  | _ :: _, _ :: _, _ :: _, h, h' => ⟨Int.le_trans h.1 h'.1, h.2.trans h'.2⟩
  | [], _ :: _, _, h, _ => h.elim
  | _ :: _, [], _, h, _ => h.elim
  | [], [], _ :: _, _, h => h.elim
  | _ :: _, _ :: _, [], _, h => h.elim
/-- nothing falls upward -/
theorem fallen_none : ∀ {as bs : List Int} (k : Int), Le as bs → fallenL k as bs = []
  | [], [], _, _ => rfl
  | a :: as, b :: bs, k, h => by
    have h1 := h.1
    unfold fallenL
    rw [if_neg (by omega)]
    exact fallen_none _ h.2
  | [], _ :: _, _, h => h.elim
  | _ :: _, [], _, h => h.elim
def zc (bs : List Int) : Int := ((bs.count 0 : Nat) : Int)
theorem zc_nil : zc [] = 0 := rfl
theorem zc_cons (b : Int) (bs : List Int) : zc (b :: bs) = (if b = 0 then 1 else 0) + zc bs := by
  unfold zc
  rw [List.count_cons]
  by_cases h : b = 0
  · simp [h]
    omega
  · simp [h]
/-- more zeros below, as many only if equal -/
theorem zc_le : ∀ {as bs : List Int}, Bit as → Bit bs → Le as bs → zc bs ≤ zc as ∧ (zc bs = zc as → as = bs)
  | [], [], _, _, _ => ⟨Int.le_refl _, fun _ => rfl⟩
  | a :: as, b :: bs, ha, hb, h => by
    have h1 := ha a List.mem_cons_self
    have h2 := hb b List.mem_cons_self
    have h3 : Bit as := fun x hx => ha x (List.mem_cons_of_mem _ hx)
    have h4 : Bit bs := fun x hx => hb x (List.mem_cons_of_mem _ hx)
    have h5 := h.1
    obtain ⟨i1, i2⟩ := zc_le h3 h4 h.2
    rw [zc_cons, zc_cons]
    rcases h1 with rfl | rfl <;> rcases h2 with rfl | rfl
    · refine ⟨by simp; omega, fun e => ?_⟩
      rw [i2 (by simp at e; omega)]
    · refine ⟨by simp; omega, fun e => ?_⟩
      simp at e
      omega
    · omega
    · refine ⟨by simp; omega, fun e => ?_⟩
      rw [i2 (by simp at e; omega)]
  | [], _ :: _, _, _, h => h.elim
  | _ :: _, [], _, _, h => h.elim
/-- zeros: what falls more, what rises less -/
theorem zc_diff : ∀ (as bs : List Int) (k l : Int), Bit as → Bit bs → as.length = bs.length → zc bs = zc as + ((fallenL k as bs).length : Int) - ((fallenL l bs as).length : Int)
  | [], [], _, _, _, _, _ => rfl
  | a :: as, b :: bs, k, l, ha, hb, hl => by
    have h1 := ha a List.mem_cons_self
    have h2 := hb b List.mem_cons_self
    have h3 : Bit as := fun x hx => ha x (List.mem_cons_of_mem _ hx)
    have h4 : Bit bs := fun x hx => hb x (List.mem_cons_of_mem _ hx)
    have i := zc_diff as bs (k + 1) (l + 1) h3 h4 (by simpa using hl)
    unfold fallenL
    rw [zc_cons, zc_cons]
    rcases h1 with rfl | rfl <;> rcases h2 with rfl | rfl <;> simp <;> omega
  | [], _ :: _, _, _, _, _, hl => by simp at hl
  | _ :: _, [], _, _, _, _, hl => by simp at hl
/-- both sets empty: equal -/
theorem fallen_both : ∀ (as bs : List Int) (k l : Int), Bit as → Bit bs → as.length = bs.length → fallenL k as bs = [] → fallenL l bs as = [] → as = bs
  | [], [], _, _, _, _, _, _, _ => rfl
  | a :: as, b :: bs, k, l, ha, hb, hl, e1, e2 => by
    have h1 := ha a List.mem_cons_self
    have h2 := hb b List.mem_cons_self
    have h3 : Bit as := fun x hx => ha x (List.mem_cons_of_mem _ hx)
    have h4 : Bit bs := fun x hx => hb x (List.mem_cons_of_mem _ hx)
    unfold fallenL at e1 e2
    rcases h1 with rfl | rfl <;> rcases h2 with rfl | rfl
    · simp at e1 e2
      rw [fallen_both as bs _ _ h3 h4 (by simpa using hl) e1 e2]
    · simp at e2
    · simp at e1
    · simp at e1 e2
      rw [fallen_both as bs _ _ h3 h4 (by simpa using hl) e1 e2]
  | [], _ :: _, _, _, _, _, hl, _, _ => by simp at hl
  | _ :: _, [], _, _, _, _, hl, _, _ => by simp at hl
theorem fallen_self : ∀ (as : List Int) (k : Int), fallenL k as as = []
  | [], _ => rfl
  | a :: as, k => by
    unfold fallenL
    rw [if_neg (by omega)]
    exact fallen_self as _
theorem fallen_len : ∀ (as bs : List Int) (k : Int), (fallenL k as bs).length ≤ as.length
  | [], _, _ => by simp [fallenL]
  | _ :: _, [], _ => by simp [fallenL]
  | a :: as, b :: bs, k => by
    unfold fallenL
    have i := fallen_len as bs (k + 1)
    split <;> simp only [List.length_cons] <;> omega
/-- the mask of no bit, and one that reaches beyond all -/
theorem turned_zero : ∀ (as bs : List Int), as.length = bs.length → turned as bs 0 = as
  | [], [], _ => rfl
  | a :: as, b :: bs, h => by
    have h' : as.length = bs.length := by simpa using h
    unfold turned
    split
    · rw [turned_zero as bs h']
    · have e : (0 : Int) / 2 = 0 := rfl
      rw [if_neg (by decide), e, turned_zero as bs h']
  | [], _ :: _, h => by simp at h
  | _ :: _, [], h => by simp at h
theorem unlike_eq : ∀ (as bs : List Int) (k l : Int), Bit as → Bit bs → as.length = bs.length → unlike as bs = (fallenL k as bs).length + (fallenL l bs as).length
  | [], [], _, _, _, _, _ => rfl
  | a :: as, b :: bs, k, l, ha, hb, hl => by
    have h1 := ha a List.mem_cons_self
    have h2 := hb b List.mem_cons_self
    have h3 : Bit as := fun x hx => ha x (List.mem_cons_of_mem _ hx)
    have h4 : Bit bs := fun x hx => hb x (List.mem_cons_of_mem _ hx)
    have i := unlike_eq as bs (k + 1) (l + 1) h3 h4 (by simpa using hl)
    unfold fallenL unlike
    rcases h1 with rfl | rfl <;> rcases h2 with rfl | rfl <;> simp <;> omega
  | [], _ :: _, _, _, _, _, hl => by simp at hl
  | _ :: _, [], _, _, _, _, hl => by simp at hl
theorem pow2_odd (n : Nat) : ((2 : Int) ^ (n + 1) - 1) % 2 = 1 ∧ ((2 : Int) ^ (n + 1) - 1) / 2 = 2 ^ n - 1 := by
  have e : (2 : Int) ^ (n + 1) = 2 * 2 ^ n := by rw [Int.pow_succ]; omega
  omega
/-- all ones up to the last unlike bit: the new ones -/
theorem turned_ones : ∀ (as bs : List Int) (n : Nat), as.length = bs.length → unlike as bs ≤ n → turned as bs (2 ^ n - 1) = bs
  | [], [], _, _, _ => rfl
  | a :: as, b :: bs, n, h, hu => by
    have h' : as.length = bs.length := by simpa using h
    unfold unlike at hu
    unfold turned
    split
    · rename_i e
      rw [if_pos e] at hu
      rw [turned_ones as bs n h' (by omega), e]
    · rename_i e
      rw [if_neg e] at hu
      obtain ⟨k, rfl⟩ : ∃ k, n = k + 1 := ⟨n - 1, by omega⟩
      obtain ⟨o1, o2⟩ := pow2_odd k
      rw [if_pos o1, o2, turned_ones as bs k h' (by omega)]
  | [], _ :: _, _, h, _ => by simp at h
  | _ :: _, [], _, h, _ => by simp at h
/-- a mask whose first n bits are 0, where at most n bits are unlike: nothing turns -/
theorem turned_beyond : ∀ (as bs : List Int) (n : Nat), as.length = bs.length → unlike as bs ≤ n → turned as bs (2 ^ n) = as
  | [], [], _, _, _ => rfl
  | a :: as, b :: bs, n, h, hu => by
    have h' : as.length = bs.length := by simpa using h
    unfold unlike at hu
    unfold turned
    split
    · rename_i e
      rw [if_pos e] at hu
      rw [turned_beyond as bs n h' (by omega)]
    · rename_i e
      rw [if_neg e] at hu
      obtain ⟨k, rfl⟩ : ∃ k, n = k + 1 := ⟨n - 1, by omega⟩
      have e1 : (2 : Int) ^ (k + 1) = 2 * 2 ^ k := by rw [Int.pow_succ]; omega
      have e2 : ((2 : Int) ^ (k + 1)) % 2 = 0 := by omega
      have e3 : ((2 : Int) ^ (k + 1)) / 2 = 2 ^ k := by omega
      rw [if_neg (by omega), e3, turned_beyond as bs k h' (by omega)]
  | [], _ :: _, _, h, _ => by simp at h
  | _ :: _, [], _, h, _ => by simp at h
/-- 4096 ones: the first 4096 unlike bits turn, the others stay -/
theorem turned_first : ∀ (n m : Nat), turned (List.replicate (n + m) 1) (List.replicate (n + m) 0) (2 ^ n - 1) = List.replicate n 0 ++ List.replicate m 1
  | 0, m => by
    have e : ((2 : Int) ^ 0 - 1) = 0 := rfl
    rw [e, Nat.zero_add, turned_zero _ _ (by simp)]
    simp
  | n + 1, m => by
    have e : n + 1 + m = (n + m) + 1 := by omega
    rw [e, List.replicate_succ, List.replicate_succ, List.replicate_succ]
    unfold turned
    obtain ⟨o1, o2⟩ := pow2_odd n
    rw [if_neg (by decide), if_pos o1, o2, turned_first n m]
    rfl
theorem fold_bound : ∀ (l : List Int) (n : Int), Bit l → 0 ≤ n → 0 ≤ l.foldl (fun n b => 2 * n + b) n ∧ l.foldl (fun n b => 2 * n + b) n + 1 ≤ (n + 1) * 2 ^ l.length
  | [], n, _, h => by simp [h]
  | b :: l, n, hb, h => by
    have h1 := hb b List.mem_cons_self
    have h2 : Bit l := fun x hx => hb x (List.mem_cons_of_mem _ hx)
    obtain ⟨i1, i2⟩ := fold_bound l (2 * n + b) h2 (by omega)
    refine ⟨i1, ?_⟩
    rw [List.foldl_cons, List.length_cons, Int.pow_succ]
    have p : (0 : Int) ≤ 2 ^ l.length := Int.pow_nonneg (by decide)
    have m : (2 * n + b + 1) * 2 ^ l.length ≤ (2 * (n + 1)) * 2 ^ l.length := Int.mul_le_mul_of_nonneg_right (by omega) p
    have e : (2 * (n + 1)) * 2 ^ l.length = (n + 1) * (2 ^ l.length * 2) := by
      rw [Int.mul_comm 2 (n + 1), Int.mul_assoc, Int.mul_comm 2]
    omega
theorem octOf_bound {l : List Int} (h : Bit l) (hl : l.length ≤ 8) : 0 ≤ octOf l ∧ octOf l < 256 := by
  obtain ⟨h1, h2⟩ := fold_bound l 0 h (Int.le_refl 0)
  have p : (2 : Int) ^ l.length ≤ 2 ^ 8 := by
    have q : (2 : Nat) ^ l.length ≤ 2 ^ 8 := Nat.pow_le_pow_right (by decide) hl
    exact_mod_cast q
  have e : (2 : Int) ^ 8 = 256 := rfl
  unfold octOf
  omega
theorem Bit.take {l : List Int} (h : Bit l) (n : Nat) : Bit (l.take n) := fun x hx => h x (List.mem_of_mem_take hx)
theorem Bit.drop {l : List Int} (h : Bit l) (n : Nat) : Bit (l.drop n) := fun x hx => h x (List.mem_of_mem_drop hx)
end BM
/-! bits of octets and the operators on bits -/
namespace BM
/-- bit k of a number, as an int -/
def tb (n k : Nat) : Int := if n.testBit k then 1 else 0
theorem tb_div (n k : Nat) : ((n : Int) / ((2 ^ k : Nat) : Int)) % 2 = tb n k := by
  unfold tb
  rw [Nat.testBit_eq_decide_div_mod_eq]
  have e : ((n : Int) / ((2 ^ k : Nat) : Int)) % 2 = ((n / 2 ^ k % 2 : Nat) : Int) := by simp
  rw [e]
  by_cases h : n / 2 ^ k % 2 = 1
  · rw [h]
    simp
  · have h0 : n / 2 ^ k % 2 = 0 := by omega
    rw [h0]
    simp
theorem bitsOf_tb (n : Nat) : bitsOf (n : Int) = [tb n 7, tb n 6, tb n 5, tb n 4, tb n 3, tb n 2, tb n 1, tb n 0] := by
  have h7 := tb_div n 7
  have h6 := tb_div n 6
  have h5 := tb_div n 5
  have h4 := tb_div n 4
  have h3 := tb_div n 3
  have h2 := tb_div n 2
  have h1 := tb_div n 1
  have h0 := tb_div n 0
  unfold bitsOf
  rw [← h7, ← h6, ← h5, ← h4, ← h3, ← h2, ← h1, ← h0]
  rfl
theorem tb_bit (n k : Nat) : tb n k = 0 ∨ tb n k = 1 := by
  unfold tb
  split
  · exact .inr rfl
  · exact .inl rfl
theorem tb_and (a b k : Nat) : tb (a &&& b) k = if tb a k = 1 ∧ tb b k = 1 then 1 else 0 := by
  unfold tb
  rw [Nat.testBit_and]
  cases a.testBit k <;> cases b.testBit k <;> simp
theorem tb_or (a b k : Nat) : tb (a ||| b) k = if tb a k = 1 ∨ tb b k = 1 then 1 else 0 := by
  unfold tb
  rw [Nat.testBit_or]
  cases a.testBit k <;> cases b.testBit k <;> simp
theorem tb_xor (a b k : Nat) : tb (a ^^^ b) k = if tb a k = tb b k then 0 else 1 := by
  unfold tb
  rw [Nat.testBit_xor]
  cases a.testBit k <;> cases b.testBit k <;> simp
theorem le_app : ∀ {a b c d : List Int}, Le a b → Le c d → Le (a ++ c) (b ++ d)
  | [], [], _, _, _, h => h
  | _ :: _, _ :: _, _, _, h, h' => ⟨h.1, le_app h.2 h'⟩
  | [], _ :: _, _, _, h, _ => h.elim
  | _ :: _, [], _, _, h, _ => h.elim
theorem and_le (a b : Nat) : Le (bitsOf ((a &&& b : Nat) : Int)) (bitsOf (a : Int)) := by
  have key : ∀ k, tb (a &&& b) k ≤ tb a k := by
    intro k
    rw [tb_and]
    have := tb_bit a k
    split <;> omega
  rw [bitsOf_tb, bitsOf_tb]
  exact ⟨key 7, key 6, key 5, key 4, key 3, key 2, key 1, key 0, True.intro⟩
theorem le_or (a b : Nat) : Le (bitsOf (a : Int)) (bitsOf ((a ||| b : Nat) : Int)) := by
  have key : ∀ k, tb a k ≤ tb (a ||| b) k := by
    intro k
    rw [tb_or]
    have := tb_bit a k
    split <;> omega
  rw [bitsOf_tb, bitsOf_tb]
  exact ⟨key 7, key 6, key 5, key 4, key 3, key 2, key 1, key 0, True.intro⟩
theorem bits255 : bitsOf 255 = [1, 1, 1, 1, 1, 1, 1, 1] := by decide
theorem le_255 (o : Int) : Le (bitsOf o) (bitsOf 255) := by
  have key : ∀ b ∈ bitsOf o, b ≤ 1 := fun b hb => by
    have := bitsOf_bit hb
    omega
  rw [bits255]
  unfold bitsOf at key ⊢
  exact ⟨key _ (by simp), key _ (by simp), key _ (by simp), key _ (by simp), key _ (by simp), key _ (by simp), key _ (by simp), key _ (by simp), True.intro⟩
/-- lists of octets, pair by pair -/
theorem bitsL_le : ∀ {xs ys : List Int}, xs.length = ys.length → (∀ p ∈ xs.zip ys, Le (bitsOf p.1) (bitsOf p.2)) → Le (bitsL xs) (bitsL ys)
  | [], [], _, _ => True.intro
  | x :: xs, y :: ys, hl, h => by
    rw [bitsL_cons, bitsL_cons]
    exact le_app (h (x, y) (by simp)) (bitsL_le (by simpa using hl) fun p hp => h p (by simp [hp]))
  | [], _ :: _, hl, _ => by simp at hl
  | _ :: _, [], hl, _ => by simp at hl
theorem nat_of {o : Int} (h : 0 ≤ o) : ∃ n : Nat, o = n := ⟨o.toNat, by omega⟩
theorem and_oct {a b : Nat} (ha : a ≤ 255) : (a &&& b) ≤ 255 := Nat.le_trans Nat.and_le_left ha
theorem or_oct {a b : Nat} (ha : a ≤ 255) (hb : b ≤ 255) : (a ||| b) ≤ 255 := by
  have h : (a ||| b) < 2 ^ 8 := Nat.or_lt_two_pow (by omega) (by omega)
  omega
theorem xor_oct {a b : Nat} (ha : a ≤ 255) (hb : b ≤ 255) : (a ^^^ b) ≤ 255 := by
  have h : (a ^^^ b) < 2 ^ 8 := Nat.xor_lt_two_pow (by omega) (by omega)
  omega
/-- one more bit -/
theorem fallen_snoc : ∀ (as bs : List Int) (k x y : Int), as.length = bs.length → fallenL k (as ++ [x]) (bs ++ [y]) = fallenL k as bs ++ (if x = 1 ∧ y = 0 then [k + (as.length : Int)] else [])
  | [], [], k, x, y, _ => by
    simp [fallenL]
  | a :: as, b :: bs, k, x, y, h => by
    have i := fallen_snoc as bs (k + 1) x y (by simpa using h)
    rw [List.cons_append, List.cons_append]
    unfold fallenL
    have e : k + 1 + (as.length : Int) = k + ((a :: as).length : Int) := by
      rw [List.length_cons]
      omega
    rw [e] at i
    split <;> simp [i]
  | [], _ :: _, _, _, _, h => by simp at h
  | _ :: _, [], _, _, _, h => by simp at h
end BM
/-! bits that are 1, bits that are unlike, one bit turned -/
namespace BM
/-- the indices of the ones, from k on -/
def onesL : Int → List Int → List Int
  | _, [] => []
  | k, b :: r => if b = 1 then k :: onesL (k + 1) r else onesL (k + 1) r
/-- the indices of the unlike ones -/
def diffL : Int → List Int → List Int → List Int
  | k, a :: as, b :: bs => if a = b then diffL (k + 1) as bs else k :: diffL (k + 1) as bs
  | _, _, _ => []
theorem onesL_app : ∀ (a b : List Int) (k : Int), onesL k (a ++ b) = onesL k a ++ onesL (k + (a.length : Int)) b
  | [], b, k => by simp [onesL]
  | x :: a, b, k => by
    have e : k + ((x :: a).length : Int) = k + 1 + (a.length : Int) := by simp; omega
    rw [List.cons_append, onesL, onesL, onesL_app a b (k + 1), e]
    split <;> simp
theorem onesL_snoc (a : List Int) (x : Int) : onesL 0 (a ++ [x]) = onesL 0 a ++ (if x = 1 then [(a.length : Int)] else []) := by
  rw [onesL_app]
  simp [onesL]
theorem onesL_len : ∀ (a : List Int) (k : Int), (onesL k a).length ≤ a.length
  | [], k => by simp [onesL]
  | x :: a, k => by
    have := onesL_len a (k + 1)
    rw [onesL]
    split <;> simp <;> omega
/-- of two bits -/
theorem ones_of {f : Int → Int → Int} (P : List Int → List Int → Int → List Int) (c : Int → Int → Prop) [∀ a b, Decidable (c a b)] (h0 : ∀ k, P [] [] k = []) (h1 : ∀ a as b bs k, P (a :: as) (b :: bs) k = if c a b then k :: P as bs (k + 1) else P as bs (k + 1))
    (h : ∀ a b, (a = 0 ∨ a = 1) → (b = 0 ∨ b = 1) → (f a b = 1 ↔ c a b)) : ∀ (as bs : List Int) (k : Int), as.length = bs.length → Bit as → Bit bs → onesL k (List.zipWith f as bs) = P as bs k
  | [], [], k, _, _, _ => by simp [onesL, h0]
  | [], _ :: _, k, e, _, _ => by simp at e
  | _ :: _, [], k, e, _, _ => by simp at e
  | a :: as, b :: bs, k, e, ha, hb => by
    have r := ones_of P c h0 h1 h as bs (k + 1) (by simpa using e) (fun x hx => ha x (List.mem_cons_of_mem _ hx)) (fun x hx => hb x (List.mem_cons_of_mem _ hx))
    have q := h a b (ha a (List.mem_cons_self ..)) (hb b (List.mem_cons_self ..))
    rw [List.zipWith_cons_cons, onesL, h1, r]
    by_cases z : c a b
    · rw [if_pos z, if_pos (q.mpr z)]
    · rw [if_neg z, if_neg (fun y => z (q.mp y))]
/-- the bits of two lists of octets, put together -/
theorem bitsL_both {g : Int → Int → Int} {f : Int → Int → Int} (h : ∀ x y, 0 ≤ x ∧ x ≤ 255 → 0 ≤ y ∧ y ≤ 255 → bitsOf (g x y) = List.zipWith f (bitsOf x) (bitsOf y)) :
    ∀ xs ys : List Int, Oct xs → Oct ys → bitsL ((xs.zip ys).map fun p => g p.1 p.2) = List.zipWith f (bitsL xs) (bitsL ys)
  | [], ys, _, _ => by simp [bitsL]
  | x :: xs, [], _, _ => by simp [bitsL]
  | x :: xs, y :: ys, hx, hy => by
    have r := bitsL_both h xs ys (fun o ho => hx o (List.mem_cons_of_mem _ ho)) (fun o ho => hy o (List.mem_cons_of_mem _ ho))
    have q := h x y (hx x (List.mem_cons_self ..)) (hy y (List.mem_cons_self ..))
    rw [List.zip_cons_cons, List.map_cons, bitsL_cons, bitsL_cons, bitsL_cons, r, q, List.zipWith_append (by rw [bitsOf_len, bitsOf_len])]
/-- where lists part -/
theorem diff_at : ∀ (as bs : List Int) (k p : Int) (rest : List Int), as.length = bs.length → diffL k as bs = p :: rest →
    ∃ (pre : List Int) (x y : Int) (as' bs' : List Int), as = pre ++ x :: as' ∧ bs = pre ++ y :: bs' ∧ x ≠ y ∧ p = k + (pre.length : Int) ∧ rest = diffL (p + 1) as' bs' ∧ as'.length = bs'.length ∧
      ∀ m, turned as bs m = pre ++ (if m % 2 = 1 then y else x) :: turned as' bs' (m / 2)
  | [], _, k, p, rest, _, h => by simp [diffL] at h
  | _ :: _, [], k, p, rest, e, h => by simp at e
  | a :: as, b :: bs, k, p, rest, e, h => by
    rw [diffL] at h
    by_cases z : a = b
    · rw [if_pos z] at h
      obtain ⟨pre, x, y, as', bs', h1, h2, h3, h4, h5, h6, h7⟩ := diff_at as bs (k + 1) p rest (by simpa using e) h
      refine ⟨a :: pre, x, y, as', bs', by rw [h1]; rfl, by rw [h2, z]; rfl, h3, by simp; omega, h5, h6, fun m => ?_⟩
      rw [turned, if_pos z, h7 m]
      rfl
    · rw [if_neg z] at h
      obtain ⟨rfl, rfl⟩ := List.cons.inj h
      refine ⟨[], a, b, as, bs, rfl, rfl, z, by simp, rfl, by simpa using e, fun m => ?_⟩
      rw [turned, if_neg z]
      rfl
theorem diff_nil : ∀ (as bs : List Int) (k : Int), as.length = bs.length → diffL k as bs = [] → as = bs
  | [], [], k, _, _ => rfl
  | [], _ :: _, k, e, h => by simp at e
  | _ :: _, [], k, e, h => by simp at e
  | a :: as, b :: bs, k, e, h => by
    rw [diffL] at h
    by_cases z : a = b
    · rw [if_pos z] at h
      rw [z, diff_nil as bs (k + 1) (by simpa using e) h]
    · rw [if_neg z] at h
      cases h
theorem turned_same : ∀ (as : List Int) (m : Int), turned as as m = as
  | [], m => by simp [turned]
  | a :: as, m => by rw [turned, if_pos rfl, turned_same as m]
/-- the j-th bit of an octet -/
theorem bit_at : ∀ o : Nat, o < 256 → ∀ j : Nat, j < 8 → (bitsOf (o : Int))[j]? = some (((o &&& (128 / 2 ^ j)) / (128 / 2 ^ j) : Nat) : Int) := by decide +kernel
theorem bit_on : ∀ o : Nat, o < 256 → ∀ j : Nat, j < 8 → (o &&& (128 / 2 ^ j) ≠ 0 ↔ (bitsOf (o : Int))[j]? = some 1) := by decide +kernel
theorem bit_turn : ∀ o : Nat, o < 256 → ∀ j : Nat, j < 8 → o ^^^ (128 / 2 ^ j) < 256 ∧ bitsOf ((o ^^^ (128 / 2 ^ j) : Nat) : Int) = (bitsOf (o : Int)).set j (1 - (bitsOf (o : Int)).getD j 0) := by decide +kernel
theorem bitsL_get : ∀ (os : List Int) (i j : Nat), j < 8 → (bitsL os)[8 * i + j]? = (os[i]?).bind fun o => (bitsOf o)[j]?
  | [], i, j, _ => by simp [bitsL]
  | o :: os, 0, j, h => by
    rw [bitsL_cons, Nat.mul_zero, Nat.zero_add, List.getElem?_append_left (by rw [bitsOf_len]; exact h)]
    simp
  | o :: os, i + 1, j, h => by
    have e : 8 * (i + 1) + j = 8 + (8 * i + j) := by omega
    rw [bitsL_cons, e, List.getElem?_append_right (by rw [bitsOf_len]; omega), bitsOf_len, Nat.add_sub_cancel_left, bitsL_get os i j h]
    simp
theorem bitsL_set : ∀ (os : List Int) (i j : Nat) (o o' : Int) (b : Int), j < 8 → os[i]? = some o → bitsOf o' = (bitsOf o).set j b → bitsL (os.set i o') = (bitsL os).set (8 * i + j) b
  | [], i, j, o, o', b, _, h, _ => by simp at h
  | x :: os, 0, j, o, o', b, hj, h, q => by
    have e : x = o := by simpa using h
    subst e
    rw [List.set_cons_zero, bitsL_cons, bitsL_cons, q, Nat.mul_zero, Nat.zero_add, List.set_append_left _ _ (by rw [bitsOf_len]; exact hj)]
  | x :: os, i + 1, j, o, o', b, hj, h, q => by
    have e : 8 * (i + 1) + j = 8 + (8 * i + j) := by omega
    have h' : os[i]? = some o := by simpa using h
    rw [List.set_cons_succ, bitsL_cons, bitsL_cons, bitsL_set os i j o o' b hj h' q, e, List.set_append_right _ _ (by rw [bitsOf_len]; omega), bitsOf_len, Nat.add_sub_cancel_left]
end BM
/-! f'{n:b}', n an octet -/
namespace PySem.W
open PySem PySem.Calls PyProof.Rows
open Builtin Builtin.Str Builtin.Int Builtin.Float
/-- the binary text of n -/
def binT (n : Nat) : PySem.Str := ⟨((Nat.toDigits 2 n).map Char.toNat).toArray⟩
theorem binT_len : ∀ n : Nat, n < 256 → (binT n).length ≤ 8 := by decide +kernel
theorem meets_bin' {spec : PySem.Str} {f : FormatSpec} (n : Nat) (hn : n < 256) (t u : Tok) (hne : (spec.length == 0) = false)
    (hasc : ((spec.cps.toList.drop 1).any (· ≥ 128) || (spec.cps.getD 0 0 ≥ 128 && !([60, 62, 61, 94] : List Nat).contains (spec.cps.getD 1 0))) = false)
    (hp : parseFormatSpec spec.cps.toList "int" 62 = .ok f) (hf : f = { align := 62, type := some 98 }) :
    Meets (Builtin.«int.__format__» ⟨[.int (n : Int) t, .str spec u], []⟩) (fun _ R s => ∀ t' k, R (.ok (.ret (.str (binT n) t'))) { s with toks := k }) := by
  apply KPc.meets_of
  intro prog w A s Q E h
  unfold Builtin.«int.__format__»
  simp only [selfAndOne, noKeywords, Int.intOfSelf, asInt?, asStr?, List.isEmpty_nil, if_true, pure_bind, bind_pure, bind_assoc, hne, hasc, Bool.false_eq_true, if_false,
    show (Value.str spec u == Value.none) = false from rfl]
  refine wpAny_bind (wpAny_typeNameOf (T := "str") (typeIs_str _ _ _) (by decide) fun _ => ?_)
  refine wpAny_bind (wpAny_typeNameOfCut_int ?_)
  simp only [hp]
  have hty : f.type = some 98 := by rw [hf]
  simp only [hty, Option.getD_some]
  rw [if_pos (by decide)]
  have hpr : f.precision = none := by rw [hf]
  have hz : f.noNeg0 = false := by rw [hf]
  have hal : f.alt = false := by rw [hf]
  have hw : f.width.getD 0 = 0 := by rw [hf]; rfl
  clear hp hasc hne
  show wpAny _ _ (if _ then _ else _) _ _ _
  rw [if_neg (by simp [hpr])]
  show wpAny _ _ (if _ then _ else _) _ _ _
  rw [if_neg (by simp [hz])]
  show wpAny _ _ (if _ then _ else _) _ _ _
  rw [if_neg (by decide)]
  show wpAny _ _ (if _ then _ else _) _ _ _
  rw [if_neg (by decide)]
  show wpAny _ _ (if _ then _ else _) _ _ _
  rw [if_neg (by omega)]
  refine KXf.ret_text (T := binT n) ?_ ?_ h
  · clear h
    subst hf
    clear hty hpr hz hal hw
    revert n
    decide +kernel
  · clear h
    subst hf
    clear hty hpr hz hal hw
    revert n
    decide +kernel
/-- {e:b}, a field of an octet -/
theorem bin_field {prog : Program} {w : World} {A : Around} {E : Value → Shared → Prop} {s : Shared} {n : Nat} {t : Tok} {Q : Value → Shared → Prop} (hn : n < 256) (h : ∀ t' k, Q (.str (binT n) t') { s with toks := k }) :
    wpAny (model prog w) A (formatField (.int (n : Int) t) "b") Q E s :=
  KXf.field_meets (by decide) (fun s' => typeIs_int s' n t) F.slot_int_format F.entry_int_format F.args_int_format_2 (by decide) (fun u => meets_bin' n hn t u (by decide) (by decide) (by rfl) rfl) h
theorem bin_count : ∀ n : Nat, n < 256 → PySem.Txt.count (binT n) "1" = (([n / 128 % 2, n / 64 % 2, n / 32 % 2, n / 16 % 2, n / 8 % 2, n / 4 % 2, n / 2 % 2, n / 1 % 2].count 1 : Nat) : Int) := by decide +kernel
end PySem.W
namespace VB
open PySem PySem.Spec PyProof.Rows L2
section
variable {X : Cx} {e : Expr} {te : TE} {p1 p2 p3 p4 : Pos} {j : Nat}
/-- f'{e:b}', e an octet -/
def tBin (te : TE) : TE := fun σ H Q => te σ H fun x H1 => ∃ n : Nat, x = .int (n : Int) ∧ n < 256 ∧ Q (.str (PySem.W.binT n)) H1
theorem pe_bin (he : PE X e te) : PE X (.JoinedStr [.FormattedValue e (-1) (some (.JoinedStr [.Constant (.str "b") j p1] p2)) p3] p4) (tBin te) := by
  refine pe_joined1 ⟨fun pins s σ H Q I h => wpAny_FormattedValue_spec (thn (he.run pins s σ H _ I h) fun v s1 hv => ?_)⟩
  obtain ⟨x, H1, I1, r1, n, rfl, hn, q⟩ := hv
  obtain ⟨t, rfl⟩ := r1
  refine thn ((pe_joined1 (pos := p2) (pe_str (x := "b") (j := j) (pos := p1))).run pins s1 σ H1 (fun y H2 => y = .str "b" ∧ H2 = H1) I1 ⟨rfl, rfl⟩) fun w s2 hw => ?_
  obtain ⟨y, H2, I2, r2, rfl, rfl⟩ := hw
  obtain ⟨t2, rfl⟩ := r2
  exact ⟨_, _, rfl, PySem.W.bin_field hn fun t' k => ⟨.str (PySem.W.binT n), H2, I2.tok _, ⟨_, rfl⟩, q⟩⟩
end
end VB
/-! zip of two sequences, each a list or a tuple -/
namespace VB
open PySem PySem.Spec PyProof.Rows L2
/-- a list (false) or a tuple (true) at l -/
def Sq (t : Bool) (h : Heap) (l : Addr) (xs : Array Value) : Prop := match t with
  | false => h.IsList l xs
  | true => h.IsTuple l xs
/-- its iterator at i, at the k-th place -/
def Si (t : Bool) (h : Heap) (i l : Addr) (k : Nat) : Prop := match t with
  | false => h.IsListIter i l k
  | true => h.IsTupleIter i l k
section
variable {t u : Bool} {h h' : Heap} {i l b : Addr} {k : Nat} {xs ys : Array Value}
theorem Sq.ext (x : Sq t h l xs) (e : Heap.ExtBut b h h') (n : l ≠ b) : Sq t h' l xs := by
  cases t with
  | false => exact Heap.IsList.extBut (show h.IsList l xs from x) e n
  | true => exact Heap.IsTuple.extBut (show h.IsTuple l xs from x) e n
theorem Si.ext (x : Si t h i l k) (e : Heap.ExtBut b h h') (n : i ≠ b) : Si t h' i l k := by
  cases t with
  | false => exact Heap.IsListIter.extBut (show h.IsListIter i l k from x) e n
  | true => exact Heap.IsTupleIter.extBut (show h.IsTupleIter i l k from x) e n
theorem Sq.psh (x : Sq t h l xs) (o : Obj) : Sq t (h.push o) l xs := by
  cases t with
  | false => exact Heap.IsList.push (show h.IsList l xs from x) o
  | true => exact Heap.IsTuple.push (show h.IsTuple l xs from x) o
theorem Si.stay (x : Si t h i l k) (e : ∀ o, h.get? i = some o → h'.get? i = some o) : Si t h' i l k := by
  cases t with
  | false => exact Heap.IsListIter.at (show h.IsListIter i l k from x) e
  | true => exact Heap.IsTupleIter.at (show h.IsTupleIter i l k from x) e
theorem Si.obj (x : Si t h i l k) : ∃ o, h.get? i = some o ∧ ∀ v, o.data ≠ .cell v := by
  cases t with
  | false =>
    obtain ⟨o, e, _, d⟩ := (show h.IsListIter i l k from x)
    exact ⟨o, e, fun v q => by rw [d] at q; cases q⟩
  | true =>
    obtain ⟨o, e, _, d⟩ := (show h.IsTupleIter i l k from x)
    exact ⟨o, e, fun v q => by rw [d] at q; cases q⟩
end
section
variable {prog : Program} {w : World} {A : Around} {E : Value → Shared → Prop} {s : Shared} {t u : Bool}
  {z T1 T2 i1 i2 l1 l2 : Addr} {k1 k2 : Nat} {xs ys : Array Value} {x y c d : Value}
theorem draw_item {it l : Addr} {k : Nat} {Q : Value → Shared → Prop} (hi : Si t s.heap it l k) (hl : Sq t s.heap l xs)
    (hx : xs[k]? = some x) (hq : ∀ h', Si t h' it l (k + 1) → Heap.SameBut it s.heap h' → Q x { s with heap := h' }) :
    wpAny (model prog w) A (Builtin.SmallTypes.nextOf (.ref it)) Q E s := by
  cases t with
  | false => exact wpAny_nextOf_list_item (show s.heap.IsListIter it l k from hi) (show s.heap.IsList l xs from hl) hx hq
  | true => exact RZ.nextOf_tuple_item (show s.heap.IsTupleIter it l k from hi) (show s.heap.IsTuple l xs from hl) hx hq
theorem draw_end {it l : Addr} {k : Nat} {Q : Value → Shared → Prop} (hh : A.handled = none) (hi : Si t s.heap it l k)
    (hl : Sq t s.heap l xs) (hx : xs[k]? = none)
    (he : ∀ h' e, Heap.ExtBut it s.heap h' → (∃ o, h'.get? e = some o ∧ o.cls = .type "StopIteration") → E (.ref e) { s with heap := h' }) :
    wpAny (model prog w) A (Builtin.SmallTypes.nextOf (.ref it)) Q E s := by
  cases t with
  | false => exact wpAny_nextOf_list_end hh (show s.heap.IsListIter it l k from hi) (show s.heap.IsList l xs from hl) hx he
  | true => exact RZ.nextOf_tuple_end hh (show s.heap.IsTupleIter it l k from hi) (show s.heap.IsTuple l xs from hl) hx he

/-- what a turn of the zip object leaves -/
structure ZTurn (t u : Bool) (h h' : Heap) (z T1 T2 i1 i2 l1 l2 : Addr) (k1 k2 : Nat) (x y : Value) : Prop where
  zip : IsZip h' z T1 T2 (rawInt h.objs.size)
  out : IsPair h' T2 x y
  it1 : Si t h' i1 l1 (k1 + 1)
  it2 : Si u h' i2 l2 (k2 + 1)
  new : IsPair h' h.objs.size x y
  size : h'.objs.size = h.objs.size + 1
  keep : ∀ b o, b ≠ z → b ≠ T2 → b ≠ i1 → b ≠ i2 → h.get? b = some o → h'.get? b = some o

theorem zmix_item {Q : Value → Shared → Prop} (D : ZipApart z T1 T2 i1 i2 l1 l2) (hz : IsZip s.heap z T1 T2 .none)
    (h1 : IsPair s.heap T1 (.ref i1) (.ref i2)) (h2 : IsPair s.heap T2 c d) (a1 : Si t s.heap i1 l1 k1) (a2 : Si u s.heap i2 l2 k2)
    (b1 : Sq t s.heap l1 xs) (b2 : Sq u s.heap l2 ys) (hx : xs[k1]? = some x) (hy : ys[k2]? = some y)
    (hq : ∀ h', ZTurn t u s.heap h' z T1 T2 i1 i2 l1 l2 k1 k2 x y → Q (.ref s.heap.objs.size) { s with heap := h' }) :
    wpAny (model prog w) A (Builtin.«zip.__next__» ⟨[.ref z], []⟩) (fun fin s' => ∃ v, fin = .done (.ret v) ∧ Q v s') E s := by
  show wpAny _ _ (field (.ref z) 2 >>= _) _ _ _
  refine wpAny_bind (wpAny_field hz rfl (x := .bool false) rfl ?_)
  show wpAny _ _ (field (.ref z) 3 >>= _) _ _ _
  refine wpAny_bind (wpAny_field hz rfl (x := .ref T1) rfl ?_)
  refine wpAny_bind (wpAny_seqItems h1 rfl ?_)
  show wpAny _ _ (Builtin.SmallTypes.ownedTupleIsFree (.ref z) >>= _) _ _ _
  refine wpAny_bind ?_
  unfold Builtin.SmallTypes.ownedTupleIsFree
  refine wpAny_bind (wpAny_field hz rfl (x := .none) rfl (wpAny_pure ?_))
  simp only [if_true]
  refine wpAny_bind (wpAny_rule ?_)
  refine wpAny_bind (wpAny_field hz rfl (x := .ref T2) rfl ?_)
  refine wpAny_bind (wpAny_setField_rec hz (by simp) ?_)
  intro g1 zg1 s1
  replace zg1 : IsZip g1 z T1 T2 .ellipsis := zg1
  refine wpAny_bind ?_
  simp only [List.zipIdx_cons, List.zipIdx_nil, List.forIn_cons, List.forIn_nil]
  -- the first one's item
  refine wpAny_bind (wpAny_bind (wpAny_onRaise ?_))
  show wpAny _ _ (Builtin.SmallTypes.nextOf (.ref i1) >>= _) _ _ _
  refine wpAny_bind (draw_item (a1.ext s1.extBut D.i1z) (b1.ext s1.extBut D.l1z) hx ?_)
  intro g2 n1 s2
  refine wpAny_pure ?_
  have o2 : IsPair g2 T2 c d := s2.extBut _ _ D.TOi1 (s1.extBut _ _ D.TOz h2)
  refine wpAny_bind (wpAny_seqItems o2 rfl ?_)
  refine wpAny_bind (wpAny_updateSeq_pair o2 ?_)
  intro g3 o3 s3
  replace o3 : IsPair g3 T2 x d := o3
  refine wpAny_bind (wpAny_letGo (wpAny_pure ?_))
  -- the second one's
  refine wpAny_bind (wpAny_bind (wpAny_onRaise ?_))
  show wpAny _ _ (Builtin.SmallTypes.nextOf (.ref i2) >>= _) _ _ _
  refine wpAny_bind (draw_item (((a2.ext s1.extBut D.i2z).ext s2.extBut D.i12.symm).ext s3.extBut D.TOi2.symm)
    (((b2.ext s1.extBut D.l2z).ext s2.extBut D.l2i1).ext s3.extBut D.l2TO) hy ?_)
  intro g4 n2 s4
  refine wpAny_pure ?_
  have o4 : IsPair g4 T2 x d := s4.extBut _ _ D.TOi2 o3
  refine wpAny_bind (wpAny_seqItems o4 rfl ?_)
  refine wpAny_bind (wpAny_updateSeq_pair o4 ?_)
  intro g5 o5 s5
  replace o5 : IsPair g5 T2 x y := o5
  refine wpAny_bind (wpAny_letGo (wpAny_pure (wpAny_pure ?_)))
  -- the pair
  refine wpAny_bind (wpAny_seqItems o5 rfl ?_)
  refine wpAny_bind (wpAny_newTuple ?_)
  have sz : g5.objs.size = s.heap.objs.size := by rw [s5.1, s4.1, s3.1, s2.1, s1.1]
  have z5 : IsZip g5 z T1 T2 .ellipsis :=
    s5.extBut _ _ D.TOz.symm (s4.extBut _ _ D.i2z.symm (s3.extBut _ _ D.TOz.symm (s2.extBut _ _ D.i1z.symm zg1)))
  have kp : ∀ b o, b ≠ z → b ≠ T2 → b ≠ i1 → b ≠ i2 → s.heap.get? b = some o → g5.get? b = some o := by
    intro b o e1 e2 e3 e4 e
    exact s5.extBut _ _ e2 (s4.extBut _ _ e4 (s3.extBut _ _ e2 (s2.extBut _ _ e3 (s1.extBut _ _ e1 e))))
  have m1 : Si t g5 i1 l1 (k1 + 1) := ((n1.ext s3.extBut D.TOi1.symm).ext s4.extBut D.i12).ext s5.extBut D.TOi1.symm
  have m2 : Si u g5 i2 l2 (k2 + 1) := n2.ext s5.extBut D.TOi2.symm
  have zlt : z < g5.objs.size := Heap.lt_size z5
  show wpAny _ _ (Builtin.SmallTypes.ownedTupleHandOut (.ref z) (.ref g5.objs.size) >>= _) _ _ _
  refine wpAny_bind ?_
  unfold Builtin.SmallTypes.ownedTupleHandOut
  have z6 : IsZip (g5.push { cls := .type "tuple", data := .seq #[x, y] }) z T1 T2 .ellipsis := Heap.get?_push_of_some _ z5
  refine wpAny_bind (wpAny_setField_rec z6 (by simp) ?_)
  intro g7 z7 s7
  replace z7 : IsZip g7 z T1 T2 (rawInt g5.objs.size) := z7
  refine wpAny_setField_rec z7 (by simp) ?_
  intro g8 z8 s8
  replace z8 : IsZip g8 z T1 T2 (rawInt g5.objs.size) := z8
  have up : ∀ b o, b ≠ z → g5.get? b = some o → g8.get? b = some o := fun b o n e =>
    s8.extBut _ _ n (s7.extBut _ _ n (Heap.get?_push_of_some _ e))
  have nz : g5.objs.size ≠ z := Nat.ne_of_gt zlt
  have p8 : IsPair g8 g5.objs.size x y := s8.extBut _ _ nz (s7.extBut _ _ nz (Heap.get?_push_size _ rfl))
  have l8 : g8.objs.size = g5.objs.size + 1 := by rw [s8.1, s7.1, Heap.size_push]
  rw [sz] at z8 p8 l8
  refine wpAny_pure ⟨_, rfl, ?_⟩
  show Q (.ref g5.objs.size) _
  rw [sz]
  exact hq g8 ⟨z8, up _ _ D.TOz o5, m1.stay (fun o => up _ o D.i1z), m2.stay (fun o => up _ o D.i2z), p8, l8,
    fun b o e1 e2 e3 e4 e => up b o e1 (kp b o e1 e2 e3 e4 e)⟩

theorem zmix_end {Q : Fin → Shared → Prop} (hh : A.handled = none) (D : ZipApart z T1 T2 i1 i2 l1 l2) (hz : IsZip s.heap z T1 T2 .none)
    (h1 : IsPair s.heap T1 (.ref i1) (.ref i2)) (h2 : IsPair s.heap T2 c d) (a1 : Si t s.heap i1 l1 k1) (a2 : Si u s.heap i2 l2 k2)
    (b1 : Sq t s.heap l1 xs) (b2 : Sq u s.heap l2 ys) (hend : xs[k1]? = none ∨ ys[k2]? = none)
    (he : ∀ h' e, (∀ b o, b ≠ z → b ≠ T2 → b ≠ i1 → b ≠ i2 → s.heap.get? b = some o → h'.get? b = some o) →
      (∃ o, h'.get? e = some o ∧ o.cls = .type "StopIteration") → E (.ref e) { s with heap := h' }) :
    wpAny (model prog w) A (Builtin.«zip.__next__» ⟨[.ref z], []⟩) Q E s := by
  show wpAny _ _ (field (.ref z) 2 >>= _) _ _ _
  refine wpAny_bind (wpAny_field hz rfl (x := .bool false) rfl ?_)
  show wpAny _ _ (field (.ref z) 3 >>= _) _ _ _
  refine wpAny_bind (wpAny_field hz rfl (x := .ref T1) rfl ?_)
  refine wpAny_bind (wpAny_seqItems h1 rfl ?_)
  show wpAny _ _ (Builtin.SmallTypes.ownedTupleIsFree (.ref z) >>= _) _ _ _
  refine wpAny_bind ?_
  unfold Builtin.SmallTypes.ownedTupleIsFree
  refine wpAny_bind (wpAny_field hz rfl (x := .none) rfl (wpAny_pure ?_))
  simp only [if_true]
  refine wpAny_bind (wpAny_rule ?_)
  refine wpAny_bind (wpAny_field hz rfl (x := .ref T2) rfl ?_)
  refine wpAny_bind (wpAny_setField_rec hz (by simp) ?_)
  intro g1 zg1 s1
  replace zg1 : IsZip g1 z T1 T2 .ellipsis := zg1
  refine wpAny_bind ?_
  simp only [List.zipIdx_cons, List.zipIdx_nil, List.forIn_cons, List.forIn_nil]
  refine wpAny_bind (wpAny_bind (wpAny_onRaise ?_))
  show wpAny _ _ (Builtin.SmallTypes.nextOf (.ref i1) >>= _) _ _ _
  cases hx : xs[k1]? with
  | none =>
    refine wpAny_bind (draw_end hh (a1.ext s1.extBut D.i1z) (b1.ext s1.extBut D.l1z) hx ?_)
    rintro g2 e s2 ⟨oe, he1, he2⟩
    have zg2 : IsZip g2 z T1 T2 .ellipsis := s2 _ _ D.i1z.symm zg1
    have ez : e ≠ z := by
      rintro rfl
      rw [zg2] at he1
      cases he1
      simp at he2
    refine wpAny_setField_rec zg2 (by simp) ?_
    intro g3 _ s3
    exact he g3 e (fun b o e1 _ e3 _ q => s3.extBut _ _ e1 (s2 _ _ e3 (s1.extBut _ _ e1 q))) ⟨oe, s3.extBut _ _ ez he1, he2⟩
  | some x =>
    have hy : ys[k2]? = none := by
      rcases hend with q | q
      · rw [hx] at q
        cases q
      · exact q
    refine wpAny_bind (draw_item (a1.ext s1.extBut D.i1z) (b1.ext s1.extBut D.l1z) hx ?_)
    intro g2 n1 s2
    refine wpAny_pure ?_
    have o2 : IsPair g2 T2 c d := s2.extBut _ _ D.TOi1 (s1.extBut _ _ D.TOz h2)
    refine wpAny_bind (wpAny_seqItems o2 rfl ?_)
    refine wpAny_bind (wpAny_updateSeq_pair o2 ?_)
    intro g3 o3 s3
    refine wpAny_bind (wpAny_letGo (wpAny_pure ?_))
    refine wpAny_bind (wpAny_bind (wpAny_onRaise ?_))
    show wpAny _ _ (Builtin.SmallTypes.nextOf (.ref i2) >>= _) _ _ _
    refine wpAny_bind (draw_end hh (((a2.ext s1.extBut D.i2z).ext s2.extBut D.i12.symm).ext s3.extBut D.TOi2.symm)
      (((b2.ext s1.extBut D.l2z).ext s2.extBut D.l2i1).ext s3.extBut D.l2TO) hy ?_)
    rintro g4 e s4 ⟨oe, he1, he2⟩
    have zg4 : IsZip g4 z T1 T2 .ellipsis := s4 _ _ D.i2z.symm (s3.extBut _ _ D.TOz.symm (s2.extBut _ _ D.i1z.symm zg1))
    have ez : e ≠ z := by
      rintro rfl
      rw [zg4] at he1
      cases he1
      simp at he2
    refine wpAny_setField_rec zg4 (by simp) ?_
    intro g5 _ s5
    exact he g5 e (fun b o e1 e2 e3 e4 q => s5.extBut _ _ e1 (s4 _ _ e4 (s3.extBut _ _ e2 (s2.extBut _ _ e3 (s1.extBut _ _ e1 q)))))
      ⟨oe, s5.extBut _ _ ez he1, he2⟩
end
end VB
/-! zip of two sequences, each a list or a tuple: its making, its walk -/
namespace VB
open PySem PySem.Spec PyProof.Rows L2
theorem Sv.inj {X : Cx} {pins : List (Addr × Obj)} {σ : L2.St} {H : Hp} {s : Shared} {t : Bool} {a : Addr} {xs ys : List V}
    (I : Inv X pins σ H s) (h : Sv t X.K H a xs) (h' : Sv t X.K H a ys) : xs = ys := by
  cases t with
  | false => exact I.list_inj (show SqL X.K H a xs from h) (show SqL X.K H a ys from h')
  | true => exact I.tuple_inj (show SqT X.K H a xs from h) (show SqT X.K H a ys from h')
theorem Sv.real {X : Cx} {pins : List (Addr × Obj)} {σ : L2.St} {H : Hp} {s : Shared} {t : Bool} {a : Addr} {xs : List V}
    (I : Inv X pins σ H s) (h : Sv t X.K H a xs) : ∃ its : List Value, Vals xs its ∧ Sq t s.heap a its.toArray ∧ a < s.heap.objs.size := by
  cases t with
  | false =>
    obtain ⟨its, r, p, _⟩ := I.list (show SqL X.K H a xs from h)
    exact ⟨its, r, p.isList, p.lt⟩
  | true =>
    obtain ⟨its, r, p, _⟩ := I.tuple (show SqT X.K H a xs from h)
    obtain ⟨o, ho, _⟩ := id p
    exact ⟨its, r, p, Heap.lt_size ho⟩
section
variable {prog : Program} {w : World} {A : Around} {E : Value → Shared → Prop} {s : Shared} {t u : Bool}
  {z T1 T2 i1 i2 l1 l2 : Addr} {k1 k2 : Nat} {xs ys : Array Value} {x y c d : Value}
theorem zmix_next {Q : Option Value → Shared → Prop} (D : ZipApart z T1 T2 i1 i2 l1 l2) (hz : IsZip s.heap z T1 T2 .none)
    (h1 : IsPair s.heap T1 (.ref i1) (.ref i2)) (h2 : IsPair s.heap T2 c d) (a1 : Si t s.heap i1 l1 k1) (a2 : Si u s.heap i2 l2 k2)
    (b1 : Sq t s.heap l1 xs) (b2 : Sq u s.heap l2 ys) (hx : xs[k1]? = some x) (hy : ys[k2]? = some y)
    (hq : ∀ h', ZTurn t u s.heap h' z T1 T2 i1 i2 l1 l2 k1 k2 x y → Q (some (.ref s.heap.objs.size)) { s with heap := h' }) :
    wpAny (model prog w) A (pyNext (.ref z)) Q E s := by
  have ty : s.TypeIs (.ref z) "zip" := ⟨_, hz, rfl⟩
  unfold pyNext
  refine wpAny_bind (wpAny_attempt ?_)
  refine wpAny_callSpecial?_slot (name := Str.ofString "__next__") ty F.slot_zip_next ?_
  refine wpAny_call_entry F.slot_zip_next ty F.entry_zip_next ?_ (F.args_zip_next_1 _)
  exact zmix_item D hz h1 h2 a1 a2 b1 b2 hx hy fun h' q => wpAny_pure (hq h' q)
theorem zmix_stop {Q : Option Value → Shared → Prop} (hh : A.handled = none) (D : ZipApart z T1 T2 i1 i2 l1 l2) (hz : IsZip s.heap z T1 T2 .none)
    (h1 : IsPair s.heap T1 (.ref i1) (.ref i2)) (h2 : IsPair s.heap T2 c d) (a1 : Si t s.heap i1 l1 k1) (a2 : Si u s.heap i2 l2 k2)
    (b1 : Sq t s.heap l1 xs) (b2 : Sq u s.heap l2 ys) (hend : xs[k1]? = none ∨ ys[k2]? = none)
    (hq : ∀ h', (∀ b o, b ≠ z → b ≠ T2 → b ≠ i1 → b ≠ i2 → s.heap.get? b = some o → h'.get? b = some o) → Q none { s with heap := h' }) :
    wpAny (model prog w) A (pyNext (.ref z)) Q E s := by
  have ty : s.TypeIs (.ref z) "zip" := ⟨_, hz, rfl⟩
  unfold pyNext
  refine wpAny_bind (wpAny_attempt ?_)
  refine wpAny_callSpecial?_slot (name := Str.ofString "__next__") ty F.slot_zip_next ?_
  refine wpAny_call_entry F.slot_zip_next ty F.entry_zip_next ?_ (F.args_zip_next_1 _)
  refine zmix_end hh D hz h1 h2 a1 a2 b1 b2 hend ?_
  rintro h' e kp ⟨o, ho, hc⟩
  refine wpAny_bind (wpAny_isInstance (T := "StopIteration") (b := true) ⟨o, ho, hc⟩ isSubtype_stop ?_)
  exact wpAny_pure (hq _ kp)
end
/-- an iterator over l, new -/
def itO (t : Bool) (l : Addr) : Obj := match t with
  | false => { cls := .type "list_iterator", data := .fields #[.ref l, .int 0 0] }
  | true => { cls := .type "tuple_iterator", data := .fields #[.ref l, .int 0 0] }
section
variable (t u : Bool) (h : Heap) (l1 l2 : Addr)
abbrev zm1 : Heap := h.push (itO t l1)
abbrev zm2 : Heap := (zm1 t h l1).push (itO u l2)
abbrev zm3 : Heap := (zm2 t u h l1 l2).push { cls := .type "tuple", data := .seq #[.ref h.objs.size, .ref (zm1 t h l1).objs.size] }
abbrev zm4 : Heap := (zm3 t u h l1 l2).push { cls := .type "tuple", data := .seq #[.none, .none] }
abbrev zm5 : Heap := (zm4 t u h l1 l2).push { cls := .type "zip", data := .fields #[.none, .bool false, .bool false, .ref (zm2 t u h l1 l2).objs.size, .ref (zm3 t u h l1 l2).objs.size] }
end
theorem meets_zmix (t u : Bool) (l1 l2 : Addr) (xs ys : Array Value) :
    Meets (Builtin.«zip.__new__» ⟨[.type "zip", .ref l1, .ref l2], []⟩) (fun _ R s => Sq t s.heap l1 xs ∧ Sq u s.heap l2 ys ∧
      R (.ok (.ret (.ref (zm4 t u s.heap l1 l2).objs.size))) { s with heap := zm5 t u s.heap l1 l2 }) := by
  refine .of_wp ?_
  rintro prog w A R ⟨hp, g, d, tk, os⟩ ⟨b1, b2, h⟩
  have sub := sub_zip
  have c2 : Sq u (hp.push (itO t l1)) l2 ys := b2.psh _
  cases t with
  | false =>
    have e1 : Heap.IsList (Shared.heap ⟨hp, g, d, tk, os⟩) l1 xs := b1
    cases u with
    | false =>
      have e2 : Heap.IsList (Shared.heap ⟨hp.push { cls := .type "list_iterator", data := .fields #[.ref l1, .int 0 0] }, g, d, tk, os⟩) l2 ys := c2
      wp_walk using wpAny_pyIter_list e1, wpAny_pyIter_list e2
      exact ⟨_, rfl, h⟩
    | true =>
      have e2 : Heap.IsTuple (Shared.heap ⟨hp.push { cls := .type "list_iterator", data := .fields #[.ref l1, .int 0 0] }, g, d, tk, os⟩) l2 ys := c2
      wp_walk using wpAny_pyIter_list e1, wpAny_pyIter_tuple e2
      exact ⟨_, rfl, h⟩
  | true =>
    have e1 : Heap.IsTuple (Shared.heap ⟨hp, g, d, tk, os⟩) l1 xs := b1
    cases u with
    | false =>
      have e2 : Heap.IsList (Shared.heap ⟨hp.push { cls := .type "tuple_iterator", data := .fields #[.ref l1, .int 0 0] }, g, d, tk, os⟩) l2 ys := c2
      wp_walk using wpAny_pyIter_tuple e1, wpAny_pyIter_list e2
      exact ⟨_, rfl, h⟩
    | true =>
      have e2 : Heap.IsTuple (Shared.heap ⟨hp.push { cls := .type "tuple_iterator", data := .fields #[.ref l1, .int 0 0] }, g, d, tk, os⟩) l2 ys := c2
      wp_walk using wpAny_pyIter_tuple e1, wpAny_pyIter_tuple e2
      exact ⟨_, rfl, h⟩
theorem si_new {t : Bool} {h : Heap} {i l : Addr} (e : h.get? i = some (itO t l)) : Si t h i l 0 := by
  cases t with
  | false => exact ⟨_, e, rfl, rfl⟩
  | true => exact ⟨_, e, rfl, rfl⟩
section
variable {prog : Program} {w : World} {A : Around} {E : Value → Shared → Prop} {s : Shared} {t u : Bool}
/-- what zip's call leaves -/
structure ZNew (t u : Bool) (h h' : Heap) (l1 l2 : Addr) : Prop where
  zip : IsZip h' (h.objs.size + 4) (h.objs.size + 2) (h.objs.size + 3) .none
  its : IsPair h' (h.objs.size + 2) (.ref h.objs.size) (.ref (h.objs.size + 1))
  out : IsPair h' (h.objs.size + 3) .none .none
  it1 : Si t h' h.objs.size l1 0
  it2 : Si u h' (h.objs.size + 1) l2 0
  keep : ∀ b o, h.get? b = some o → h'.get? b = some o
theorem call_zmix {l1 l2 : Addr} {xs ys : Array Value} {Q : Value → Shared → Prop} (b1 : Sq t s.heap l1 xs) (b2 : Sq u s.heap l2 ys)
    (hq : ∀ h', ZNew t u s.heap h' l1 l2 → Q (.ref (s.heap.objs.size + 4)) { s with heap := h' }) :
    wpAny (model prog w) A (call (.type "zip") [.ref l1, .ref l2]) Q E s := by
  refine callType_new F.called_zip (by decide) (F.typeCall_zip_2 _ _) (F.newCall_zip_2 _ _) (fun obj => F.args_object_init_3 obj _ _)
    F.entry_zip_new (meets_zmix t u l1 l2 xs ys) ⟨b1, b2, ?_⟩
  have n1 : (zm1 t s.heap l1).objs.size = s.heap.objs.size + 1 := Heap.size_push ..
  have n2 : (zm2 t u s.heap l1 l2).objs.size = s.heap.objs.size + 2 := by rw [Heap.size_push, n1]
  have n3 : (zm3 t u s.heap l1 l2).objs.size = s.heap.objs.size + 3 := by rw [Heap.size_push, n2]
  have n4 : (zm4 t u s.heap l1 l2).objs.size = s.heap.objs.size + 4 := by rw [Heap.size_push, n3]
  have f5 : itO t l1 = itO t l1 := rfl
  have nf : ∀ (b : Bool) (l : Addr), (itO b l).isFreed = false := fun b l => by cases b <;> rfl
  have g5 : (zm5 t u s.heap l1 l2).get? (zm4 t u s.heap l1 l2).objs.size = some _ := Heap.get?_push_size _ rfl
  have g4 : (zm5 t u s.heap l1 l2).get? (zm3 t u s.heap l1 l2).objs.size = some _ := Heap.get?_push_of_some _ (Heap.get?_push_size _ rfl)
  have g3 : (zm5 t u s.heap l1 l2).get? (zm2 t u s.heap l1 l2).objs.size = some _ := Heap.get?_push_of_some _ (Heap.get?_push_of_some _ (Heap.get?_push_size _ rfl))
  have g2 : (zm5 t u s.heap l1 l2).get? (zm1 t s.heap l1).objs.size = some (itO u l2) :=
    Heap.get?_push_of_some _ (Heap.get?_push_of_some _ (Heap.get?_push_of_some _ (Heap.get?_push_size _ (nf u l2))))
  have g1 : (zm5 t u s.heap l1 l2).get? s.heap.objs.size = some (itO t l1) :=
    Heap.get?_push_of_some _ (Heap.get?_push_of_some _ (Heap.get?_push_of_some _ (Heap.get?_push_of_some _ (Heap.get?_push_size _ (nf t l1)))))
  show _ ∧ _
  rw [n2, n3, n4] at g5
  rw [n1, n2] at g3
  rw [n3] at g4
  rw [n1] at g2
  rw [n4]
  refine ⟨⟨_, g5, rfl⟩, hq _ ⟨g5, g3, g4, si_new g1, si_new g2, ?_⟩⟩
  intro b o e
  exact Heap.get?_push_of_some _ (Heap.get?_push_of_some _ (Heap.get?_push_of_some _ (Heap.get?_push_of_some _ (Heap.get?_push_of_some _ e))))
end
/-- two sequences as they stand at each turn, the items in new pairs -/
def Itm (t u : Bool) (K : PySem.W.Frag) (a b : Addr) : It :=
  ⟨fun i H => ∃ (xs ys : List V) (x y : V), Sv t K H a xs ∧ Sv u K H b ys ∧ xs[i]? = some x ∧ ys[i]? = some y,
    fun i H v H' => ∃ N x y, v = .ref N ∧ H N = none ∧ H' = upd H N (.tup [x, y]) ∧ (∀ xs, Sv t K H a xs → xs[i]? = some x) ∧ ∀ ys, Sv u K H b ys → ys[i]? = some y,
    fun i H => ∃ xs ys : List V, Sv t K H a xs ∧ Sv u K H b ys ∧ (xs.length ≤ i ∨ ys.length ≤ i)⟩
theorem in5 {a b c d e x : Addr} (h : x ∈ [a, b, c, d, e]) : x = a ∨ x = b ∨ x = c ∨ x = d ∨ x = e := by simpa using h
theorem turn_zmix {P : Program} {w : World} {K : PySem.W.Frag} {t u : Bool} {elts : List Expr} {kk : Nat} {tpos : Pos} {a b z T1 T2 i1 i2 : Addr}
    (D : ZipApart z T1 T2 i1 i2 a b) : Turn P w K (.Tuple elts kk tpos) (Itm t u K a b) [z, T1, T2, i1, i2] z
      (fun i h => IsZip h z T1 T2 .none ∧ IsPair h T1 (.ref i1) (.ref i2) ∧ (∃ x y, IsPair h T2 x y) ∧ Si t h i1 a i ∧ Si u h i2 b i) := by
  refine ⟨by simp, ?_, ?_, ?_, ?_, ?_⟩
  · rintro i h ⟨hz, h1, ⟨x, y, h2⟩, a1, a2⟩ c hc
    rcases in5 hc with rfl | rfl | rfl | rfl | rfl
    · exact ⟨_, hz, fun v q => nomatch q⟩
    · exact ⟨_, h1, fun v q => nomatch q⟩
    · exact ⟨_, h2, fun v q => nomatch q⟩
    · exact a1.obj
    · exact a2.obj
  · rintro i h h' ⟨hz, h1, ⟨x, y, h2⟩, a1, a2⟩ k
    exact ⟨k z (by simp) _ hz, k T1 (by simp) _ h1, ⟨x, y, k T2 (by simp) _ h2⟩, a1.stay fun o q => k i1 (by simp) o q, a2.stay fun o q => k i2 (by simp) o q⟩
  · intro X hP hw hK hc i pins s σ H E I hf st hg
    subst hP hw hK
    obtain ⟨hz, h1, ⟨x0, y0, h2⟩, a1, a2⟩ := st
    obtain ⟨xs, ys, x, y, qx, qy, hx, hy⟩ := hg
    obtain ⟨its, rv, p, _⟩ := qx.real I
    obtain ⟨its2, rv2, p2, _⟩ := qy.real I
    obtain ⟨v1, hv1, r1⟩ := rv.get hx
    obtain ⟨v2, hv2, r2⟩ := rv2.get hy
    have zl : z < s.heap.objs.size := Heap.lt_size hz
    refine zmix_next D hz h1 h2 a1 a2 p p2 (x := v1) (y := v2) (by simpa using hv1) (by simpa using hv2) ?_
    intro g T
    refine ⟨_, rfl, wpAny_letOwnedTupleGo_zip (s := { s with heap := g }) T.zip ?_⟩
    intro g2 z2 sb
    have nN : s.heap.objs.size ≠ z := Nat.ne_of_gt zl
    have pN : g2.get? s.heap.objs.size = some { cls := .type "tuple", data := .seq #[v1, v2] } := (sb.2 _ nN).trans T.new
    have ok : ObjOk X.prog X.w (upd H s.heap.objs.size (.tup [x, y])) g2 s.heap.objs.size (.tup [x, y]) :=
      ⟨by show 2 ≤ sizeLine; decide, [v1, v2], .cons r1 (.cons r2 .nil), ⟨_, pN, rfl, _, rfl⟩⟩
    have J : Inv X pins σ (upd H s.heap.objs.size (.tup [x, y])) { s with heap := g2 } := by
      refine I.turnedNew (t' := s.toks) (ch := [z, T1, T2, i1, i2]) ?_ hf (Nat.le_refl _) ok
      intro c o hb q
      have n : c ≠ z ∧ c ≠ T2 ∧ c ≠ i1 ∧ c ≠ i2 := ⟨fun e => hb (by simp [e]), fun e => hb (by simp [e]), fun e => hb (by simp [e]), fun e => hb (by simp [e])⟩
      exact (sb.2 c n.1).trans (T.keep c o n.1 n.2.1 n.2.2.1 n.2.2.2 q)
    refine ⟨.ref s.heap.objs.size, _, J, rfl, ⟨_, x, y, rfl, I.hok.fresh (Nat.le_refl _), rfl, ?_, ?_⟩, ⟨z2, ?_, ⟨v1, v2, ?_⟩, ?_, ?_⟩, ?_⟩
    · intro l hl
      rw [hl.inj I qx]
      exact hx
    · intro l hl
      rw [hl.inj I qy]
      exact hy
    · exact (sb.2 _ D.TIz).trans (T.keep _ _ D.TIz D.TITO D.TIi1 D.TIi2 h1)
    · exact (sb.2 _ D.TOz).trans T.out
    · exact T.it1.stay fun o q => (sb.2 _ D.i1z).trans q
    · exact T.it2.stay fun o q => (sb.2 _ D.i2z).trans q
    · intro c hcm
      have lt : c < s.heap.objs.size := by
        rcases in5 hcm with rfl | rfl | rfl | rfl | rfl
        · exact zl
        · exact Heap.lt_size h1
        · exact Heap.lt_size h2
        · obtain ⟨_, e, _⟩ := a1.obj
          exact Heap.lt_size e
        · obtain ⟨_, e, _⟩ := a2.obj
          exact Heap.lt_size e
      rw [upd_ne (Nat.ne_of_lt lt)]
      exact (hf c hcm).1
  · intro X hP hw hK hc i pins s σ H E I hf st hg
    subst hP hw hK
    obtain ⟨hz, h1, ⟨x0, y0, h2⟩, a1, a2⟩ := st
    obtain ⟨xs, ys, qx, qy, hend⟩ := hg
    obtain ⟨its, rv, p, _⟩ := qx.real I
    obtain ⟨its2, rv2, p2, _⟩ := qy.real I
    have e1 := rv.length
    have e2 := rv2.length
    have he : its.toArray[i]? = none ∨ its2.toArray[i]? = none := by
      rcases hend with q | q
      · exact .inl (by simp; omega)
      · exact .inr (by simp; omega)
    refine zmix_stop (I.ok.hd hc) D hz h1 h2 a1 a2 p p2 he ?_
    intro g kp
    refine ⟨rfl, I.turnedL (t' := s.toks) (ch := [z, T1, T2, i1, i2]) ?_ hf⟩
    intro c o hb q
    exact kp c o (fun e => hb (by simp [e])) (fun e => hb (by simp [e])) (fun e => hb (by simp [e])) (fun e => hb (by simp [e])) q
  · intro A i s Q E st h
    exact wpAny_pyIter_zip st.1 h
/-- zip(e, e2): lists and tuples, in any mixture -/
def iZm (K : PySem.W.Frag) (ta : TA) : TI := fun σ H R => ta σ H fun vs H1 => ∃ (t u : Bool) (a b : Addr) (xs ys : List V), vs = [.ref a, .ref b] ∧
  Sv t K H1 a xs ∧ Sv u K H1 b ys ∧ R (Itm t u K a b) H1
theorem pi_zm {X : Cx} {K : PySem.W.Frag} {e e2 : Expr} {ta : TA} {p pos tpos : Pos} {elts : List Expr} {kk : Nat} (hg : Gl X "zip") (hm : X.mg "zip" = none) (ha : PA X [e, e2] ta) (hK : X.K = K := by rfl)
    (hs : starEach [e, e2] X.env = (false, eval e X.env) :: starEach [e2] X.env := by rfl) (hpl : (backTo pos (starEach [e2] X.env)).any (·.1) = false := by rfl) :
    PI X (.Tuple elts kk tpos) (.Call (.Name "zip" p) [e, e2] [] pos) (iZm K ta) := by
  subst hK
  constructor
  intro pins s σ H R I h
  refine Call_ (ld_blt I hg hm PyProof.Rows.boot_zip (PyProof.Rows.callWith_type1 (thn (ha.run pos pins s σ H _ I h) ?_) hs hpl))
  rintro us s1 ⟨vs, H1, I1, r1, t, u, a, b, xs, ys, rfl, qx, qy, q⟩
  obtain ⟨w1, w2, rfl, ra, rb⟩ := vals2 r1
  cases (show w1 = Value.ref a from ra)
  cases (show w2 = Value.ref b from rb)
  obtain ⟨its, rv, p1, lt1⟩ := qx.real I1
  obtain ⟨its2, rv2, p2, lt2⟩ := qy.real I1
  refine call_zmix p1 p2 ?_
  intro h' Z
  refine wpAny_pyIter_zip Z.zip ?_
  have I2 : Inv X pins σ H1 { s1 with heap := h' } := I1.kept (t' := s1.toks) Z.keep
  let n := s1.heap.objs.size
  refine ⟨n + 4, [n + 4, n + 2, n + 3, n, n + 1], _, _, H1, rfl, I2, turn_zmix (PySem.W.ktu_apart n a b lt1 lt2), ⟨Z.zip, Z.its, ⟨_, _, Z.out⟩, Z.it1, Z.it2⟩, ?_, q⟩
  intro c hc
  have le : n ≤ c := by
    show s1.heap.objs.size ≤ c
    rcases in5 hc with e | e | e | e | e
    · have e' : @Eq Nat c (s1.heap.objs.size + 4) := e
      omega
    · have e' : @Eq Nat c (s1.heap.objs.size + 2) := e
      omega
    · have e' : @Eq Nat c (s1.heap.objs.size + 3) := e
      omega
    · have e' : @Eq Nat c (s1.heap.objs.size) := e
      omega
    · have e' : @Eq Nat c (s1.heap.objs.size + 1) := e
      omega
  exact I1.fpOk le (I1.hok.fresh le)
/-- the walk -/
theorem walk_zm {t u : Bool} {K : PySem.W.Frag} {a b : Addr} {xs ys : List V} {n : Nat} (hn : n = min xs.length ys.length) :
    Walk (Itm t u K a b) n (fun H => Sv t K H a xs ∧ Sv u K H b ys) (YPair (fun i => xs[i]?) (fun i => ys[i]?)) := by
  subst hn
  refine ⟨?_, ?_, ?_⟩
  · intro i H hi q
    have h1 : i < xs.length := by omega
    have h2 : i < ys.length := by omega
    exact ⟨xs, ys, xs[i], ys[i], q.1, q.2, by simp [h1], by simp [h2]⟩
  · intro H q
    exact ⟨xs, ys, q.1, q.2, by omega⟩
  · rintro i H x H' _ q ⟨N, v, v', h1, h2, h3, h4, h5⟩
    exact ⟨N, v, v', h1, h2, h3, h4 xs q.1, h5 ys q.2⟩
end VB
/-! comprehensions that change nothing, of any values -/
namespace VB
open PySem PySem.Spec PyProof.Rows L2
theorem lc_pureVS {J : It} {G : Hp → Prop} {n j : Nat} {us : List V} {xs : List V} {te : TE} {vs : List Nat} {σ : L2.St} {H1 : Hp} {D : Addr} {Qd : Hp → Prop} (wk : Walk J n G (YAt xs)) (hG : ∀ H, Evl.Ex H1 H → G H)
    (hl : us.length = n) (hz : n ≤ 60000) (hD : H1 D = none) (hw : ∀ x, wipe ((wipe σ vs).set j x) vs = wipe σ vs)
    (hs : ∀ (i : Nat) (x : V) (u : V) (H : Hp) (Q : VK), xs[i]? = some x → us[i]? = some u → Evl.Ex H1 H → (∀ H' : Hp, Evl.Ex H H' → Q u H') → te ((wipe σ vs).set j (some x)) H Q)
    (hd : ∀ H, Evl.Ex H1 H → H D = some (.lst us) → Qd H) :
    ∃ W : Nat → Nat → Hp → Prop, (∃ m, W 0 m (upd H1 D (.lst []))) ∧ ∀ i m H, W i m H →
      (J.stop i H ∧ Qd H) ∨ (J.go i H ∧ ∃ Nx : Hp → Prop, (∀ H', Nx H' → ∃ m', m' < m ∧ W (i + 1) m' H') ∧ ∀ x H', J.yld i H x H' →
        gName j x (wipe σ vs) H' fun σ2 H2 => wipe σ2 vs = wipe σ vs ∧ tYes σ2 H2 fun b H3 =>
        if b = true then te σ2 H3 fun y H4 => ∃ acc, H4 D = some (.lst acc) ∧ acc.length < sizeLine ∧ Nx (upd H4 D (.lst (acc ++ [y]))) else Nx H3) := by
  refine lc_it wk (fun i H' => Evl.Ex H1 H' ∧ i ≤ n ∧ H' D = some (.lst (us.take i))) ⟨Evl.Ex.new hD, Nat.zero_le _, upd_same⟩ (fun i H _ h => hG H h.1) ?_ ?_
  · rintro i x H H' hi ⟨e1, hi2, h1⟩ ⟨rfl, hx⟩
    refine ⟨hw _, ?_⟩
    obtain ⟨u, hu⟩ : ∃ u, us[i]? = some u := ⟨us[i]'(by omega), by simp [show i < us.length by omega]⟩
    show te _ H' _
    refine hs i x u H' _ hx hu e1 fun H'' e2 => ⟨_, e2 D _ h1, ?_, Evl.Ex.mut (e1.trans e2) hD, by omega, ?_⟩
    · rw [List.length_take]
      exact Evl.sz_lt (by omega)
    · rw [upd_same, take_snoc hu]
  · rintro H ⟨e1, _, h1⟩
    refine hd H e1 ?_
    rw [h1, ← hl, List.take_length]
/-- .. over pairs -/
theorem lc_pureVZ {K : PySem.W.Frag} {J : It} {G : Hp → Prop} {n j1 j2 : Nat} {us : List V} {xs ys : Nat → Option V} {te : TE} {vs : List Nat} {σ : L2.St} {H1 : Hp} {D : Addr} {Qd : Hp → Prop} (wk : Walk J n G (YPair xs ys)) (hG : ∀ H, Evl.Ex H1 H → G H)
    (hl : us.length = n) (hz : n ≤ 60000) (hD : H1 D = none) (hw : ∀ x y, wipe (((wipe σ vs).set j1 x).set j2 y) vs = wipe σ vs)
    (hs : ∀ (i : Nat) (x y : V) (u : V) (H : Hp) (Q : VK), xs i = some x → ys i = some y → us[i]? = some u → Evl.Ex H1 H → (∀ H' : Hp, Evl.Ex H H' → Q u H') → te (((wipe σ vs).set j1 (some x)).set j2 (some y)) H Q)
    (hd : ∀ H, Evl.Ex H1 H → H D = some (.lst us) → Qd H) :
    ∃ W : Nat → Nat → Hp → Prop, (∃ m, W 0 m (upd H1 D (.lst []))) ∧ ∀ i m H, W i m H →
      (J.stop i H ∧ Qd H) ∨ (J.go i H ∧ ∃ Nx : Hp → Prop, (∀ H', Nx H' → ∃ m', m' < m ∧ W (i + 1) m' H') ∧ ∀ x H', J.yld i H x H' →
        gTup K 2 (gCons (gName j1) (gCons (gName j2) gNil)) x (wipe σ vs) H' fun σ2 H2 => wipe σ2 vs = wipe σ vs ∧ tYes σ2 H2 fun b H3 =>
        if b = true then te σ2 H3 fun y H4 => ∃ acc, H4 D = some (.lst acc) ∧ acc.length < sizeLine ∧ Nx (upd H4 D (.lst (acc ++ [y]))) else Nx H3) := by
  refine lc_it wk (fun i H' => Evl.Ex H1 H' ∧ i ≤ n ∧ H' D = some (.lst (us.take i))) ⟨Evl.Ex.new hD, Nat.zero_le _, upd_same⟩ (fun i H _ h => hG H h.1) ?_ ?_
  · rintro i v H H' hi ⟨e1, hi2, h1⟩ ⟨T, x, y, rfl, hT, rfl, hx, hy⟩
    have eT := Evl.Ex.new (o := .tup [x, y]) hT
    refine ⟨T, _, rfl, SqT.of upd_same, rfl, x, _, rfl, ⟨y, _, rfl, ?_⟩⟩
    refine ⟨rfl, hw _ _, ?_⟩
    obtain ⟨u, hu⟩ : ∃ u, us[i]? = some u := ⟨us[i]'(by omega), by simp [show i < us.length by omega]⟩
    show te _ _ _
    refine hs i x y u _ _ hx hy hu (e1.trans eT) fun H'' e2 => ⟨_, e2 D _ (eT D _ h1), ?_, Evl.Ex.mut ((e1.trans eT).trans e2) hD, by omega, ?_⟩
    · rw [List.length_take]
      exact Evl.sz_lt (by omega)
    · rw [upd_same, take_snoc hu]
  · rintro H ⟨e1, _, h1⟩
    refine hd H e1 ?_
    rw [h1, ← hl, List.take_length]
/-- a sequence's type -/
theorem Sv.ty {t : Bool} {K : PySem.W.Frag} {H : Hp} {a : Addr} {xs : List V} (h : Sv t K H a xs) : TyX K H (.ref a) (.type (if t then "tuple" else "list")) := by
  cases t with
  | false =>
    have h : SqL K H a xs := h
    rcases h with (h | ⟨o, h⟩) | ⟨o, its, n, h, c, _⟩
    · exact .base (.lst h)
    · exact .base (.frz h)
    · exact .kList h c
  | true =>
    have h : SqT K H a xs := h
    rcases h with (h | ⟨o, h⟩) | ⟨o, its, n, h, c, _⟩
    · exact .base (.tup h)
    · exact .fTuple h
    · exact .kTuple h c
theorem kit_seq (K : PySem.W.Frag) (t : Bool) : PySem.W.kitAny K (.type (if t then "tuple" else "list")) [.type "list", .type "tuple"] = some true := by
  cases t with
  | false => exact kitAny_cons (b := true) (kit_ty (by decide +kernel)) (fun z => nomatch z) (fun _ => rfl)
  | true => exact kitAny_cons (b := false) (kit_ty (by decide +kernel)) (fun _ => kitAny_cons (b := true) (kit_ty (by decide +kernel)) (fun z => nomatch z) (fun _ => rfl)) (fun z => nomatch z)
/-- an int of the module -/
theorem pe_globI {X : Cx} {x : Str} {i : Int} {pos : Pos} (hg : Gl X x) (h : ∃ t, X.mg x = some (.int i t)) (hd : (x == ("__debug__" : Str)) = false := by decide) : PE X (.Name x pos) (tC (.int i)) := by
  obtain ⟨t, h⟩ := h
  exact pe_glob hg h ⟨_, rfl⟩ hd
end VB
/-! what the laws share -/
namespace VB
open PySem PySem.Spec PyProof.Rows L2 BM
section
variable {P : Program} {w : World} {K : PySem.W.Frag} {mg : Str → Option Value} {base : Heap} {f : Addr} {fd : FuncData}
/-- at a: a box: what is left of the digits, whether they count, the seed, the draws so far (below n) -/
def Box (H : Hp) (a : Addr) (n : Int) : Prop := ∃ (d m c : Int) (b : Bool), H a = some (.lst [.int d, .bl b, .int m, .int c]) ∧ 0 ≤ d ∧ 0 ≤ m ∧ m < 2147483629 ∧ 0 ≤ c ∧ c ≤ n
/-- all but what stands at a is as it was -/
def Exb (a : Addr) (H H' : Hp) : Prop := ∀ b o, b ≠ a → H b = some o → H' b = some o
theorem Exb.upd {a : Addr} {H : Hp} {o : HO} : Exb a H (upd H a o) := fun b u n e => by rw [upd_ne n]; exact e
theorem Exb.trans {a : Addr} {H H1 H2 : Hp} (x : Exb a H H1) (y : Exb a H1 H2) : Exb a H H2 := fun b o n e => y b o n (x b o n e)
theorem Exb.of {a : Addr} {H H' : Hp} (x : Evl.Ex H H') : Exb a H H' := fun b o _ e => x b o e
theorem Exb.new {a p : Addr} {H : Hp} {o : HO} (h : H p = none) : Exb a H (L2.upd H p o) := Exb.of (Evl.Ex.new h)
theorem Box.ex {H H' : Hp} {a : Addr} {n : Int} (b : Box H a n) (e : Evl.Ex H H') : Box H' a n := by
  obtain ⟨d, m, c, k, h, r⟩ := b
  exact ⟨d, m, c, k, e _ _ h, r⟩
theorem Box.at {H : Hp} {a p : Addr} {n : Int} (b : Box H a n) (h : H p = none) : p ≠ a := by
  obtain ⟨d, m, c, k, e, r⟩ := b
  rintro rfl
  rw [h] at e
  cases e
theorem Box.le {H : Hp} {a : Addr} {n m : Int} (b : Box H a n) (h : n ≤ m) : Box H a m := by
  obtain ⟨d, m', c, k, e, r1, r2, r3, r4, r5⟩ := b
  exact ⟨d, m', c, k, e, r1, r2, r3, r4, by omega⟩
abbrev ws8 : List Int := [128, 64, 32, 16, 8, 4, 2, 1]
theorem ws8_get {j : Nat} {u : Int} (h : ws8[j]? = some u) : 0 < u ∧ u ≤ 128 := by
  have m := List.mem_of_getElem? h
  simp only [ws8, List.mem_cons, List.not_mem_nil, or_false] at m
  omega
theorem bitsOf_ws (o : Int) : bitsOf o = ws8.map fun u => o / u % 2 := rfl
theorem octetsN_snoc : ∀ (n : Nat) (bs : List Int), octetsN (n + 1) bs = octetsN n bs ++ [octOf ((bs.drop (8 * n)).take 8)]
  | 0, bs => rfl
  | n + 1, bs => by
    show octOf (bs.take 8) :: octetsN (n + 1) (bs.drop 8) = octOf (bs.take 8) :: octetsN n (bs.drop 8) ++ _
    rw [octetsN_snoc n (bs.drop 8), List.drop_drop]
    have e : 8 + 8 * n = 8 * (n + 1) := by omega
    rw [e]
    rfl
theorem octetsN_len : ∀ (n : Nat) (bs : List Int), (octetsN n bs).length = n
  | 0, _ => rfl
  | n + 1, bs => by
    show (octetsN n (bs.drop 8)).length + 1 = _
    rw [octetsN_len n]
theorem cut8 (bs : List Int) (i : Nat) (hi : 8 * i ≤ bs.length) : cutV (IV bs) (some (0 + (i : Int) * 8)) (some (0 + (i : Int) * 8 + 8)) = IV ((bs.drop (8 * i)).take 8) := by
  have e1 : (0 : Int) + (i : Int) * 8 = ((8 * i : Nat) : Int) := by omega
  have e2 : ((8 * i : Nat) : Int) + 8 = ((8 * i + 8 : Nat) : Int) := by omega
  unfold cutV
  rw [e1, e2, HT.sIx_nat, HT.sIx_nat, iv_len, ← List.map_drop, ← List.map_take]
  have e3 : min (8 * i) bs.length = 8 * i := by omega
  rw [e3]
  congr 1
  rw [List.take_eq_take_iff, List.length_drop]
  omega
theorem octOf_snoc (bs : List Int) (b : Int) : octOf (bs ++ [b]) = 2 * octOf bs + b := by
  unfold octOf
  rw [List.foldl_append]
  rfl
theorem if_ne {x y : Int} {A B : Prop} (h1 : x ≠ y → A) (h2 : x = y → B) : if (!decide (V.int x = V.int y)) = true then A else B := by
  by_cases e : x = y
  · rw [decide_eq_true (congrArg V.int e)]
    exact iteF (h2 e)
  · rw [decide_eq_false (fun z => e (V.int.inj z))]
    exact iteT (h1 e)
theorem if_eq {x y : Int} {A B : Prop} (h1 : x = y → A) (h2 : x ≠ y → B) : if decide (V.int x = V.int y) = true then A else B := by
  by_cases e : x = y
  · rw [decide_eq_true (congrArg V.int e)]
    exact iteT (h1 e)
  · rw [decide_eq_false (fun z => e (V.int.inj z))]
    exact iteF (h2 e)
theorem drop_get {α : Type} {l : List α} {i : Nat} {x : α} (h : l[i]? = some x) : l.drop i = x :: l.drop (i + 1) := by
  obtain ⟨hi, e⟩ := List.getElem?_eq_some_iff.mp h
  rw [List.drop_eq_getElem_cons hi, e]
theorem get_lt {α : Type} {l : List α} {i : Nat} (h : i < l.length) : ∃ x, l[i]? = some x := ⟨l[i], by simp [h]⟩
theorem iv_set (pre post : List Int) (x y : Int) : (IV (pre ++ x :: post)).set pre.length (V.int y) = IV (pre ++ y :: post) := by
  rw [← List.map_set, List.set_append_right _ _ (Nat.le_refl _)]
  simp
theorem turned_cons (x y m : Int) (as bs : List Int) : turned (x :: as) (y :: bs) m = if x = y then x :: turned as bs m else (if m % 2 = 1 then y else x) :: turned as bs (m / 2) := by
  rw [turned]
/-- beyond all masks -/
def MM : Int := 2 ^ 4096
theorem MM_eq : (1 : Int) * 2 ^ (4096 : Int).toNat = MM := by
  have e : (4096 : Int).toNat = 4096 := rfl
  rw [e, Int.one_mul]
  rfl
theorem pow_nn (k : Nat) : (0 : Int) < 2 ^ k := Int.pow_pos (by decide)
theorem pow_mono {a b : Nat} (h : a ≤ b) : (2 : Int) ^ a ≤ 2 ^ b := by
  have q : (2 : Nat) ^ a ≤ 2 ^ b := Nat.pow_le_pow_right (by decide) h
  have q2 : (((2 : Nat) ^ a : Nat) : Int) ≤ ((2 ^ b : Nat) : Int) := Int.ofNat_le.mpr q
  simpa using q2
theorem MM_half {k : Nat} (h : k ≤ 4095) : 2 * (2 : Int) ^ k ≤ MM := by
  have q := pow_mono (a := k + 1) (b := 4096) (by omega)
  rw [Int.pow_succ] at q
  unfold MM
  omega
theorem lt_natAbs {x : Int} {n : Nat} (h0 : 0 ≤ x) (h : x < 2 ^ n) : x.natAbs < 2 ^ n := by
  have e : (x.natAbs : Int) = x := Int.natAbs_of_nonneg h0
  have q : (x.natAbs : Int) < ((2 ^ n : Nat) : Int) := by
    rw [e]
    simpa using h
  exact Int.ofNat_lt.mp q
theorem more_bits {x w : Int} {n : Nat} (h0 : 0 ≤ x) (h : x < 2 ^ n) (w0 : 0 ≤ w) (w1 : w < 2 ^ 48) : 0 ≤ x * 2 ^ 48 + w ∧ x * 2 ^ 48 + w < 2 ^ (n + 48) := by
  rw [Int.pow_add]
  have p : (0 : Int) < 2 ^ 48 := pow_nn 48
  have m : (x + 1) * 2 ^ 48 ≤ 2 ^ n * 2 ^ 48 := Int.mul_le_mul_of_nonneg_right (by omega) (Int.le_of_lt p)
  rw [Int.add_mul, Int.one_mul] at m
  have m0 : 0 ≤ x * 2 ^ 48 := Int.mul_nonneg h0 (Int.le_of_lt p)
  omega
theorem oct_snoc {xs : List Int} {r : Int} (h : Oct xs) (h0 : 0 ≤ r) (h1 : r ≤ 255) : Oct (xs ++ [r]) := by
  intro o ho
  rcases List.mem_append.mp ho with q | q
  · exact h o q
  · have e : o = r := by simpa using q
    omega
theorem zip_get {xs ys : List Int} {p : Int × Int} (h : p ∈ xs.zip ys) : ∃ i : Nat, xs[i]? = some p.1 ∧ ys[i]? = some p.2 := by
  obtain ⟨i, hi⟩ := List.mem_iff_getElem?.mp h
  obtain ⟨q1, q2⟩ := List.getElem?_zip_eq_some.mp hi
  exact ⟨i, q1, q2⟩
theorem bitAnd_pp {x y : Int} (hx : 0 ≤ x) (hy : 0 ≤ y) : Builtin.bitAnd x y = ((x.toNat &&& y.toNat : Nat) : Int) := by
  obtain ⟨a, rfl⟩ := nat_of hx
  obtain ⟨b, rfl⟩ := nat_of hy
  rfl
/-- two lists of octets, item by item -/
def both (f : Int → Int → Int) (xs ys : List Int) : List Int := (xs.zip ys).map fun p => f p.1 p.2
theorem both_len {f : Int → Int → Int} {xs ys : List Int} (h : xs.length = ys.length) : (both f xs ys).length = xs.length := by
  unfold both
  rw [List.length_map, List.length_zip]
  omega
theorem both_get {f : Int → Int → Int} {xs ys : List Int} {i : Nat} {u : Int} (h : (both f xs ys)[i]? = some u) : ∃ x y, xs[i]? = some x ∧ ys[i]? = some y ∧ u = f x y := by
  unfold both at h
  rw [List.getElem?_map] at h
  cases e : (xs.zip ys)[i]? with
  | none => rw [e] at h; cases h
  | some p =>
    rw [e] at h
    obtain ⟨q1, q2⟩ := List.getElem?_zip_eq_some.mp e
    exact ⟨p.1, p.2, q1, q2, (Option.some.inj h).symm⟩
theorem both_oct {f : Int → Int → Int} {xs ys : List Int} (ox : Oct xs) (oy : Oct ys) (h : ∀ x y, 0 ≤ x ∧ x ≤ 255 → 0 ≤ y ∧ y ≤ 255 → 0 ≤ f x y ∧ f x y ≤ 255) : Oct (both f xs ys) := by
  intro o ho
  obtain ⟨i, hi⟩ := List.mem_iff_getElem?.mp ho
  obtain ⟨x, y, hx, hy, rfl⟩ := both_get hi
  exact h x y (ox x (List.mem_of_getElem? hx)) (oy y (List.mem_of_getElem? hy))
theorem oct_and {x y : Int} (hx : 0 ≤ x ∧ x ≤ 255) (hy : 0 ≤ y ∧ y ≤ 255) : (0 ≤ Builtin.bitAnd x y ∧ Builtin.bitAnd x y ≤ 255) ∧ Le (bitsOf (Builtin.bitAnd x y)) (bitsOf x) := by
  rw [bitAnd_pp hx.1 hy.1]
  have e : ((x.toNat : Nat) : Int) = x := by omega
  have h := and_oct (a := x.toNat) (b := y.toNat) (by omega)
  refine ⟨by omega, ?_⟩
  have q := and_le x.toNat y.toNat
  rw [e] at q
  exact q
theorem oct_or {x y : Int} (hx : 0 ≤ x ∧ x ≤ 255) (hy : 0 ≤ y ∧ y ≤ 255) : (0 ≤ Builtin.bitOr x y ∧ Builtin.bitOr x y ≤ 255) ∧ Le (bitsOf x) (bitsOf (Builtin.bitOr x y)) := by
  rw [Bits.bitOr_pp hx.1 hy.1]
  have e : ((x.toNat : Nat) : Int) = x := by omega
  have h := or_oct (a := x.toNat) (b := y.toNat) (by omega) (by omega)
  refine ⟨by omega, ?_⟩
  have q := le_or x.toNat y.toNat
  rw [e] at q
  exact q
theorem bitsL_le' {xs ys : List Int} (hl : xs.length = ys.length) (h : ∀ (i : Nat) x y, xs[i]? = some x → ys[i]? = some y → Le (bitsOf x) (bitsOf y)) : Le (bitsL xs) (bitsL ys) :=
  bitsL_le hl fun p hp => by
    obtain ⟨i, h1, h2⟩ := zip_get hp
    exact h i _ _ h1 h2
theorem oct_255 (c : Nat) : Oct (List.replicate c 255) := fun o ho => by
  have e := List.eq_of_mem_replicate ho
  omega
theorem iv_rep (c : Nat) (o : Int) : IV (List.replicate c o) = List.replicate c (V.int o) := List.map_replicate ..
/-- one more octet of a comprehension over a box -/
def Grown (a D : Addr) (H0 : Hp) (m : Int) (i : Nat) (H' : Hp) : Prop := Exb a H0 H' ∧ Box H' a (m + 3 * i) ∧ ∃ xs : List Int, xs.length = i ∧ Oct xs ∧ H' D = some (.lst (IV xs))
theorem Grown.start {a D : Addr} {H : Hp} {m : Int} (B : Box H a m) (hD : H D = none) : Grown a D H m 0 (upd H D (.lst [])) :=
  ⟨Exb.new hD, (B.ex (Evl.Ex.new hD)).le (by omega), [], rfl, fun _ h => (by cases h), upd_same⟩
theorem Grown.more {a D : Addr} {H0 H1 H2 : Hp} {m r : Int} {i : Nat} (g : Grown a D H0 m i H1) (hD : D ≠ a) (hn : H0 D = none) (hi : i ≤ 1000) (e : Exb a H1 H2) (B : Box H2 a (m + 3 * i + 3)) (r0 : 0 ≤ r) (r1 : r ≤ 255) :
    ∃ acc, H2 D = some (.lst acc) ∧ acc.length < sizeLine ∧ Grown a D H0 m (i + 1) (upd H2 D (.lst (acc ++ [V.int r]))) := by
  obtain ⟨e1, B1, xs, hl, ho, h⟩ := g
  have B2 : Box (upd H2 D (.lst (IV xs ++ [V.int r]))) a (m + 3 * i + 3) := by
    obtain ⟨d, m', c, k, hb, q⟩ := B
    exact ⟨d, m', c, k, by rw [upd_ne (Ne.symm hD)]; exact hb, q⟩
  refine ⟨IV xs, e D _ hD h, by rw [iv_len, hl]; exact Evl.sz_lt (by omega), ?_, B2.le (by omega), xs ++ [r], by simp [hl], oct_snoc ho r0 r1, by rw [upd_same, iv_snoc]⟩
  intro b o n q
  have hb : b ≠ D := by
    rintro rfl
    rw [hn] at q
    cases q
  rw [upd_ne hb]
  exact e b o n (e1 b o n q)
/-- keywords in other orders than the parameters' -/
abbrev g1 : List Value → List Value → List Value := fun _ ws => [ws.getD 0 .none]
abbrev g1V : List V → List V → List V := fun _ ws => [ws.getD 0 .non]
abbrev g21 : List Value → List Value → List Value := fun _ ws => [ws.getD 1 .none, ws.getD 0 .none]
abbrev g21V : List V → List V → List V := fun _ ws => [ws.getD 1 .non, ws.getD 0 .non]
abbrev g321 : List Value → List Value → List Value := fun _ ws => [ws.getD 2 .none, ws.getD 1 .none, ws.getD 0 .none]
abbrev g321V : List V → List V → List V := fun _ ws => [ws.getD 2 .non, ws.getD 1 .non, ws.getD 0 .non]
theorem same_ne {x : V} {A B : Prop} (h : B) : if (!decide (x = x)) = true then A else B := by
  rw [decide_eq_true rfl]
  exact iteF h
theorem same_int {x y : Int} {A B : Prop} (e : x = y) (h : B) : if (!decide (V.int x = V.int y)) = true then A else B := by
  subst e
  exact same_ne h
theorem same_bl {x y : Bool} {A B : Prop} (e : x = y) (h : B) : if (!decide (V.bl x = V.bl y)) = true then A else B := by
  subst e
  exact same_ne h
theorem if_dec {p : Prop} [Decidable p] {A B : Prop} (h1 : p → A) (h2 : ¬ p → B) : if decide p = true then A else B := by
  by_cases z : p
  · rw [decide_eq_true z]
    exact iteT (h1 z)
  · rw [decide_eq_false z]
    exact iteF (h2 z)
theorem two_ways {x y : Int} {ta tb : TE} {σ : L2.St} {H : Hp} {Q : VK} (S : V → Hp → Prop) (ha : x = y → ∀ Q' : VK, (∀ v H', S v H' → Q' v H') → ta σ H Q')
    (hb : x ≠ y → ∀ Q' : VK, (∀ v H', S v H' → Q' v H') → tb σ H Q') (hQ : ∀ v H', S v H' → Q v H') : if decide (V.int x = V.int y) = true then ta σ H Q else tb σ H Q :=
  if_eq (fun z => ha z Q hQ) (fun z => hb z Q hQ)
theorem sm_fallen (n : Nat) (as bs : List Int) : ∀ (k : Int), 0 ≤ k → k + (as.length : Int) ≤ 10000 → Sm (fallenL k as bs) := by
  induction as generalizing bs with
  | nil =>
    intro k _ _
    cases bs <;> exact fun n hn => by cases hn
  | cons a as ih =>
    intro k hk hl
    cases bs with
    | nil => exact fun n hn => by cases hn
    | cons b bs =>
      have r := ih bs (k + 1) (by omega) (by simp at hl; omega)
      rw [fallenL]
      split
      · intro n hn
        cases hn with
        | head => simp at hl; omega
        | tail _ hn => exact r n hn
      · exact r
theorem zip8 {f : Int → Int → Int} {a0 a1 a2 a3 a4 a5 a6 a7 b0 b1 b2 b3 b4 b5 b6 b7 : Int} : List.zipWith f [a7, a6, a5, a4, a3, a2, a1, a0] [b7, b6, b5, b4, b3, b2, b1, b0] = [f a7 b7, f a6 b6, f a5 b5, f a4 b4, f a3 b3, f a2 b2, f a1 b1, f a0 b0] := rfl
theorem xor_bits {x y : Int} (hx : 0 ≤ x ∧ x ≤ 255) (hy : 0 ≤ y ∧ y ≤ 255) : bitsOf (Builtin.bitXor x y) = List.zipWith (fun a b => if a = b then 0 else 1) (bitsOf x) (bitsOf y) := by
  obtain ⟨a, rfl⟩ := nat_of hx.1
  obtain ⟨b, rfl⟩ := nat_of hy.1
  rw [Bits.bitXor_pp hx.1 hy.1, Int.toNat_natCast, Int.toNat_natCast, bitsOf_tb, bitsOf_tb, bitsOf_tb, zip8]
  simp only [tb_xor]
theorem and_bits {x y : Int} (hx : 0 ≤ x ∧ x ≤ 255) (hy : 0 ≤ y ∧ y ≤ 255) : bitsOf (Builtin.bitAnd x y) = List.zipWith (fun a b => if a = 1 ∧ b = 1 then 1 else 0) (bitsOf x) (bitsOf y) := by
  obtain ⟨a, rfl⟩ := nat_of hx.1
  obtain ⟨b, rfl⟩ := nat_of hy.1
  rw [bitAnd_pp hx.1 hy.1, Int.toNat_natCast, Int.toNat_natCast, bitsOf_tb, bitsOf_tb, bitsOf_tb, zip8]
  simp only [tb_and]
theorem xor_range {x y : Int} (hx : 0 ≤ x ∧ x ≤ 255) (hy : 0 ≤ y ∧ y ≤ 255) : 0 ≤ Builtin.bitXor x y ∧ Builtin.bitXor x y ≤ 255 := by
  rw [Bits.bitXor_pp hx.1 hy.1]
  have h := xor_oct (a := x.toNat) (b := y.toNat) (by omega) (by omega)
  omega
/-- what falls, octet by octet -/
def fallO (x y : Int) : Int := Builtin.bitAnd x (Builtin.bitXor x y)
def riseO (x y : Int) : Int := Builtin.bitAnd y (Builtin.bitXor x y)
theorem fallO_range {x y : Int} (hx : 0 ≤ x ∧ x ≤ 255) (hy : 0 ≤ y ∧ y ≤ 255) : 0 ≤ fallO x y ∧ fallO x y ≤ 255 := (oct_and hx (xor_range hx hy)).1
theorem riseO_range {x y : Int} (hx : 0 ≤ x ∧ x ≤ 255) (hy : 0 ≤ y ∧ y ≤ 255) : 0 ≤ riseO x y ∧ riseO x y ≤ 255 := (oct_and hy (xor_range hx hy)).1
theorem zw_self {f g : Int → Int → Int} (h : ∀ a b : Int, f a (g a b) = (fun a b => f a (g a b)) a b) : ∀ as bs : List Int, List.zipWith f as (List.zipWith g as bs) = List.zipWith (fun a b => f a (g a b)) as bs
  | [], _ => by simp
  | _ :: _, [] => by simp
  | a :: as, b :: bs => by simp [zw_self h as bs]
theorem zw_other {f g : Int → Int → Int} : ∀ as bs : List Int, List.zipWith f bs (List.zipWith g as bs) = List.zipWith (fun a b => f b (g a b)) as bs
  | [], _ => by simp
  | _ :: _, [] => by simp
  | a :: as, b :: bs => by simp [zw_other as bs]
theorem ones_fall {xs ys : List Int} (ox : Oct xs) (oy : Oct ys) (hl : xs.length = ys.length) : onesL 0 (bitsL (both fallO xs ys)) = fallenL 0 (bitsL xs) (bitsL ys) := by
  have e : bitsL (both fallO xs ys) = List.zipWith (fun a b => if a = 1 ∧ (if a = b then (0 : Int) else 1) = 1 then (1 : Int) else 0) (bitsL xs) (bitsL ys) := by
    refine bitsL_both (fun x y hx hy => ?_) xs ys ox oy
    unfold fallO
    rw [and_bits hx (xor_range hx hy), xor_bits hx hy, zw_self fun _ _ => rfl]
  rw [e]
  refine ones_of (fun as bs k => fallenL k as bs) (fun a b => a = 1 ∧ b = 0) (fun _ => by simp [fallenL]) (fun a as b bs k => by rw [fallenL]) ?_ _ _ 0 (by rw [bitsL_len, bitsL_len, hl]) (bitsL_bit xs) (bitsL_bit ys)
  intro a b ha hb
  rcases ha with rfl | rfl <;> rcases hb with rfl | rfl <;> decide
theorem fallen_swap : ∀ (as bs : List Int) (k : Int) , fallenL k bs as = (fun (as bs : List Int) (k : Int) => fallenL k bs as) as bs k := fun _ _ _ => rfl
theorem ones_rise {xs ys : List Int} (ox : Oct xs) (oy : Oct ys) (hl : xs.length = ys.length) : onesL 0 (bitsL (both riseO xs ys)) = fallenL 0 (bitsL ys) (bitsL xs) := by
  have e : bitsL (both riseO xs ys) = List.zipWith (fun a b => if b = 1 ∧ (if a = b then (0 : Int) else 1) = 1 then (1 : Int) else 0) (bitsL xs) (bitsL ys) := by
    refine bitsL_both (fun x y hx hy => ?_) xs ys ox oy
    unfold riseO
    rw [and_bits hy (xor_range hx hy), xor_bits hx hy, zw_other]
  rw [e]
  refine ones_of (fun as bs k => fallenL k bs as) (fun a b => b = 1 ∧ a = 0) (fun _ => by simp [fallenL]) (fun a as b bs k => by rw [fallenL]) ?_ _ _ 0 (by rw [bitsL_len, bitsL_len, hl]) (bitsL_bit xs) (bitsL_bit ys)
  intro a b ha hb
  rcases ha with rfl | rfl <;> rcases hb with rfl | rfl <;> decide
theorem ones_diff {xs ys : List Int} (ox : Oct xs) (oy : Oct ys) (hl : xs.length = ys.length) : onesL 0 (bitsL (both Builtin.bitXor xs ys)) = diffL 0 (bitsL xs) (bitsL ys) := by
  have e : bitsL (both Builtin.bitXor xs ys) = List.zipWith (fun a b => if a = b then (0 : Int) else 1) (bitsL xs) (bitsL ys) :=
    bitsL_both (fun x y hx hy => xor_bits hx hy) xs ys ox oy
  rw [e]
  refine ones_of (fun as bs k => diffL k as bs) (fun a b => ¬ a = b) (fun _ => by simp [diffL]) (fun a as b bs k => ?_) ?_ _ _ 0 (by rw [bitsL_len, bitsL_len, hl]) (bitsL_bit xs) (bitsL_bit ys)
  · rw [diffL]
    by_cases z : a = b <;> simp [z]
  · intro a b ha hb
    rcases ha with rfl | rfl <;> rcases hb with rfl | rfl <;> decide
/-- the zeros of an octet -/
def zO (n : Nat) : Int := 8 - (([n / 128 % 2, n / 64 % 2, n / 32 % 2, n / 16 % 2, n / 8 % 2, n / 4 % 2, n / 2 % 2, n / 1 % 2].count 1 : Nat) : Int)
theorem zO_eq : ∀ n : Nat, n < 256 → zO n = (((bitsOf (n : Int)).count 0 : Nat) : Int) := by decide +kernel
theorem zO_sum : ∀ os : List Int, Oct os → (os.map fun o => zO o.toNat).sum = zc (bitsL os)
  | [], _ => rfl
  | o :: os, h => by
    have r := zO_sum os fun x hx => h x (List.mem_cons_of_mem _ hx)
    have ho := h o (List.mem_cons_self ..)
    obtain ⟨n, rfl⟩ := nat_of ho.1
    rw [List.map_cons, List.sum_cons, r, Int.toNat_natCast, zO_eq n (by omega), bitsL_cons]
    unfold zc
    rw [List.count_append]
    omega
theorem ty_int (K : PySem.W.Frag) (H : Hp) (i : Int) : TyX K H (.int i) (.type "int") := .base (.int i)
theorem bitAnd_nn (a b : Nat) : Builtin.bitAnd (a : Int) (b : Int) = ((a &&& b : Nat) : Int) := by
  rw [bitAnd_pp (by omega) (by omega)]
  rfl
theorem worth_nat (j : Nat) : (128 : Int) / 2 ^ j = ((128 / 2 ^ j : Nat) : Int) := by
  simp
/-- at bit n of octets -/
theorem at_bit {xs : List Int} {n : Nat} (ox : Oct xs) (h : n < 8 * xs.length) : ∃ o : Nat, o < 256 ∧ xs[n / 8]? = some (o : Int) ∧ (bitsL xs)[n]? = (bitsOf (o : Int))[n % 8]? := by
  obtain ⟨x, hx⟩ := get_lt (l := xs) (i := n / 8) (by omega)
  have hm := ox x (List.mem_of_getElem? hx)
  obtain ⟨o, rfl⟩ := nat_of hm.1
  refine ⟨o, by omega, hx, ?_⟩
  have e := bitsL_get xs (n / 8) (n % 8) (by omega)
  rw [hx] at e
  have e2 : 8 * (n / 8) + n % 8 = n := by omega
  rw [e2] at e
  exact e
theorem both_at {g : Int → Int → Int} {xs ys : List Int} {i : Nat} {x y u : V} (hx : (IV xs)[i]? = some x) (hy : (IV ys)[i]? = some y) (hu : (IV (both g xs ys))[i]? = some u) : ∃ m n : Int, x = .int m ∧ y = .int n ∧ u = .int (g m n) := by
  obtain ⟨m, hm, rfl⟩ := iv_get hx
  obtain ⟨n, hn, rfl⟩ := iv_get hy
  obtain ⟨k, hk, rfl⟩ := iv_get hu
  obtain ⟨m', n', hm', hn', rfl⟩ := both_get hk
  rw [hm] at hm'
  rw [hn] at hn'
  cases hm'
  cases hn'
  exact ⟨_, _, rfl, rfl, rfl⟩
theorem bitXor_nn (a b : Nat) : Builtin.bitXor (a : Int) (b : Int) = ((a ^^^ b : Nat) : Int) := by
  rw [Bits.bitXor_pp (by omega) (by omega)]
  rfl
/-- one unlike bit on -/
theorem one_turn {os done as' bs' U : List Int} {m : Int} {i : Nat} {p : Int} {rest : List Int} (ho : Oct os) (hb : bitsL os = done ++ as') (bb : Bit bs') (hl : as'.length = bs'.length) (hu : diffL (done.length : Int) as' bs' = p :: rest) :
    ∃ (n o : Nat) (x y : Int) (pre as2 bs2 : List Int), p = (n : Int) ∧ o < 256 ∧ os[n / 8]? = some (o : Int) ∧ n / 8 < os.length ∧ as'.length = pre.length + 1 + as2.length ∧ as2.length = bs2.length ∧ Bit bs2 ∧
      (∀ m, turned as' bs' m = pre ++ (if m % 2 = 1 then y else x) :: turned as2 bs2 (m / 2)) ∧ rest = diffL ((done.length + pre.length + 1 : Nat) : Int) as2 bs2 ∧ bitsL os = (done ++ pre ++ [x]) ++ as2 ∧
      Oct (os.set (n / 8) ((o ^^^ (128 / 2 ^ (n % 8)) : Nat) : Int)) ∧ bitsL (os.set (n / 8) ((o ^^^ (128 / 2 ^ (n % 8)) : Nat) : Int)) = (done ++ pre ++ [y]) ++ as2 := by
  obtain ⟨pre, x, y, as2, bs2, h1, h2, h3, h4, h5, h6, h7⟩ := diff_at as' bs' _ p rest hl hu
  have lb := bitsL_len os
  have hn : done.length + pre.length < 8 * os.length := by
    rw [← lb, hb, h1]
    simp
  obtain ⟨o, o1, o2, o3⟩ := at_bit ho hn
  have bx : (bitsL os)[done.length + pre.length]? = some x := by
    rw [hb, h1, List.getElem?_append_right (by omega), Nat.add_sub_cancel_left, List.getElem?_append_right (by omega)]
    simp
  have bx2 : (bitsOf (o : Int))[(done.length + pre.length) % 8]? = some x := by rw [← o3]; exact bx
  have hx : x = 0 ∨ x = 1 := bitsL_bit os x (List.mem_of_getElem? bx)
  have hy : y = 0 ∨ y = 1 := bb y (by rw [h2]; simp)
  have yx : y = 1 - x := by omega
  obtain ⟨t1, t2⟩ := bit_turn o o1 ((done.length + pre.length) % 8) (by omega)
  have gd : (bitsOf (o : Int)).getD ((done.length + pre.length) % 8) 0 = x := by rw [List.getD_eq_getElem?_getD, bx2]; rfl
  rw [gd, ← yx] at t2
  have st := bitsL_set os ((done.length + pre.length) / 8) ((done.length + pre.length) % 8) _ _ _ (by omega) o2 t2
  have e8 : 8 * ((done.length + pre.length) / 8) + (done.length + pre.length) % 8 = done.length + pre.length := by omega
  rw [e8] at st
  refine ⟨done.length + pre.length, o, x, y, pre, as2, bs2, by rw [h4]; simp, o1, o2, by omega, by rw [h1]; simp; omega, h6, fun b hbm => bb b (by rw [h2]; simp [hbm]), h7, by rw [h5, h4]; congr 1, ?_, ?_, ?_⟩
  · rw [hb, h1]
    simp
  · intro z hz
    rcases List.mem_or_eq_of_mem_set hz with z1 | z1
    · exact ho z z1
    · omega
  · rw [st, hb, h1, List.append_assoc, List.append_assoc, List.set_append_right _ _ (by omega), Nat.add_sub_cancel_left]
    congr 1
    rw [List.set_append_right _ _ (Nat.le_refl _), Nat.sub_self]
    rfl
theorem Sv.tupOf {H : Hp} {a : Addr} {xs : List V} {t : Bool} {Q : VK} (S : Sv t K H a xs) (q : ∀ p H', Evl.Ex H H' → SqT K H' p xs → Q (.ref p) H') : rTupI K [.ref a] H Q := by
  unfold rTupI
  cases t with
  | false => exact ⟨a, xs, rfl, .inl ⟨S, fun l hl => q l _ (Evl.Ex.new hl) (SqT.of upd_same)⟩⟩
  | true => exact ⟨a, xs, rfl, .inr ⟨S, q a H (Evl.Ex.refl _) S⟩⟩
theorem Sv.listOf {H : Hp} {a : Addr} {xs : List V} {t : Bool} {Q : VK} (S : Sv t K H a xs) (q : ∀ p, H p = none → Q (.ref p) (upd H p (.lst xs))) : rListI K [.ref a] H Q := by
  unfold rListI
  exact ⟨a, xs, rfl, S.either, q⟩
theorem test_false {c : TT} {t u : TS} {D : Ends} {σ : L2.St} {H : Hp} (hc : ∀ Q' : Bool → Hp → Prop, (∀ H1, Evl.Ex H H1 → Q' false H1) → c σ H Q') (hu : ∀ H1, Evl.Ex H H1 → u D σ H1) : tIfI c t u D σ H := by
  unfold tIfI
  exact hc _ fun H1 e => iteF (hu H1 e)
theorem mem3 {w p q r : Int} {A B : Prop} (h1 : (w = p ∨ w = q ∨ w = r) → A) (h2 : B) : if (if false = true then !inV (V.int w) [.int p, .int q, .int r] else inV (V.int w) [.int p, .int q, .int r]) = true then A else B := by
  have e : (if false = true then !inV (V.int w) [.int p, .int q, .int r] else inV (V.int w) [.int p, .int q, .int r]) = decide (w = p ∨ w = q ∨ w = r) := by
    simp [inV, eqV, Bool.beq_eq_decide_eq, eq_comm]
  rw [e]
  exact if_dec h1 fun _ => h2
theorem in3 (w p q r : Int) : inV (.int w) [.int p, .int q, .int r] = decide (w = p ∨ w = q ∨ w = r) := by
  simp [inV, eqV, Bool.beq_eq_decide_eq, eq_comm]
abbrev tn (xs ys : List Int) (m : Int) : List Int := octetsL (turned (bitsL xs) (bitsL ys) m)
theorem tn_spec {xs ys : List Int} (m : Int) (hl : xs.length = ys.length) : bitsL (tn xs ys m) = turned (bitsL xs) (bitsL ys) m ∧ Oct (tn xs ys m) ∧ (tn xs ys m).length = xs.length := by
  have lx := bitsL_len xs
  have ly := bitsL_len ys
  have l := turned_len (bitsL xs) (bitsL ys) m (by omega)
  exact octetsL_spec (by omega) (turned_bit _ _ m (bitsL_bit xs) (bitsL_bit ys))
theorem sm_oct {xs : List Int} (h : Oct xs) : Sm xs := fun n hn => by
  have := h n hn
  omega
theorem ex_b {a : Addr} {H0 H H' : Hp} (e : Evl.Ex H0 H) (h : H0 a = none) (x : Exb a H H') : Evl.Ex H0 H' := fun b o q => x b o (fun z => by rw [z, h] at q; cases q) (e b o q)
theorem same_eq {x : V} {A B : Prop} (h : A) : if decide (x = x) = true then A else B := by
  rw [decide_eq_true rfl]
  exact iteT h
theorem ones_ok {k : Nat} (h : k ≤ 4096) : 0 ≤ (2 : Int) ^ k - 1 ∧ (2 : Int) ^ k - 1 < MM := by
  have p := pow_nn k
  have q : (2 : Int) ^ k ≤ MM := pow_mono h
  omega
theorem same_v {x y : V} {A B : Prop} (e : x = y) (h : B) : if (!decide (x = y)) = true then A else B := by
  subst e
  exact same_ne h
theorem bits_rep (o b : Int) (h : bitsOf o = List.replicate 8 b) : ∀ c : Nat, bitsL (List.replicate c o) = List.replicate (8 * c) b
  | 0 => rfl
  | c + 1 => by
    rw [List.replicate_succ, bitsL_cons, bits_rep o b h c, h, List.replicate_append_replicate]
    congr 1
    omega
theorem bits_ones (c : Nat) : bitsL (List.replicate c 255) = List.replicate (8 * c) 1 := bits_rep 255 1 (by decide) c
theorem bits_none (c : Nat) : bitsL (List.replicate c 0) = List.replicate (8 * c) 0 := bits_rep 0 0 (by decide) c
theorem oct_0 (c : Nat) : Oct (List.replicate c 0) := fun o h => by rw [List.eq_of_mem_replicate h]; omega
theorem zc_ones (n : Nat) : zc (List.replicate n 1) = 0 := by
  unfold zc
  rw [List.count_replicate]
  rfl
theorem zc_none (n : Nat) : zc (List.replicate n 0) = n := by
  unfold zc
  rw [List.count_replicate_self]
theorem le_rep : ∀ n : Nat, Le (List.replicate n 0) (List.replicate n 1)
  | 0 => Le.refl _
  | n + 1 => by
    rw [List.replicate_succ, List.replicate_succ]
    have := le_rep n
    simp [Le, this]
theorem fallen_rep : ∀ (n : Nat) (k : Int), fallenL k (List.replicate n 1) (List.replicate n 0) = (List.range n).map fun (i : Nat) => k + (i : Int)
  | 0, k => rfl
  | n + 1, k => by
    rw [List.replicate_succ, List.replicate_succ, fallenL, if_pos ⟨rfl, rfl⟩, fallen_rep n (k + 1), List.range_succ_eq_map, List.map_cons, List.map_map]
    congr 1
    · simp
    · apply List.map_congr_left
      intro i _
      simp
      omega
theorem due_long {c n : Nat} {dd : List Int} (hn : n = 512) (h : n ≤ c) (hd : dd = List.replicate n 0 ++ List.replicate (c - n) 255) : octetsL (turned (bitsL (List.replicate c 255)) (bitsL (List.replicate c 0)) (2 ^ 4096 - 1)) = dd := by
  subst hd
  have n8 : 4096 = 8 * n := by omega
  rw [n8]
  clear n8 hn
  have e : 8 * c = 8 * n + 8 * (c - n) := by omega
  rw [bits_ones, bits_none, e, turned_first]
  have e2 : List.replicate (8 * n) (0 : Int) ++ List.replicate (8 * (c - n)) 1 = bitsL (List.replicate n 0 ++ List.replicate (c - n) 255) := by
    rw [bitsL_append, bits_none, bits_ones]
  rw [e2, octetsL_bitsL]
  intro o ho
  rcases List.mem_append.mp ho with z | z
  · exact oct_0 _ o z
  · exact oct_255 _ o z
theorem rep_flat (k : Nat) (o : Int) : (List.replicate k [V.int o]).flatten = IV (List.replicate k o) := by
  rw [iv_rep]
  simp
/-- (o,) * k -/
theorem mulT1 {H : Hp} {t : Addr} {k o : Int} {Q : VK} (S : SqT K H t [V.int o]) (h1 : 1 ≤ k) (h2 : k ≤ 1000) (q : ∀ (n : Nat) p H', (n : Int) = k → Evl.Ex H H' → SqT K H' p (IV (List.replicate n o)) → Q (.ref p) H') : rMulU1 K (.ref t) (.int k) H Q := by
  unfold rMulU1
  by_cases e : k = 1
  · subst e
    exact .inr ⟨t, _, rfl, rfl, S, q 1 t H rfl (Evl.Ex.refl _) S⟩
  · refine .inl (.inr (.inr ⟨t, k, _, rfl, rfl, S, by simp, by omega, h2, by simp, fun p hp => q k.toNat p _ (by omega) (Evl.Ex.new hp) ?_⟩))
    rw [rep_flat]
    exact SqT.of upd_same
theorem mulL1 {H : Hp} {t : Addr} {k o : Int} {Q : VK} (S : H t = some (.lst [V.int o])) (h1 : 1 ≤ k) (h2 : k ≤ 1000) (q : ∀ (n : Nat) p H', (n : Int) = k → H p = none → Evl.Ex H H' → H' p = some (.lst (IV (List.replicate n o))) → Q (.ref p) H') : rMulU1 K (.ref t) (.int k) H Q := by
  unfold rMulU1
  refine .inl (.inr (.inl ⟨t, _, _, rfl, rfl, S, by omega, by omega, ?_, fun p hp => q k.toNat p _ (by omega) hp (Evl.Ex.new hp) ?_⟩))
  · exact Evl.sz_of (by simp; omega)
  · rw [upd_same, rep_flat]
theorem mulI1 {H : Hp} {i j : Int} {Q : VK} (c : CMulX i j) (q : Q (.int (i * j)) H) : rMulU1 K (.int i) (.int j) H Q := by
  unfold rMulU1
  exact .inl (.inl ⟨i, j, rfl, rfl, c, q⟩)
theorem rg_iv (n : Nat) : rgV 0 (n : Int) = IV ((List.range n).map fun (i : Nat) => (0 : Int) + (i : Int)) := by
  have e : ((n : Int) - 0).toNat = n := by omega
  have e2 : ∀ l : List Int, IV l = l.map V.int := fun _ => rfl
  unfold rgV
  rw [e, e2, List.map_map]
  rfl
end
end VB
/-! errors with a value: made, raised, caught by several clauses with a name, their value read -/
namespace VB
open PySem PySem.Spec PyProof.Rows L2
/-! ### try: .. except A as n: .. except B as n: .. -/
/-- what the clauses wish of an exception of the body, one behind the other; slot i is n's -/
def wManyAs (K : PySem.W.Frag) (i : Nat) (Wout : WX) (D : Ends) : List (Value × (Addr → Value → Option Addr → TS)) → WX
  | [] => Wout
  | (c, ts) :: r => fun cls d σ H => ∃ b, PySem.W.exmOne K cls c = some b ∧
      (b = true → ∀ a, H a = none → ts a cls d { nx := fun σ' H' => D.nx (σ'.set i none) H', rt := D.rt, bk := fun σ' H' => D.bk (σ'.set i none) H', ct := fun σ' H' => D.ct (σ'.set i none) H' } (σ.set i (some (.ref a))) H) ∧
      (b = false → wManyAs K i Wout D r cls d σ H)
inductive HdsAs (X : Cx) (i : Nat) (n : Str) : List ExceptHandler → List (Value × (Addr → Value → Option Addr → TS)) → Prop
  | nil : HdsAs X i n [] []
  | cons {x : Str} {c : Value} {ts : Addr → Value → Option Addr → TS} {b₀ : Stmt} {suite : List Stmt} {np pos' : Pos} {hds : List ExceptHandler} {l : List (Value × (Addr → Value → Option Addr → TS))} (hc : Names X x c)
      (hsu : ∀ (a : Addr) (oe : Obj) (cls : Value) (d : Option Addr) (pn : List (Addr × Obj)), Zc cls d oe → (∃ vs, oe.data = .fields vs) → PSs (X.suite a ((a, oe) :: pn)) (b₀ :: suite) (ts a cls d)) (r : HdsAs X i n hds l) :
      HdsAs X i n (.ExceptHandler (some (.Name x np)) (some n) (b₀ :: suite) pos' :: hds) ((c, ts) :: l)
section
variable {X : Cx} {body : List Stmt} {h₀ : ExceptHandler} {hds : List ExceptHandler} {l : List (Value × (Addr → Value → Option Addr → TS))} {pos : Pos} {tb : WX → TS} {Wout : WX} {i : Nat} {n : Str}
theorem ps_try_manyAs (hs : X.stack = X.env :: X.outer) (hf : X.env.frame = some X.env.locals) (hN : X.N.Nodup) (hi : X.N[i]? = some n) (hln : X.env.kindOf n = some .local) (tk : Takes X Wout)
    (hb : ∀ (W : WX) (pn : List (Addr × Obj)) (xe : Value → Shared → Prop), Takes (X.tr pn xe) W → PassesOwn (model X.prog X.w) X.A X.env xe → PSs (X.tr pn xe) body (tb W))
    (hh : HdsAs X i n (h₀ :: hds) l) : PS X (.Try body (h₀ :: hds) [] [] pos) (fun D σ H => tb (wManyAs X.K i Wout D l) D σ H) := by
  refine ⟨fun pins s σ H D I h => ?_⟩
  have ok := I.ok
  have hfr : X.A.frames = some (X.env :: X.outer) := by rw [ok.frames, hs]
  have hloc : Loc X.env.scope n := .inl hln
  refine wpAny_Try_except ?_
  refine wpAny_mono ((hb (wManyAs X.K i Wout D l) (X.pn ++ pins) (fun e s₁ => wpAny (model X.prog X.w) X.A (noteFrame e X.env) (fun _ s₂ => wpAny (model X.prog X.w) X.A (setFlight e none) (fun _ s₃ =>
    wpAny (model X.prog X.w) X.A (handleBy e X.env (h₀ :: hds)) (SP X pins D) X.xe s₃) X.xe s₂) X.xe s₁) (fun u s' xx => ?_) PassesOwn.looking).run [] s σ H D (I.toTry _) h) (fun f s1 hsp => ?_) (fun e s1 he => he)
  · -- the catch
    obtain ⟨a, B, sI, pins', σ', H', cls, d, rfl, J', nb, up, sky, na, os, ag, w⟩ := xx
    have J : Inv X pins σ' H' sI := J'.ofTry ok
    have sky' : Sky B (X.env :: X.outer) a (Zc cls d) X.env.locals s'.heap := by rw [← hs]; exact sky
    show wpAny (model X.prog X.w) X.A (noteFrame (.ref a) X.env) _ _ _
    refine Sky.land Zc.steady hfr hf sky' fun h3 fl3 up3 => ?_
    have J3 : Inv X pins σ' H' { s' with heap := h3 } := J.landed nb fl3.1 (up.trans up3) os ag
    obtain ⟨oe3, vs3, he3, hz3, hd3⟩ := fl3.there
    have notFr : ∀ {h : Heap} {o : Obj} {vs : Array Value}, h.FunFrames B (X.env :: X.outer) → h.get? a = some o → o.data = .fields vs → a ∉ frs (X.env :: X.outer) := fun {h o vs} ff e dd hm => by
      obtain ⟨_, o', e', hnf⟩ := ff.mem hm
      rw [e] at e'; cases e'
      exact hnf _ dd
    have nfr := notFr fl3.2.2.1 he3 hd3
    have nL : a ≠ X.env.locals := fun z => nfr (List.mem_filterMap.mpr ⟨X.env, List.mem_cons_self, by rw [hf, z]⟩)
    have nF : a ∉ X.fs := fun hm => by
      obtain ⟨e, he, q⟩ := List.mem_filterMap.mp hm
      exact nfr (List.mem_filterMap.mpr ⟨e, List.mem_cons_of_mem _ he, q⟩)
    have S3 := J3.suite he3 hd3 na nL nF
    have go : ∀ {hds' : List ExceptHandler} {l' : List (Value × (Addr → Value → Option Addr → TS))}, HdsAs X i n hds' l' → wManyAs X.K i Wout D l' cls d σ' H' →
        wpAny (model X.prog X.w) X.A (handleBy (.ref a) X.env hds') (SP X pins D) X.xe { s' with heap := h3 } := by
      intro hds' l' hk
      induction hk with
      | nil =>
        intro w
        refine wpAny_handleBy_nil ?_
        obtain ⟨k1, k2, k3, oe, vs, T, oT, ts', he, hz, hd, h1, hr⟩ := id fl3
        unfold PySem.passOn
        refine wpAny_bind (wpAny_field he hd h1 ?_)
        rw [if_neg (show ¬ ((Value.ref T == Value.none) = true) from by simp)]
        have fin : wpAny (model X.prog X.w) X.A (setFlight (.ref a) X.env.frame) (fun _ s4 => wpAny (model X.prog X.w) X.A (throw (.ref a) : Sem Flow) (SP X pins D) X.xe s4) X.xe { s' with heap := h3 } := by
          rw [hf]
          refine HandSPX.setFlight_upZ fl3 fun h4 hh4 up4 => wpAny_throw (tk _ _ ?_)
          exact ⟨a, B, sI, pins, σ', H', cls, d, rfl, J, nb, (up.trans up3).trans up4, .inr (.inr (by rw [hs]; exact hh4)), na, os, ag, w⟩
        first
          | exact wpAny_bind (wpAny_pure (wpAny_bind fin))
          | exact wpAny_bind fin
      | @cons x c ts b₀ suite np pos' hds2 l2 hc hsu r ih =>
        intro w
        obtain ⟨b, hb1, hyes, hno⟩ := w
        refine wpAny_handleBy_cons (codeAny_handlers_test ?_) (by intro q; cases q)
        have LT : PySem.W.Looks (model X.prog X.w) h3 (typeOf (.ref a)) cls := fun A Q E s k q => wpAny_typeOf_ref (k _ _ he3) (by rw [hz3.1]; exact q)
        have LM := PySem.W.exm_one (M := model X.prog X.w) (J3.kIn) LT hb1
        have test : ∀ {Q : Value → Shared → Prop} {E : Value → Shared → Prop}, Q c { s' with heap := h3 } → wpAny (model X.prog X.w) (X.A.mark (some (.ref a))) (eval (.Name x np) X.env) Q E { s' with heap := h3 } := fun {Q E} q => by
          obtain ⟨hg, hdbg, hm | ⟨hm, hv, hnn⟩⟩ := hc
          · exact ld_glob (X := X.suite a ((a, oe3) :: (X.pn ++ pins))) S3 hg hm q hdbg
          · exact ld_blt (X := X.suite a ((a, oe3) :: (X.pn ++ pins))) S3 hg hm hv q hnn hdbg
        refine test (LM.here ?_)
        cases b with
        | true =>
          refine codeAny_handlers_suite_as ?_
          refine HandSPX.lands_againZ fl3 fun h4 fl4 up4 => ?_
          have J4 : Inv X pins σ' H' { s' with heap := h4 } := J.landed nb fl4.1 ((up.trans up3).trans up4) os ag
          obtain ⟨oe4, vs4, he4, hz4, hd4⟩ := fl4.there
          have S4 := J4.suite he4 hd4 na nL nF
          refine store_ok (X := X.suite a ((a, oe4) :: (X.pn ++ pins))) (v := .ref a) S4 hN hi hloc rfl (fun s5 S5 => ?_) (.inr hln)
          refine wpAny_mono ((hsu a oe4 cls d (X.pn ++ pins) hz4 ⟨_, hd4⟩).run [] s5 _ H' _ S5 (hyes rfl a na)) (fun f s6 hsp => ?_) (fun _ _ z => False.elim z)
          have end_ : ∀ {σ6 : L2.St} {H6 : Hp} {Q : Shared → Prop}, Inv (X.suite a ((a, oe4) :: (X.pn ++ pins))) [] σ6 H6 s6 → (∀ s7, Inv X pins (σ6.set i none) H6 s7 → Q s7) →
              wpAny (model X.prog X.w) X.A (do bindName X.env n .none; unbindBehindTheSuite X.env n pos') (fun _ s7 => Q s7) X.xe s6 := fun {σ6 H6 Q} S6 hq => gone_ok (S6.unsuite ok) hN hi hln hq
          cases f with
          | next =>
            obtain ⟨σ6, H6, S6, q6⟩ := hsp
            exact end_ S6 fun s7 J7 => ⟨_, _, J7, q6⟩
          | brk =>
            obtain ⟨σ6, H6, S6, q6⟩ := hsp
            exact end_ S6 fun s7 J7 => ⟨_, _, J7, q6⟩
          | cont =>
            obtain ⟨σ6, H6, S6, q6⟩ := hsp
            exact end_ S6 fun s7 J7 => ⟨_, _, J7, q6⟩
          | ret u =>
            obtain ⟨v6, σ6, H6, S6, r6, q6⟩ := hsp
            exact end_ S6 fun s7 J7 => ⟨_, _, _, J7, r6, q6⟩
        | false =>
          show wpAny _ X.A (handleBy (.ref a) X.env hds2) _ _ _
          exact ih (hno rfl)
    exact go hh w
  · cases f with
    | next =>
      obtain ⟨σ', H', J', q⟩ := hsp
      exact wpAny_execs_nil ⟨σ', H', J'.ofTry ok, q⟩
    | brk =>
      obtain ⟨σ', H', J', q⟩ := hsp
      exact ⟨σ', H', J'.ofTry ok, q⟩
    | cont =>
      obtain ⟨σ', H', J', q⟩ := hsp
      exact ⟨σ', H', J'.ofTry ok, q⟩
    | ret u =>
      obtain ⟨v, σ', H', J', r, q⟩ := hsp
      exact ⟨v, σ', H', J'.ofTry ok, r, q⟩
end
/-! ### calls within a try -/
section
variable {X : Cx} {CX : CXT} {k n : Nat} {ps ks : List Str} {sp : Sp} {E : L2.St → XK} {x : Str} {p pos : Pos}
  {e : Expr} {es : List Expr} {kws : List Keyword} {t tk : TA} {g : List Value → List Value → List Value} {gV : List V → List V → List V}
theorem backS {pins : List (Addr × Obj)} {σ : L2.St} {H : Hp} {s s' : Shared} {Q : VK} {E : XK} {r : Result}
    (hx : PassesAt CX X σ E) (I : Inv X pins σ H s) (hq : CR CX X.stack X.prog X.w H s Q E r s') :
    match r with
    | .ok (.ret u) => EP X pins σ Q u s'
    | .ok _ => False
    | .error e => X.xe e s' := by
  cases r with
  | error e => exact hx pins H s e s' I hq
  | ok fl =>
    cases fl with
    | ret u => exact I.after hq
    | next => exact hq
    | brk => exact hq
    | cont => exact hq
theorem enterS {f : Addr} {fd : FuncData} {pins : List (Addr × Obj)} {σ : L2.St} {H : Hp} {s : Shared} {Q : VK} {E : XK}
    {args : Args} {us : List Value} {vs : List V} (F : Fg X.prog X.w X.K X.mg X.base CX k f fd ps sp)
    (hr : Rm k X.A) (hx : PassesAt CX X σ E) (I : Inv X pins σ H s) (hb : BindsTo s fd args (ps.zip us))
    (r : Vals vs us) (h : sp vs H Q E) :
    wpAny (model X.prog X.w) X.A (call (.ref f) args.pos args.kw) (EP X pins σ Q) X.xe s := by
  refine wpAny_call (codeAny_mono (F.go X.A X.stack s H args us vs Q E hr I.env0 hb r h) ?_)
  intro r s' hq
  have z := backS hx I hq
  cases r with
  | error e => exact z
  | ok fl =>
    cases fl with
    | ret u => exact z
    | next => exact z.elim
    | brk => exact z.elim
    | cont => exact z.elim
theorem pe_calS (C : Cal X.prog X.w X.K X.mg X.base CX k x ps sp) (hr : Rm k X.A) (hx : ∀ σ, PassesAt CX X σ (E σ))
    (ha : PA X (e :: es) t) (hg : Gl X x := by rfl) (hdb : (x == ("__debug__" : Str)) = false := by decide)
    (he : starEach (e :: es) X.env = (false, eval e X.env) :: starEach es X.env := by rfl)
    (hpl : (backTo pos (starEach es X.env)).any (·.1) = false := by rfl) :
    PE X (.Call (.Name x p) (e :: es) [] pos) (tCallS sp E t) := by
  obtain ⟨f, fd, F, hm, hk, hb⟩ := C.ex
  constructor
  intro pins s σ H Q I h
  refine wpAny_Call_Name_kw (ld_glob I hg hm ?_ hdb)
  refine PySem.W.callWith_K (h₀ := X.base) I.ok.mod.kin hk (thn (ha.run pos pins s σ H _ I h) ?_) he hpl
  rintro us s1 ⟨vs, H1, I1, r, q⟩
  have q : sp vs H1 Q (E σ) := q
  have l : (us ++ []).length = ps.length := by
    rw [List.append_nil, ← r.length]
    exact F.cnt _ _ _ _ q
  have b := hb s1 us I1.kIn l
  rw [List.append_nil] at b
  exact ⟨I1.kIn, enterS (args := ⟨us, []⟩) F hr (hx σ) I1 b r q⟩
def tCallSN (n m : Nat) (sp : Sp) (gV : List V → List V → List V) (E : L2.St → XK) (tk : TA) : TE := fun σ H Q => tk σ H fun zs H2 => zs.length = m ∧ sp (gV [] zs) H2 Q (E σ)
theorem pe_calkS (C : CalK X.prog X.w X.K X.mg X.base CX k x ps 0 ks g gV sp) (hr : Rm k X.A) (hx : ∀ σ, PassesAt CX X σ (E σ))
    (hkw : PK X kws tk) (hg : Gl X x := by rfl)
    (hall : (backToKw pos (keywordEach kws X.env)).all (·.1.isSome) = true := by rfl)
    (hks : (backToKw pos (keywordEach kws X.env)).filterMap (·.1) = ks := by rfl)
    (hdb : (x == ("__debug__" : Str)) = false := by decide)
    (hpl : ((backTo pos (starEach [] X.env)).any (·.1) || (backToKw pos (keywordEach kws X.env)).any (·.1.isNone)) = false := by rfl) :
    PE X (.Call (.Name x p) [] kws pos) (tCallSN 0 ks.length sp gV E tk) := by
  obtain ⟨f, fd, F, hm, hk, hb⟩ := C.ex
  constructor
  intro pins s σ H Q I h
  refine wpAny_Call_Name_kw (ld_glob I hg hm ?_ hdb)
  have h : tk σ H fun zs H2 => zs.length = ks.length ∧ sp (gV [] zs) H2 Q (E σ) := h
  refine PySem.W.callWith_KW0 (h₀ := X.base) I.ok.mod.kin hk hall (thn (hkw.run pos pins s σ H _ I h) ?_) hpl
  rintro ws s2 ⟨zs, H2, I2, rz, l2, q2⟩
  refine ⟨I2.kIn, ?_⟩
  rw [hks]
  exact enterS (args := ⟨[], ks.zip ws⟩) F hr (hx σ) I2
    (hb.to s2 [] ws I2.kIn rfl (rz.length.symm.trans l2)) (hb.rel .nil rz) q2
end
/-! ### errors that carry one value -/
/-- the __init__ of a class statement -/
def initOf : Stmt → Stmt
  | .ClassDef (body := b) .. => b.headD (.Pass ⟨0, 0, 0, 0⟩)
  | s => s
/-- the class x at C, its __init__ at fI, its value's name g -/
structure ErrC (K : PySem.W.Frag) (mg : Str → Option Value) (x g : Str) (C fI : Addr) : Prop where
  oex : OexC K C
  gC : mg x = some (.ref C)
  iC : PySem.W.findIn K (.ref C) "__init__" = some (some (.ref fI))
  tI : PySem.W.typeIn K (.ref fI) = some (.type "function")
  noG : PySem.W.findIn K (.ref C) g = some none
  xf : XfC K C
/-- what __init__ does -/
def spInit (K : PySem.W.Frag) (g : Str) : Sp := fun vs H Q _ => ∃ (a C : Addr) (y : V), vs = [.ref a, y] ∧ OexC K C ∧ PySem.W.findIn K (.ref C) g = some none ∧ H a = some (exo a C none) ∧
  ∀ dx, H dx = none → dx ≠ a → Q .non (upd (upd H dx (exd dx [(g, y)])) a (exo a C (some dx)))
/-- the reading of C(y), at its end -/
theorem made {K : PySem.W.Frag} {g : Str} {C : Addr} {y : V} {H1 : Hp} {Q : XK} (T : OexC K C) (hn : PySem.W.findIn K (.ref C) g = some none) (q : ∀ d, H1 d = none → Q (.ref C) (some d) (upd H1 d (.xd [(g, y)]))) :
    [y].length ≤ 1000 ∧ ∀ a, H1 a = none → spInit K g (.ref a :: ([y] ++ [])) (upd H1 a (exo a C none))
      (fun v H2 => v = .non ∧ ∃ (d : Addr) (fs : List (Str × V)), H2 a = some (exo a C (some d)) ∧ H2 d = some (exd d fs) ∧ H1 d = none ∧ Q (.ref C) (some d) (upd (del H2 a) d (.xd fs))) (fun _ _ _ => False) := by
  refine ⟨by simp, fun a na => ⟨a, C, y, rfl, T, hn, upd_same, fun dx nd ne => ⟨rfl, dx, [(g, y)], upd_same, ?_, ?_, ?_⟩⟩⟩
  · rw [upd_ne ne, upd_same]
  · rw [upd_ne ne] at nd
    exact nd
  · rw [upd_ne ne] at nd
    have e : upd (del (upd (upd (upd H1 a (exo a C none)) dx (exd dx [(g, y)])) a (exo a C (some dx))) a) dx (.xd [(g, y)]) = upd H1 dx (.xd [(g, y)]) := by
      funext b
      by_cases hb : b = dx
      · subst hb
        rw [upd_same, upd_same]
      · rw [upd_ne hb, upd_ne hb]
        by_cases ha : b = a
        · subst ha
          rw [del_same, na]
        · rw [del_ne ha, upd_ne ha, upd_ne hb, upd_ne ha]
    rw [e]
    exact q dx nd
end VB
/-! methods and makings, of defs told as Fg -/
namespace VB
open PySem PySem.Spec PyProof.Rows L2
theorem Rm.make {k : Nat} {A : Around} (r : Rm (k + 1) A) (C : Addr) (us : List Value) (kw : List (Str × Value)) : Rm k (A.under (.builtin "type.__call__" ⟨.ref C :: us, kw⟩)) :=
  ⟨r.rm.make C us kw, r.gd⟩
section
variable (P : Program) (w : World) (K : PySem.W.Frag) (mg : Str → Option Value) (base : Heap) (CX : CXT) (k : Nat)
/-- a method of the class at C -/
structure CalM (C : Addr) (m : Str) (ps : List Str) (sp : Sp) : Prop where
  ex : ∃ (f : Addr) (fd : FuncData), Fg P w K mg base CX k f fd ps sp ∧ Cls K C ∧ Meth K C m f ∧ Binds K fd ps []
/-- .. called with keywords -/
structure CalMK (C : Addr) (m : Str) (ps : List Str) (n : Nat) (ks : List Str) (g : List Value → List Value → List Value) (gV : List V → List V → List V) (sp : Sp) : Prop where
  ex : ∃ (f : Addr) (fd : FuncData), Fg P w K mg base CX k f fd ps sp ∧ Cls K C ∧ Meth K C m f ∧ KBn K fd ps n ks g gV
/-- the class x, made -/
structure Mak (x : Str) (C : Addr) (ps : List Str) (sp : Sp) : Prop where
  ex : ∃ (f : Addr) (fd : FuncData), Fg P w K mg base CX k f fd ps sp ∧ Mk K C f ∧ mg x = some (.ref C) ∧ Binds K fd ps []
structure MakK (x : Str) (C : Addr) (ps : List Str) (n : Nat) (ks : List Str) (g : List Value → List Value → List Value) (gV : List V → List V → List V) (sp : Sp) : Prop where
  ex : ∃ (f : Addr) (fd : FuncData), Fg P w K mg base CX k f fd ps sp ∧ Mk K C f ∧ mg x = some (.ref C) ∧ KBn K fd ps n ks g gV
end
section
variable {X : Cx} {CX : CXT} {k n : Nat} {ps ks : List Str} {sp : Sp} {E : XK} {x m : Str} {p pos apos : Pos} {C : Addr}
  {e o : Expr} {es : List Expr} {kws : List Keyword} {t tk : TA} {ta : TE}
  {g : List Value → List Value → List Value} {gV : List V → List V → List V}
/-- what a call of a method is, step by step -/
abbrev askM (X : Cx) (o : Expr) (m : Str) (pl : Sem Bool) (apos pos : Pos) (zs : List Expr) : Sem Value := do let u ← eval o X.env; standAt apos.atName; let (g, as) ← holding [u] (getMethod u m pl); callWith pos g as (backTo pos (starEach zs X.env)) (backToKw pos (keywordEach [] X.env))
theorem pe_calM {pl : Sem Bool} (M : CalM X.prog X.w X.K X.mg X.base CX k C m ps sp) (hr : Rm k X.A) (hx : Passes CX X E) (he : PE X o ta) (ha : PA X (e :: es) t)
    (hst : starEach (e :: es) X.env = (false, eval e X.env) :: starEach es X.env := by rfl) (hpl : (backTo pos (starEach es X.env)).any (·.1) = false := by rfl)
    (ht : eval (.Call (.Attribute o m apos) (e :: es) [] pos) X.env = askM X o m pl apos pos (e :: es) := by rfl) :
    PE X (.Call (.Attribute o m apos) (e :: es) [] pos) (tMeth C m sp [] E ta t) := by
  obtain ⟨f, fd, F, c, hm, hb⟩ := M.ex
  constructor
  intro pins s σ H Q I h
  refine PySem.W.methodCall_KW (pl := pl) (thn (he.run pins s σ H _ I h) ?_) ht
  rintro u s1 ⟨x, H1, I1, rx, a, dx, fs, rfl, ea, l, q⟩
  obtain rfl : u = Value.ref a := rx
  refine getmeth_ok I1 ea c hm l ?_
  refine PySem.W.callWith_K (first := [.ref a]) (h₀ := X.base) I.ok.mod.kin hm.kp (thn (ha.run pos pins s1 σ H1 _ I1 q) ?_) hst hpl
  rintro us s2 ⟨vs, H2, I2, r, q2⟩
  have q3 : sp (.ref a :: (vs ++ [])) H2 Q E := q2
  rw [List.append_nil] at q3
  have r2 : Vals (V.ref a :: vs) (Value.ref a :: us) := .cons rfl r
  have b := hb s2 (.ref a :: us) I2.kIn (by rw [List.append_nil, ← r2.length]; exact F.cnt _ _ _ _ q3)
  rw [List.append_nil] at b
  exact ⟨I2.kIn, enter (args := ⟨.ref a :: us, []⟩) F hr hx I2 b r2 q3⟩
theorem pe_calM0 {pl : Sem Bool} (M : CalM X.prog X.w X.K X.mg X.base CX k C m ps sp) (hr : Rm k X.A) (hx : Passes CX X E) (he : PE X o ta)
    (ht : eval (.Call (.Attribute o m apos) [] [] pos) X.env = askM X o m pl apos pos [] := by rfl) :
    PE X (.Call (.Attribute o m apos) [] [] pos) (tMeth C m sp [] E ta tNil) := by
  obtain ⟨f, fd, F, c, hm, hb⟩ := M.ex
  constructor
  intro pins s σ H Q I h
  refine PySem.W.methodCall_KW (pl := pl) (thn (he.run pins s σ H _ I h) ?_) ht
  rintro u s1 ⟨x, H1, I1, rx, a, dx, fs, rfl, ea, l, q⟩
  obtain rfl : u = Value.ref a := rx
  refine getmeth_ok I1 ea c hm l ?_
  have q3 : sp [.ref a] H1 Q E := q
  have b := hb s1 [.ref a] I1.kIn (F.cnt _ _ _ _ q3)
  exact PySem.W.callWith_K0 (first := [.ref a]) I1.kIn hm.kp (enter (args := ⟨[.ref a], []⟩) F hr hx I1 b (show Vals [V.ref a] [Value.ref a] from .cons rfl .nil) q3)
theorem run_mak {f : Addr} {fd : FuncData} {pins : List (Addr × Obj)} {σ : L2.St} {H : Hp} {s : Shared} {Q : VK} {us : List Value} {kw : List (Str × Value)} {zs : List Value} {vs : List V} (M : Mk X.K C f) (F : Fg X.prog X.w X.K X.mg X.base CX k f fd ps sp) (hr : Rm (k + 1) X.A)
    (hx : Passes CX X E) (I : Inv X pins σ H s)
    (h : ∀ x dx, H x = none → H dx = none → dx ≠ x → sp (.ref x :: vs) (upd (upd H dx (.own x)) x (.ins C dx [])) (fun v H2 => v = .non ∧ Q (.ref x) H2) E)
    (hb : ∀ (s2 : Shared), X.K.In s2.heap → BindsTo s2 fd ⟨.ref (s.heap.objs.size + 1) :: us, kw⟩ (ps.zip (.ref (s.heap.objs.size + 1) :: zs))) (r : Vals vs zs) :
    wpAny (model X.prog X.w) X.A (call (.ref C) us kw) (EP X pins σ Q) X.xe s := by
  have hq := h (s.heap.objs.size + 1) s.heap.objs.size (I.hok.fresh (Nat.le_succ _)) (I.hok.fresh (Nat.le_refl _)) (Nat.ne_of_lt (Nat.lt_succ_self _))
  have I2 := Inv.made (C := C) I
  refine wpAny_call (make_map (f := f) I.kIn M.makes M.init (beq_iff_eq.mp M.fn) (codeAny_mono (F.go _ X.stack _ _ ⟨.ref (s.heap.objs.size + 1) :: us, kw⟩ (.ref (s.heap.objs.size + 1) :: zs) _ _ E (hr.make C us kw)
    (I2.env0.make C us kw) (hb _ I2.kIn) (show Vals (V.ref (s.heap.objs.size + 1) :: vs) (Value.ref (s.heap.objs.size + 1) :: zs) from .cons rfl r) hq) ?_))
  intro r' s' hq'
  cases r' with
  | error e => exact hx pins σ _ _ e s' I2 hq'
  | ok fl =>
    cases fl with
    | ret u =>
      obtain ⟨v, H', I3, rv, ev, q3⟩ := I2.after hq'
      subst ev
      exact ⟨rv, ⟨V.ref (s.heap.objs.size + 1), H', I3, rfl, q3⟩⟩
    | next => exact False.elim hq'
    | brk => exact False.elim hq'
    | cont => exact False.elim hq'
theorem pe_mak (M : Mak X.prog X.w X.K X.mg X.base CX k x C ps sp) (hr : Rm (k + 1) X.A) (hx : Passes CX X E) (ha : PA X (e :: es) t) (hg : Gl X x := by rfl) (hdb : (x == ("__debug__" : Str)) = false := by decide)
    (he : starEach (e :: es) X.env = (false, eval e X.env) :: starEach es X.env := by rfl) (hpl : (backTo pos (starEach es X.env)).any (·.1) = false := by rfl) :
    PE X (.Call (.Name x p) (e :: es) [] pos) (tMake C sp [] E t) := by
  obtain ⟨f, fd, F, mk, hm, hb⟩ := M.ex
  constructor
  intro pins s σ H Q I h
  refine wpAny_Call_Name_kw (ld_glob I hg hm ?_ hdb)
  refine PySem.W.callWith_K (h₀ := X.base) I.ok.mod.kin mk.kp (thn (ha.run pos pins s σ H _ I h) ?_) he hpl
  rintro us s1 ⟨vs, H1, I1, r, q⟩
  refine ⟨I1.kIn, run_mak (vs := vs) (zs := us) mk F hr hx I1 (fun x dx a b c => ?_) (fun s2 k2 => ?_) r⟩
  · have z := q x dx a b c
    rw [List.append_nil] at z
    exact z
  · have q0 := q (s1.heap.objs.size + 1) s1.heap.objs.size (I1.hok.fresh (Nat.le_succ _)) (I1.hok.fresh (Nat.le_refl _)) (Nat.ne_of_lt (Nat.lt_succ_self _))
    have l := F.cnt _ _ _ _ q0
    have b := hb s2 (.ref (s1.heap.objs.size + 1) :: us) k2 (by rw [List.append_nil, ← l, List.append_nil, List.length_cons, List.length_cons, r.length])
    rw [List.append_nil] at b
    exact b
/-- +: ints, lists, and tuples of any length -/
def rAddA (K : PySem.W.Frag) : R2 := fun x y H Q => rAddU K x y H Q ∨ rCatA K x y H Q
theorem u_addA {K : PySem.W.Frag} (hK : X.K = K := by rfl) : OpR X (binaryOp .Add) (rAddA K) := by
  subst hK
  exact (u_add rfl).or op_catA
/-- an item of a list, at a place from the front -/
def rGetL (K : PySem.W.Frag) : R2 := fun x y H Q => ∃ p xs i z, x = .ref p ∧ y = .int (i : Nat) ∧ SqL K H p xs ∧ xs[i]? = some z ∧ i < 1000000 ∧ Q z H
theorem get_list {K : PySem.W.Frag} (hK : X.K = K := by rfl) : PGet X (rGetL K) := by
  subst hK
  intro pins s σ H x y v u Q I rx ry h
  obtain ⟨p, xs, i, z, rfl, rfl, hq, he, hi, q⟩ := h
  cases rx
  obtain ⟨t, rfl⟩ := ry
  obtain ⟨its, r, pl, hz⟩ := I.list hq
  obtain ⟨w, ew, rw'⟩ := r.get he
  exact wpAny_getItem_list pl.isList (by omega) (by omega) (by simpa using ew) ⟨z, H, I, rw', q⟩
theorem pe_fldU {K : PySem.W.Frag} {f : Str} (he : PE X e ta) (hb : attributeBase e f X.env (eval e X.env) = eval e X.env) (hK : X.K = K := by rfl) : PE X (.Attribute e f pos) (tFld K ta f) := by
  subst hK
  exact pe_fld he hb
theorem ps_fldU {K : PySem.W.Frag} {value : Expr} {tv : TE} {f : Str} {pos' : Pos} (ha : PE X o ta) (hv : PE X value tv) (hs : swapsWith value (some (.Attribute o f pos')) pos.line X.env = pure false) (hK : X.K = K := by rfl) : PS X (.Assign [.Attribute o f pos'] value pos) (sFld K ta tv f) := by
  subst hK
  exact ps_fld ha hv hs
theorem ps_fldaugU {K : PySem.W.Frag} {value : Expr} {tv : TE} {f : Str} {tpos : Pos} {op : Operator} {rd : V → V → Hp → VK → Prop} (ha : PE X o ta) (hv : PE X value tv) (hop : InOp X op rd) (hK : X.K = K := by rfl) : PS X (.AugAssign (.Attribute o f tpos) op value pos) (sFldAug K ta tv rd f) := by
  subst hK
  exact ps_fldaug ha hv hop
theorem pe_dpop2U {f : Expr} {cpos : Pos} {td ty tx : TE} (ho : PE X o td) (he : PE X e ty) (hf : PE X f tx) (h1 : attributeBase o "pop" X.env (eval o X.env) = eval o X.env := by rfl)
    (h2 : ((backTo cpos (starEach [e, f] X.env)).all (fun x => !x.1) && (backToKw cpos (keywordEach [] X.env)).all (fun x => x.1.isSome)
      && decide (([e, f] : List Expr).length + ([] : List Keyword).length + (if ([] : List Keyword).isEmpty then 0 else 1) < 30)) = true := by rfl)
    (h3 : (apos.endLine == cpos.line) = true := by rfl) (h4 : backTo cpos (starEach [e, f] X.env) = [(false, eval e X.env), (false, eval f X.env)] := by rfl) :
    PE X (.Call (.Attribute o "pop" apos) [e, f] [] cpos) (tDPop2 td ty tx) := pe_dpop2 ho he hf ⟨h1, h2, h3, h4⟩
end
end VB
/-! repr of data, of truths and of ints -/
namespace VB
open PySem PySem.Spec PyProof.Rows L2
section
variable {X : Cx}
theorem call_repr_bl : CallR X (.builtin "repr") (fun xs H Q => ∃ b : Bool, xs = [.bl b] ∧ Q (.str (if b then "True" else "False")) H) := by
  intro pins s σ H xs us Q I r h
  obtain ⟨b, rfl, q⟩ := h
  obtain ⟨u, rfl, ru⟩ := vals1 r
  cases (show u = Value.bool b from ru)
  exact PySem.P.repr_of_bool ⟨.str _, H, I.tok _, ⟨_, rfl⟩, q⟩
end
def rReprU (K : PySem.W.Frag) : List V → Hp → VK → Prop := fun xs H Q => rRepr K xs H Q ∨ ((∃ i, xs = [.int i] ∧ i.natAbs.log2 < 1920 ∧ Q (.str (toString i)) H) ∨ ∃ b : Bool, xs = [.bl b] ∧ Q (.str (if b then "True" else "False")) H)
section
variable {X : Cx} {K : PySem.W.Frag} {H : Hp} {Q : VK}
theorem u_reprU {k : Nat} (hr : Rm k X.A) (hK : X.K = K := by rfl) : CallR X (.builtin "repr") (rReprU K) := by
  subst hK
  exact (call_repr hr).or (CallR.or (SkE.call_repr_int (X := X)) (call_repr_bl (X := X)))
theorem rp_bl (b : Bool) (q : Q (.str (if b then "True" else "False")) H) : rReprU K [.bl b] H Q := .inr (.inr ⟨b, rfl, q⟩)
theorem rp_int {i : Int} (h : i.natAbs.log2 < 1920) (q : Q (.str (toString i)) H) : rReprU K [.int i] H Q := .inr (.inl ⟨i, rfl, h, q⟩)
end
end VB
/-! raising an error that carries one value -/
namespace VB
open PySem PySem.Spec PyProof.Rows L2
/-- the class x at C with the value's name g, and its __init__ -/
structure MkE (P : Program) (w : World) (K : PySem.W.Frag) (mg : Str → Option Value) (base : Heap) (x g : Str) (C fI : Addr) : Prop where
  err : ErrC K mg x g C fI
  ini : ∃ fd, FnOk P w K mg base CX0 1 fI fd ["self", g] (spInit K g) ∧ Binds K fd ["self", g] []
section
variable {X : Cx} {x g : Str} {C fI : Addr} {p pos : Pos} {e : Expr} {ta : TA}
theorem pmk_err {k : Nat} (M : MkE X.prog X.w X.K X.mg X.base x g C fI) (hr : Rm k X.A) (ha : PA X [e] ta) (hk : 2 ≤ k := by omega) (hg : Gl X x := by rfl) (hdb : (x == ("__debug__" : Str)) = false := by decide)
    (he : starEach [e] X.env = (false, eval e X.env) :: starEach [] X.env := by rfl) (hpl : (backTo pos (starEach [] X.env)).any (·.1) = false := by rfl) :
    PMk X (.Call (.Name x p) [e] [] pos) (tMkO C (spInit X.K g) [] ta) := by
  obtain ⟨fd, F, b⟩ := M.ini
  exact pmk_oex M.err.oex M.err.iC M.err.tI F (hr.rm.mono hk) b .nil pass0 hg M.err.gC ha hdb he hpl
theorem ps_raiseE {k : Nat} {W : WX} (M : MkE X.prog X.w X.K X.mg X.base x g C fI) (hr : Rm k X.A) (tk : Takes X W) (hc : X.calm = true) (ha : PA X [e] ta) {pos' : Pos} (hk : 2 ≤ k := by omega) (hg : Gl X x := by rfl) (hdb : (x == ("__debug__" : Str)) = false := by decide)
    (he : starEach [e] X.env = (false, eval e X.env) :: starEach [] X.env := by rfl) (hpl : (backTo pos (starEach [] X.env)).any (·.1) = false := by rfl) :
    PS X (.Raise (some (.Call (.Name x p) [e] [] pos)) none pos') (fun _ σ H => tMkO C (spInit X.K g) [] ta σ H fun cls d H' => W cls d σ H') :=
  ps_raise hc tk (pmk_err M hr ha hk hg hdb he hpl)
end
end VB
namespace K6
open PySem PySem.Spec PyProof.Rows L2 VB
def top (i : Nat) : Stmt := PySem.Challenge.pw_onewaybits_k06_whole_cut_again_and_done.main.body.getD i (.Pass ⟨0, 0, 0, 0⟩)
def mtop (i j : Nat) : Stmt := match top i with | .ClassDef _ _ _ b _ _ _ _ _ _ _ => b.getD j (.Pass ⟨0, 0, 0, 0⟩) | _ => .Pass ⟨0, 0, 0, 0⟩
abbrev s_Chip____init__ : Stmt := mtop 42 0
theorem sc_Chip____init__ : FnScope ["self", "blocks", "pages", "bad", "_"] ["self", "blocks", "pages", "bad"] (defScope s_Chip____init__) := ⟨rfl, rfl, rfl, by decide +kernel, rfl, by decide +kernel, by decide +kernel⟩
abbrev s_Chip__read : Stmt := mtop 42 1
theorem sc_Chip__read : FnScope ["self", "block", "page"] ["self", "block", "page"] (defScope s_Chip__read) := ⟨rfl, rfl, rfl, by decide +kernel, rfl, by decide +kernel, by decide +kernel⟩
abbrev s_Chip__write : Stmt := mtop 42 2
theorem sc_Chip__write : FnScope ["self", "block", "page", "octets", "start", "end", "old", "written", "was", "octet"] ["self", "block", "page", "octets"] (defScope s_Chip__write) := ⟨rfl, rfl, rfl, by decide +kernel, rfl, by decide +kernel, by decide +kernel⟩
abbrev s_Chip__erase : Stmt := mtop 42 3
theorem sc_Chip__erase : FnScope ["self", "block"] ["self", "block"] (defScope s_Chip__erase) := ⟨rfl, rfl, rfl, by decide +kernel, rfl, by decide +kernel, by decide +kernel⟩
abbrev s_Chip__erases : Stmt := mtop 42 4
theorem sc_Chip__erases : FnScope ["self", "block"] ["self", "block"] (defScope s_Chip__erases) := ⟨rfl, rfl, rfl, by decide +kernel, rfl, by decide +kernel, by decide +kernel⟩
abbrev s_Chip__cut : Stmt := mtop 42 5
theorem sc_Chip__cut : FnScope ["self", "op", "mask"] ["self", "op", "mask"] (defScope s_Chip__cut) := ⟨rfl, rfl, rfl, by decide +kernel, rfl, by decide +kernel, by decide +kernel⟩
abbrev s_Chip__fail : Stmt := mtop 42 6
theorem sc_Chip__fail : FnScope ["self", "op", "mask"] ["self", "op", "mask"] (defScope s_Chip__fail) := ⟨rfl, rfl, rfl, by decide +kernel, rfl, by decide +kernel, by decide +kernel⟩
abbrev s_Chip__clear_plans : Stmt := mtop 42 7
theorem sc_Chip__clear_plans : FnScope ["self"] ["self"] (defScope s_Chip__clear_plans) := ⟨rfl, rfl, rfl, by decide +kernel, rfl, by decide +kernel, by decide +kernel⟩
abbrev s_Chip__is_bad : Stmt := mtop 42 8
theorem sc_Chip__is_bad : FnScope ["self", "block"] ["self", "block"] (defScope s_Chip__is_bad) := ⟨rfl, rfl, rfl, by decide +kernel, rfl, by decide +kernel, by decide +kernel⟩
abbrev s_Chip__bad_blocks : Stmt := mtop 42 9
theorem sc_Chip__bad_blocks : FnScope ["self", "block"] ["self"] (defScope s_Chip__bad_blocks) := ⟨rfl, rfl, rfl, by decide +kernel, rfl, by decide +kernel, by decide +kernel⟩
abbrev s_Chip__kept_read : Stmt := mtop 42 10
theorem sc_Chip__kept_read : FnScope ["self", "block"] ["self", "block"] (defScope s_Chip__kept_read) := ⟨rfl, rfl, rfl, by decide +kernel, rfl, by decide +kernel, by decide +kernel⟩
abbrev s_Chip__keep_read : Stmt := mtop 42 11
theorem sc_Chip__keep_read : FnScope ["self", "block", "read"] ["self", "block", "read"] (defScope s_Chip__keep_read) := ⟨rfl, rfl, rfl, by decide +kernel, rfl, by decide +kernel, by decide +kernel⟩
abbrev s_Chip___check_block : Stmt := mtop 42 12
theorem sc_Chip___check_block : FnScope ["self", "block"] ["self", "block"] (defScope s_Chip___check_block) := ⟨rfl, rfl, rfl, by decide +kernel, rfl, by decide +kernel, by decide +kernel⟩
abbrev s_Chip___check_page : Stmt := mtop 42 13
theorem sc_Chip___check_page : FnScope ["self", "page"] ["self", "page"] (defScope s_Chip___check_page) := ⟨rfl, rfl, rfl, by decide +kernel, rfl, by decide +kernel, by decide +kernel⟩
abbrev s_Chip___check_plan : Stmt := mtop 42 14
theorem sc_Chip___check_plan : FnScope ["self", "op", "mask"] ["self", "op", "mask"] (defScope s_Chip___check_plan) := ⟨rfl, rfl, rfl, by decide +kernel, rfl, by decide +kernel, by decide +kernel⟩
abbrev s_Chip___do_op : Stmt := mtop 42 15
theorem sc_Chip___do_op : FnScope ["self", "block", "new", "op", "cut_mask", "fail_mask"] ["self", "block", "new"] (defScope s_Chip___do_op) := ⟨rfl, rfl, rfl, by decide +kernel, rfl, by decide +kernel, by decide +kernel⟩
abbrev s_Chip___set_octets : Stmt := mtop 42 16
theorem sc_Chip___set_octets : FnScope ["self", "block", "octets"] ["self", "block", "octets"] (defScope s_Chip___set_octets) := ⟨rfl, rfl, rfl, by decide +kernel, rfl, by decide +kernel, by decide +kernel⟩
abbrev s__wall : Stmt := top 0
theorem sc__wall : FnScope ["k"] ["k"] (defScope s__wall) := ⟨rfl, rfl, rfl, by decide +kernel, rfl, by decide +kernel, by decide +kernel⟩
abbrev s_is_int : Stmt := top 17
theorem sc_is_int : FnScope ["value"] ["value"] (defScope s_is_int) := ⟨rfl, rfl, rfl, by decide +kernel, rfl, by decide +kernel, by decide +kernel⟩
abbrev s_is_int_from : Stmt := top 18
theorem sc_is_int_from : FnScope ["value", "least", "greatest"] ["value", "least", "greatest"] (defScope s_is_int_from) := ⟨rfl, rfl, rfl, by decide +kernel, rfl, by decide +kernel, by decide +kernel⟩
abbrev s_is_list : Stmt := top 19
theorem sc_is_list : FnScope ["value"] ["value"] (defScope s_is_list) := ⟨rfl, rfl, rfl, by decide +kernel, rfl, by decide +kernel, by decide +kernel⟩
abbrev s_is_octets : Stmt := top 20
theorem sc_is_octets : FnScope ["value", "octet"] ["value"] (defScope s_is_octets) := ⟨rfl, rfl, rfl, by decide +kernel, rfl, by decide +kernel, by decide +kernel⟩
abbrev s_is_octets_of : Stmt := top 21
theorem sc_is_octets_of : FnScope ["value", "count"] ["value", "count"] (defScope s_is_octets_of) := ⟨rfl, rfl, rfl, by decide +kernel, rfl, by decide +kernel, by decide +kernel⟩
abbrev s_is_mask : Stmt := top 22
theorem sc_is_mask : FnScope ["value"] ["value"] (defScope s_is_mask) := ⟨rfl, rfl, rfl, by decide +kernel, rfl, by decide +kernel, by decide +kernel⟩
abbrev s_changed : Stmt := top 25
theorem sc_changed : FnScope ["old", "new", "mask", "unlike", "octets", "k", "bit", "was", "now"] ["old", "new", "mask"] (defScope s_changed) := ⟨rfl, rfl, rfl, by decide +kernel, rfl, by decide +kernel, by decide +kernel⟩
abbrev s_number_in : Stmt := top 26
theorem sc_number_in : FnScope ["octets"] ["octets"] (defScope s_number_in) := ⟨rfl, rfl, rfl, by decide +kernel, rfl, by decide +kernel, by decide +kernel⟩
abbrev s_number_told_by : Stmt := top 27
theorem sc_number_told_by : FnScope ["octets", "number", "octet"] ["octets"] (defScope s_number_told_by) := ⟨rfl, rfl, rfl, by decide +kernel, rfl, by decide +kernel, by decide +kernel⟩
abbrev s_in_octets : Stmt := top 28
theorem sc_in_octets : FnScope ["number", "count"] ["number", "count"] (defScope s_in_octets) := ⟨rfl, rfl, rfl, by decide +kernel, rfl, by decide +kernel, by decide +kernel⟩
abbrev s_octets_telling : Stmt := top 29
theorem sc_octets_telling : FnScope ["number", "count", "k"] ["number", "count"] (defScope s_octets_telling) := ⟨rfl, rfl, rfl, by decide +kernel, rfl, by decide +kernel, by decide +kernel⟩
abbrev s__check_octets : Stmt := top 30
theorem sc__check_octets : FnScope ["octets"] ["octets"] (defScope s__check_octets) := ⟨rfl, rfl, rfl, by decide +kernel, rfl, by decide +kernel, by decide +kernel⟩
abbrev s__check_pair : Stmt := top 31
theorem sc__check_pair : FnScope ["old", "new"] ["old", "new"] (defScope s__check_pair) := ⟨rfl, rfl, rfl, by decide +kernel, rfl, by decide +kernel, by decide +kernel⟩
abbrev s__ones : Stmt := top 32
theorem sc__ones : FnScope ["octets", "bit"] ["octets"] (defScope s__ones) := ⟨rfl, rfl, rfl, by decide +kernel, rfl, by decide +kernel, by decide +kernel⟩
abbrev s__worth : Stmt := top 33
theorem sc__worth : FnScope ["bit"] ["bit"] (defScope s__worth) := ⟨rfl, rfl, rfl, by decide +kernel, rfl, by decide +kernel, by decide +kernel⟩
abbrev s_image : Stmt := top 43
theorem sc_image : FnScope ["chip", "told", "block"] ["chip"] (defScope s_image) := ⟨rfl, rfl, rfl, by decide +kernel, rfl, by decide +kernel, by decide +kernel⟩
abbrev s_read_image : Stmt := top 44
theorem sc_read_image : FnScope ["octets", "chip", "block", "part"] ["octets"] (defScope s_read_image) := ⟨rfl, rfl, rfl, by decide +kernel, rfl, by decide +kernel, by decide +kernel⟩
abbrev s_is_block_count : Stmt := top 45
theorem sc_is_block_count : FnScope ["value"] ["value"] (defScope s_is_block_count) := ⟨rfl, rfl, rfl, by decide +kernel, rfl, by decide +kernel, by decide +kernel⟩
abbrev s_is_page_count : Stmt := top 46
theorem sc_is_page_count : FnScope ["value"] ["value"] (defScope s_is_page_count) := ⟨rfl, rfl, rfl, by decide +kernel, rfl, by decide +kernel, by decide +kernel⟩
abbrev s_is_bad_count : Stmt := top 47
theorem sc_is_bad_count : FnScope ["value", "blocks"] ["value", "blocks"] (defScope s_is_bad_count) := ⟨rfl, rfl, rfl, by decide +kernel, rfl, by decide +kernel, by decide +kernel⟩
abbrev s__four_octets : Stmt := top 48
theorem sc__four_octets : FnScope ["number"] ["number"] (defScope s__four_octets) := ⟨rfl, rfl, rfl, by decide +kernel, rfl, by decide +kernel, by decide +kernel⟩
abbrev s__clean_block : Stmt := top 49
theorem sc__clean_block : FnScope ["pages"] ["pages"] (defScope s__clean_block) := ⟨rfl, rfl, rfl, by decide +kernel, rfl, by decide +kernel, by decide +kernel⟩
abbrev s__is_image : Stmt := top 50
theorem sc__is_image : FnScope ["value", "parts", "flags", "ops", "part"] ["value"] (defScope s__is_image) := ⟨rfl, rfl, rfl, by decide +kernel, rfl, by decide +kernel, by decide +kernel⟩
abbrev s__is_shape : Stmt := top 51
theorem sc__is_shape : FnScope ["blocks", "pages", "bad"] ["blocks", "pages", "bad"] (defScope s__is_shape) := ⟨rfl, rfl, rfl, by decide +kernel, rfl, by decide +kernel, by decide +kernel⟩
abbrev s__part_size : Stmt := top 52
theorem sc__part_size : FnScope ["octets"] ["octets"] (defScope s__part_size) := ⟨rfl, rfl, rfl, by decide +kernel, rfl, by decide +kernel, by decide +kernel⟩
abbrev s__block_parts : Stmt := top 53
theorem sc__block_parts : FnScope ["octets", "size", "start"] ["octets"] (defScope s__block_parts) := ⟨rfl, rfl, rfl, by decide +kernel, rfl, by decide +kernel, by decide +kernel⟩
abbrev s__law_cell : Stmt := top 55
theorem sc__law_cell : FnScope ["_law_script", "_law_k"] ["_law_script", "_law_k"] (defScope s__law_cell) := ⟨rfl, rfl, rfl, by decide +kernel, rfl, by decide +kernel, by decide +kernel⟩
abbrev s__law_box : Stmt := top 56
theorem sc__law_box : FnScope ["_law_great"] ["_law_great"] (defScope s__law_box) := ⟨rfl, rfl, rfl, by decide +kernel, rfl, by decide +kernel, by decide +kernel⟩
abbrev s__law_take : Stmt := top 57
theorem sc__law_take : FnScope ["_law_box_here", "_law_many", "_law_digit", "_law_mixed"] ["_law_box_here", "_law_many"] (defScope s__law_take) := ⟨rfl, rfl, rfl, by decide +kernel, rfl, by decide +kernel, by decide +kernel⟩
abbrev s__law_mask : Stmt := top 58
theorem sc__law_mask : FnScope ["_law_box_here", "_law_way", "_law_every", "_law_word", "_law_found", "_law_k"] ["_law_box_here"] (defScope s__law_mask) := ⟨rfl, rfl, rfl, by decide +kernel, rfl, by decide +kernel, by decide +kernel⟩
abbrev s__law_pages : Stmt := top 59
theorem sc__law_pages : FnScope ["_law_chip", "_law_blocks", "_law_block", "_law_page"] ["_law_chip", "_law_blocks"] (defScope s__law_pages) := ⟨rfl, rfl, rfl, by decide +kernel, rfl, by decide +kernel, by decide +kernel⟩
abbrev s__law_done : Stmt := top 60
theorem sc__law_done : FnScope ["_law_chip", "_law_deed_here", "e"] ["_law_chip", "_law_deed_here"] (defScope s__law_done) := ⟨rfl, rfl, rfl, by decide +kernel, rfl, by decide +kernel, by decide +kernel⟩
abbrev s__law_due : Stmt := top 61
theorem sc__law_due : FnScope ["_law_pages_here", "_law_deed_here", "_law_block", "_law_page", "_law_octets", "_law_fresh", "_law_k"] ["_law_pages_here", "_law_deed_here"] (defScope s__law_due) := ⟨rfl, rfl, rfl, by decide +kernel, rfl, by decide +kernel, by decide +kernel⟩
abbrev s__law_is_between : Stmt := top 62
theorem sc__law_is_between : FnScope ["_law_old", "_law_now", "_law_due_here", "_law_page", "_law_k", "_law_one", "_law_two", "_law_three"] ["_law_old", "_law_now", "_law_due_here"] (defScope s__law_is_between) := ⟨rfl, rfl, rfl, by decide +kernel, rfl, by decide +kernel, by decide +kernel⟩
abbrev s__law_counts : Stmt := top 63
theorem sc__law_counts : FnScope ["_law_chip", "_law_blocks", "_law_block"] ["_law_chip", "_law_blocks"] (defScope s__law_counts) := ⟨rfl, rfl, rfl, by decide +kernel, rfl, by decide +kernel, by decide +kernel⟩
abbrev s__law_step_right : Stmt := top 64
theorem sc__law_step_right : FnScope ["_law_chip", "_law_blocks", "_law_deed_here", "_law_mask_here", "_law_kind", "_law_is_bad", "_law_pages_here", "_law_counts_here", "_law_told", "_law_behind", "_law_due_here", "_law_block"] ["_law_chip", "_law_blocks", "_law_deed_here", "_law_mask_here", "_law_kind", "_law_is_bad"] (defScope s__law_step_right) := ⟨rfl, rfl, rfl, by decide +kernel, rfl, by decide +kernel, by decide +kernel⟩
abbrev s__law_deed : Stmt := top 65
theorem sc__law_deed : FnScope ["_law_box_here", "_law_blocks", "_law_block", "_law_page", "_law_way", "_law_octets", "_law_k"] ["_law_box_here", "_law_blocks"] (defScope s__law_deed) := ⟨rfl, rfl, rfl, by decide +kernel, rfl, by decide +kernel, by decide +kernel⟩
abbrev s__law_frozen_right : Stmt := top 66
theorem sc__law_frozen_right : FnScope ["_law_box_here", "_law_chip", "_law_blocks", "_law_block", "_law_turn", "_law_deed_here", "_law_kind"] ["_law_box_here", "_law_chip", "_law_blocks", "_law_block"] (defScope s__law_frozen_right) := ⟨rfl, rfl, rfl, by decide +kernel, rfl, by decide +kernel, by decide +kernel⟩
abbrev s__law_right : Stmt := top 67
theorem sc__law_right : FnScope ["_law_box_here", "_law_blocks", "_law_failing", "_law_again", "_law_chip", "_law_twin", "_law_turn", "_law_deed_here", "_law_k"] ["_law_box_here"] (defScope s__law_right) := ⟨rfl, rfl, rfl, by decide +kernel, rfl, by decide +kernel, by decide +kernel⟩
abbrev s_law : Stmt := top 68
theorem sc_law : FnScope ["_law_script", "_law_k"] ["_law_script"] (defScope s_law) := ⟨rfl, rfl, rfl, by decide +kernel, rfl, by decide +kernel, by decide +kernel⟩
abbrev FnP (K : PySem.W.Frag) (x : Str) (st : Stmt) (f : Addr) (fd : FuncData) : Prop := FunD K x x (defArgs st) (defBody st) (defScope st) [] [] f fd
abbrev FnM (K : PySem.W.Frag) (m q : Str) (st : Stmt) (f : Addr) (fd : FuncData) : Prop := FunD K m q (defArgs st) (defBody st) (defScope st) [] [] f fd
structure Txt (K : PySem.W.Frag) (mg : Str → Option Value) : Prop where
  f_abs : mg "abs" = none
  f_all : mg "all" = none
  f_bool : mg "bool" = none
  f_enumerate : mg "enumerate" = none
  f_int : mg "int" = none
  f_isinstance : mg "isinstance" = none
  f_len : mg "len" = none
  f_list : mg "list" = none
  f_max : mg "max" = none
  f_min : mg "min" = none
  f_range : mg "range" = none
  f_repr : mg "repr" = none
  f_reversed : mg "reversed" = none
  f_sum : mg "sum" = none
  f_tuple : mg "tuple" = none
  f_zip : mg "zip" = none
  g_BLOCK_HEAD : ∃ t, mg "BLOCK_HEAD" = some (.int 5 t)
  g_Chip : mg "Chip" = some (.ref (He.ga K "Chip"))
  g_IMAGE_HEAD : ∃ t, mg "IMAGE_HEAD" = some (.int 11 t)
  g_LEAST_BLOCKS : ∃ t, mg "LEAST_BLOCKS" = some (.int 8 t)
  g_LEAST_GOOD_BLOCKS : ∃ t, mg "LEAST_GOOD_BLOCKS" = some (.int 7 t)
  g_LEAST_PAGES : ∃ t, mg "LEAST_PAGES" = some (.int 8 t)
  g_MASK_BITS : ∃ t, mg "MASK_BITS" = some (.int 4096 t)
  g_MOST_BLOCKS : ∃ t, mg "MOST_BLOCKS" = some (.int 24 t)
  g_MOST_OCTETS_OF_A_NUMBER : ∃ t, mg "MOST_OCTETS_OF_A_NUMBER" = some (.int 8 t)
  g_MOST_PAGES : ∃ t, mg "MOST_PAGES" = some (.int 16 t)
  g_PAGE_OCTETS : ∃ t, mg "PAGE_OCTETS" = some (.int 31 t)
abbrev s_PowerCut____init__ : Stmt := mtop 13 0
theorem sc_PowerCut____init__ : FnScope ["self", "op"] ["self", "op"] (defScope s_PowerCut____init__) := ⟨rfl, rfl, rfl, by decide +kernel, rfl, by decide +kernel, by decide +kernel⟩
end K6
/-! the ends -/
namespace VB
open PySem PySem.Spec PyProof.Rows L2
theorem vals_getD {zs : List V} {ws : List Value} (h : Vals zs ws) : ∀ i : Nat, RelV (zs.getD i .non) (ws.getD i .none) := by
  induction h with
  | nil =>
    intro i
    exact rfl
  | cons r _ ih =>
    intro i
    cases i with
    | zero => exact r
    | succ i => exact ih i
theorem kb_of {K : PySem.W.Frag} {x qual : Str} {params : Arguments} {body : List Stmt} {scope : Scope} {kws : List (Str × V)} {f : Addr} {fd : FuncData} {ps ks : List Str} {n : Nat}
    {g : List Value → List Value → List Value} {gV : List V → List V → List V} (F : FunD K x qual params body scope [] kws f fd)
    (hrel : ∀ {vs : List V} {us : List Value} {zs : List V} {ws : List Value}, Vals vs us → Vals zs ws → Vals (gV vs zs) (g us ws))
    (h : ∀ (kV doc pm : Value) (an : Option Addr) (cdv ct : Value) (us ws : List Value), us.length = n → ws.length = ks.length → bindArgs (PySem.W.fnOf x qual params body scope .none kV doc pm an cdv ct) ⟨us, ks.zip ws⟩ = pure (ps.zip (g us ws))) :
    KBn K fd ps n ks g gV := by
  obtain ⟨oc, od, dV, kV, doc, pm, an, cdv, ct, osl, rfl, lk, hcd, hD, hK⟩ := F.ex
  rcases hD with ⟨_, rfl⟩ | ⟨e, _⟩
  · exact ⟨fun s us ws _ l1 l2 => .of_eq (h kV doc pm an cdv ct us ws l1 l2), fun r1 r2 => hrel r1 r2⟩
  · exact absurd rfl e
end VB
/-! methods called within a try -/
namespace VB
open PySem PySem.Spec PyProof.Rows L2
def tMethS (C : Addr) (m : Str) (sp : Sp) (E : L2.St → XK) (ta : TE) (t : TA) : TE := fun σ H Q => tMeth C m sp [] (E σ) ta t σ H Q
section
variable {X : Cx} {CX : CXT} {k n : Nat} {ps ks : List Str} {sp : Sp} {E : L2.St → XK} {x m : Str} {p pos apos : Pos} {C : Addr} {e o : Expr} {es : List Expr} {t tk : TA} {ta : TE}
theorem pe_calMS {pl : Sem Bool} (M : CalM X.prog X.w X.K X.mg X.base CX k C m ps sp) (hr : Rm k X.A) (hx : ∀ σ, PassesAt CX X σ (E σ)) (he : PE X o ta) (ha : PA X (e :: es) t)
    (hst : starEach (e :: es) X.env = (false, eval e X.env) :: starEach es X.env := by rfl) (hpl : (backTo pos (starEach es X.env)).any (·.1) = false := by rfl)
    (ht : eval (.Call (.Attribute o m apos) (e :: es) [] pos) X.env = askM X o m pl apos pos (e :: es) := by rfl) :
    PE X (.Call (.Attribute o m apos) (e :: es) [] pos) (tMethS C m sp E ta t) := by
  obtain ⟨f, fd, F, c, hm, hb⟩ := M.ex
  constructor
  intro pins s σ H Q I h
  refine PySem.W.methodCall_KW (pl := pl) (thn (he.run pins s σ H _ I h) ?_) ht
  rintro u s1 ⟨x, H1, I1, rx, a, dx, fs, rfl, ea, l, q⟩
  obtain rfl : u = Value.ref a := rx
  refine getmeth_ok I1 ea c hm l ?_
  refine PySem.W.callWith_K (first := [.ref a]) (h₀ := X.base) I.ok.mod.kin hm.kp (thn (ha.run pos pins s1 σ H1 _ I1 q) ?_) hst hpl
  rintro us s2 ⟨vs, H2, I2, r, q2⟩
  have q3 : sp (.ref a :: (vs ++ [])) H2 Q (E σ) := q2
  rw [List.append_nil] at q3
  have r2 : Vals (V.ref a :: vs) (Value.ref a :: us) := .cons rfl r
  have b := hb s2 (.ref a :: us) I2.kIn (by rw [List.append_nil, ← r2.length]; exact F.cnt _ _ _ _ q3)
  rw [List.append_nil] at b
  exact ⟨I2.kIn, enterS (args := ⟨.ref a :: us, []⟩) F hr (hx σ) I2 b r2 q3⟩
theorem takes_no : Takes X (fun _ _ _ _ => False) := fun _ _ ⟨_, _, _, _, _, _, _, _, _, _, _, _, _, _, _, _, w⟩ => w.elim
theorem op_isT : OpR X (compareOp .Is) (fun x y H Q => ∃ b : Bool, y = .bl b ∧ (x = .non ∨ ∃ a, x = .bl a) ∧ Q (.bl (decide (x = .bl b))) H) := by
  intro pins s σ H x y v u Q I rx ry h
  obtain ⟨b, rfl, hx, q⟩ := h
  cases (show u = Value.bool b from ry)
  rcases hx with rfl | ⟨a, rfl⟩
  · cases (show v = Value.none from rx)
    exact wpAny_is_other rfl (fun z => by cases z) ⟨.bl false, H, I, rfl, by simpa using q⟩
  · cases (show v = Value.bool a from rx)
    by_cases e : a = b
    · subst e
      exact wpAny_is_self rfl ⟨.bl true, H, I, rfl, by simpa using q⟩
    · exact wpAny_is_other rfl (fun z => e (Value.bool.inj z)) ⟨.bl false, H, I, rfl, by simpa [e] using q⟩
end
end VB
/-! error classes that carry one value, from what is looked at -/
namespace VB
open PySem PySem.Spec PyProof.Rows L2
def oexB (K : PySem.W.Frag) (C : Addr) : Bool := match K.lookup C with
  | some ⟨.type "type", _, .cls cd, sl⟩ => (match cd.mro, sl.toList with
    | .ref C' :: bm, [_, _, _, _, some (.builtin n), _] => decide (C' = C) && (decide (n = "ValueError.__new__") && (!cd.hasDel && (cd.hasDict && PySem.HandSPX.refsVE bm)))
    | _, _ => false)
  | _ => false
theorem oexB_cls {K : PySem.W.Frag} {C : Addr} (q : oexB K C = true) : ∃ nm q N bs bm sn sub ab col dd k0 k1 k2 k3 k5, K.lookup C = some (excClassObj nm q C N bs bm true sn sub ab col dd k0 k1 k2 k3 k5 "ValueError.__new__") ∧ PySem.HandSPX.refsVE bm = true := by
  unfold oexB at q
  split at q
  · rename_i dd cd sl ho
    split at q
    · rename_i C' bm k0 k1 k2 k3 n k5 hm hs
      simp only [Bool.and_eq_true, decide_eq_true_eq, Bool.not_eq_true'] at q
      obtain ⟨rfl, rfl, hdel, hdic, ht⟩ := q
      obtain ⟨nm, bs, mro, ns, qn, hd, sn, sub, ab, col, del⟩ := cd
      dsimp only at hm hdel hdic
      subst hm hdel hdic
      have hsl : sl = #[k0, k1, k2, k3, some (.builtin "ValueError.__new__"), k5] := by
        obtain ⟨l⟩ := sl
        simp only at hs
        rw [hs]
      subst hsl
      exact ⟨nm, qn, ns, bs, bm, sn, sub, ab, col, dd, k0, k1, k2, k3, k5, ho, ht⟩
    · cases q
  · cases q
def errB (K : PySem.W.Frag) (x g : Str) : Bool := oexB K (He.ga K x) && (decide (PySem.W.findIn K (.ref (He.ga K x)) "__setattr__" = some (some (.builtin "object.__setattr__"))) && (decide (PySem.W.subIn K (.ref (He.ga K x)) (.type "BaseException") = some true) && (decide (PySem.W.typeIn K (.ref (He.ga K x)) = some (.type "type")) && (PySem.W.keepIn K (.ref (He.ga K x)) &&
  (decide (PySem.W.findIn K (.ref (He.ga K x)) "__init__" = some (some (.ref (He.ma K (He.ga K x) "__init__")))) && (decide (PySem.W.typeIn K (.ref (He.ma K (He.ga K x) "__init__")) = some (.type "function")) && (decide (PySem.W.findIn K (.ref (He.ga K x)) g = some none) && (xfB K (He.ga K x) && decide (PySem.W.exmOne K (.ref (He.ga K x)) (.ref (He.ga K x)) = some true)))))))))
theorem errB_ok {K : PySem.W.Frag} {mg : Str → Option Value} {x g : Str} (h : errB K x g = true) (gC : mg x = some (.ref (He.ga K x))) : ErrC K mg x g (He.ga K x) (He.ma K (He.ga K x) "__init__") ∧ PySem.W.exmOne K (.ref (He.ga K x)) (.ref (He.ga K x)) = some true := by
  unfold errB at h
  obtain ⟨h1, h⟩ := Bool.and_eq_true_iff.mp h
  obtain ⟨h2, h⟩ := Bool.and_eq_true_iff.mp h
  obtain ⟨h3, h⟩ := Bool.and_eq_true_iff.mp h
  obtain ⟨h4, h⟩ := Bool.and_eq_true_iff.mp h
  obtain ⟨h5, h⟩ := Bool.and_eq_true_iff.mp h
  obtain ⟨h6, h⟩ := Bool.and_eq_true_iff.mp h
  obtain ⟨h7, h⟩ := Bool.and_eq_true_iff.mp h
  obtain ⟨h8, h⟩ := Bool.and_eq_true_iff.mp h
  obtain ⟨h9, h10⟩ := Bool.and_eq_true_iff.mp h
  exact ⟨⟨⟨oexB_cls h1, of_decide_eq_true h2, of_decide_eq_true h3, of_decide_eq_true h4, h5⟩, gC, of_decide_eq_true h6, of_decide_eq_true h7, of_decide_eq_true h8, xfB_ok h9⟩, of_decide_eq_true h10⟩
end VB
/-! a list, longer by a tuple's items -/
namespace VB
open PySem PySem.Spec PyProof.Rows L2
theorem list_extend_tup (l : Addr) (items : Array Value) (n : Nat) (b : Addr) (items2 : Array Value) (n2 : Nat) (dd : Option Addr) (sl : Array (Option Value)) (hs0 : ¬(!items.isEmpty && Builtin.List.listTooLong (items.size + items2.size)) = true) (hs1 : items.size ≤ sizeLine) (hs2 : items.size + items2.size ≤ sizeLine + 1) :
    Meets (Builtin.«list.extend» ⟨[.ref l, .ref b], []⟩) (fun _ R s => s.heap.get? l = some { cls := .type "list", dict := none, data := .seq items n, slots := #[] } ∧ s.heap.get? b = some { cls := .type "tuple", dict := dd, data := .seq items2 n2, slots := sl } ∧ R (.ok (.ret Value.none)) { s with heap := s.heap.update l (Obj.mapSeq fun x => x ++ items2), toks := s.toks }) :=
  .of_wp fun prog w A R s h => by
    obtain ⟨hp, g, d, tk, os⟩ := s; obtain ⟨hl, hb, h⟩ := h; have f1 := AutoSeq1.idx_int; have f2 := AutoSeq1.sub_tuple_tuple; have f3 := AutoSeq1.sub_list_list; have f4 := AutoSeq1.sub_tuple_list; have f5 := AutoSeq1.sub_list_tuple;
    have hz' : (items ++ items2).size ≤ sizeLine + 1 := by rw [Array.size_append]; exact hs2
    wp_walk using (wpAny_updateSeq hl rfl (hz := hs1) (_hz' := hz')), wpAny_loadPart' hl, wpAny_loadPart' hb; exact ⟨_, rfl, h⟩
def rExtT (K : PySem.W.Frag) : V → List V → Hp → VK → Prop := fun x vs H Q => ∃ l b xs zs, x = .ref l ∧ vs = [.ref b] ∧ H l = some (.lst xs) ∧ SqT K H b zs ∧ xs.length + zs.length ≤ sizeLine ∧ Q .non (upd H l (.lst (xs ++ zs)))
def rExtU (K : PySem.W.Frag) : V → List V → Hp → VK → Prop := fun x vs H Q => rExtend x vs H Q ∨ rExtT K x vs H Q
section
variable {X : Cx} {K : PySem.W.Frag}
theorem mt_extU (hK : X.K = K := by rfl) : MtM X "list.extend" (rExtU K) := by
  subst hK
  intro pins s σ H x vs v us Q I rx rv h
  rcases h with h | h
  · exact mt_extend pins s σ H x vs v us Q I rx rv h
  obtain ⟨l, b, xs, zs, rfl, rfl, hH, hB, hz, q⟩ := h
  cases rx
  obtain ⟨u, rfl, ru⟩ := rv.one
  cases ru
  obtain ⟨z, its, n, r, hl, e⟩ := I.lstM hH
  obtain ⟨its2, r2, ⟨⟨cls, dd, data, sl⟩, e2, hc, n2, hd⟩, hl2⟩ := I.tuple hB
  simp only at hc hd
  subst hc hd
  have l1 := r.length
  have l2 := r2.length
  have hsz : its.toArray.size + its2.toArray.size ≤ sizeLine := by rw [List.size_toArray, List.size_toArray]; omega
  have hlong : ¬ (!its.toArray.isEmpty && Builtin.List.listTooLong (its.toArray.size + its2.toArray.size)) = true := by
    rw [notLongL hsz, Bool.and_false]
    exact Bool.false_ne_true
  refine call_meets F.slot_list_extend ⟨_, e, rfl⟩ F.entry_list_extend (F.args_list_extend_2 _ _)
    (list_extend_tup l its.toArray n b its2.toArray n2 dd sl hlong (by rw [List.size_toArray]; omega) (by omega)) ⟨e, e2, ?_⟩
  refine ⟨.non, _, I.lset (its' := its ++ its2) hH e (by simp) (r.append r2) ?_, rfl, q⟩
  rw [List.length_append]
  omega
theorem u_max1 (hc : X.calm = true) (hK : X.K = K := by rfl) : CallR X (.builtin "max") (rMax K) := by
  subst hK
  exact cr_max hc
end
/-- what isinstance asks of instances of the class at C -/
structure InsC (K : PySem.W.Frag) (C : Addr) : Prop where
  ha : PySem.W.findIn K (.ref C) "__class__" = some (some (.builtin "object.__class__"))
  hn : PySem.W.specialIn K (.builtin "object.__class__") "__get__" = some (some (.builtin "getset_descriptor.__get__"))
  htk : PySem.W.takesIn K (.builtin "object.__class__") = some true
  hm : PySem.W.mroIn K C (.type "object") = some true
  kit : PySem.W.kitOne K (.ref C) (.ref C) = some true
def insB (K : PySem.W.Frag) (C : Addr) : Bool := decide (PySem.W.findIn K (.ref C) "__class__" = some (some (.builtin "object.__class__"))) && (decide (PySem.W.specialIn K (.builtin "object.__class__") "__get__" = some (some (.builtin "getset_descriptor.__get__"))) && (decide (PySem.W.takesIn K (.builtin "object.__class__") = some true) &&
  (decide (PySem.W.mroIn K C (.type "object") = some true) && decide (PySem.W.kitOne K (.ref C) (.ref C) = some true))))
theorem insB_ok {K : PySem.W.Frag} {C : Addr} (h : insB K C = true) : InsC K C := by
  unfold insB at h
  obtain ⟨h1, h⟩ := Bool.and_eq_true_iff.mp h
  obtain ⟨h2, h⟩ := Bool.and_eq_true_iff.mp h
  obtain ⟨h3, h⟩ := Bool.and_eq_true_iff.mp h
  obtain ⟨h4, h5⟩ := Bool.and_eq_true_iff.mp h
  exact ⟨of_decide_eq_true h1, of_decide_eq_true h2, of_decide_eq_true h3, of_decide_eq_true h4, of_decide_eq_true h5⟩
end VB
namespace K6
open PySem PySem.Spec PyProof.Rows L2 VB
def d__law_take : He.DefD := ⟨("_law_take", none), "_law_take", "_law_take", defArgs s__law_take, defBody s__law_take, defScope s__law_take, [], []⟩
def d_is_int_from : He.DefD := ⟨("is_int_from", none), "is_int_from", "is_int_from", defArgs s_is_int_from, defBody s_is_int_from, defScope s_is_int_from, [], []⟩
def d_is_block_count : He.DefD := ⟨("is_block_count", none), "is_block_count", "is_block_count", defArgs s_is_block_count, defBody s_is_block_count, defScope s_is_block_count, [], []⟩
def d_is_page_count : He.DefD := ⟨("is_page_count", none), "is_page_count", "is_page_count", defArgs s_is_page_count, defBody s_is_page_count, defScope s_is_page_count, [], []⟩
def d_is_bad_count : He.DefD := ⟨("is_bad_count", none), "is_bad_count", "is_bad_count", defArgs s_is_bad_count, defBody s_is_bad_count, defScope s_is_bad_count, [], []⟩
def d__clean_block : He.DefD := ⟨("_clean_block", none), "_clean_block", "_clean_block", defArgs s__clean_block, defBody s__clean_block, defScope s__clean_block, [], []⟩
def d__law_deed : He.DefD := ⟨("_law_deed", none), "_law_deed", "_law_deed", defArgs s__law_deed, defBody s__law_deed, defScope s__law_deed, [], []⟩
def d__law_counts : He.DefD := ⟨("_law_counts", none), "_law_counts", "_law_counts", defArgs s__law_counts, defBody s__law_counts, defScope s__law_counts, [], []⟩
def d__law_pages : He.DefD := ⟨("_law_pages", none), "_law_pages", "_law_pages", defArgs s__law_pages, defBody s__law_pages, defScope s__law_pages, [], []⟩
def d_is_int : He.DefD := ⟨("is_int", none), "is_int", "is_int", defArgs s_is_int, defBody s_is_int, defScope s_is_int, [], []⟩
def d_is_mask : He.DefD := ⟨("is_mask", none), "is_mask", "is_mask", defArgs s_is_mask, defBody s_is_mask, defScope s_is_mask, [], []⟩
def d_is_list : He.DefD := ⟨("is_list", none), "is_list", "is_list", defArgs s_is_list, defBody s_is_list, defScope s_is_list, [], []⟩
def d_is_octets : He.DefD := ⟨("is_octets", none), "is_octets", "is_octets", defArgs s_is_octets, defBody s_is_octets, defScope s_is_octets, [], []⟩
def d__check_octets : He.DefD := ⟨("_check_octets", none), "_check_octets", "_check_octets", defArgs s__check_octets, defBody s__check_octets, defScope s__check_octets, [], []⟩
def d__check_pair : He.DefD := ⟨("_check_pair", none), "_check_pair", "_check_pair", defArgs s__check_pair, defBody s__check_pair, defScope s__check_pair, [], []⟩
def d__worth : He.DefD := ⟨("_worth", none), "_worth", "_worth", defArgs s__worth, defBody s__worth, defScope s__worth, [], []⟩
def d__ones : He.DefD := ⟨("_ones", none), "_ones", "_ones", defArgs s__ones, defBody s__ones, defScope s__ones, [], []⟩
def d_changed : He.DefD := ⟨("changed", none), "changed", "changed", defArgs s_changed, defBody s_changed, defScope s_changed, [], []⟩
def d_is_octets_of : He.DefD := ⟨("is_octets_of", none), "is_octets_of", "is_octets_of", defArgs s_is_octets_of, defBody s_is_octets_of, defScope s_is_octets_of, [], []⟩
def d__law_done : He.DefD := ⟨("_law_done", none), "_law_done", "_law_done", defArgs s__law_done, defBody s__law_done, defScope s__law_done, [], []⟩
def d__law_due : He.DefD := ⟨("_law_due", none), "_law_due", "_law_due", defArgs s__law_due, defBody s__law_due, defScope s__law_due, [], []⟩
def d__law_is_between : He.DefD := ⟨("_law_is_between", none), "_law_is_between", "_law_is_between", defArgs s__law_is_between, defBody s__law_is_between, defScope s__law_is_between, [], []⟩
def d__law_step_right : He.DefD := ⟨("_law_step_right", none), "_law_step_right", "_law_step_right", defArgs s__law_step_right, defBody s__law_step_right, defScope s__law_step_right, [], []⟩
def d__law_mask : He.DefD := ⟨("_law_mask", none), "_law_mask", "_law_mask", defArgs s__law_mask, defBody s__law_mask, defScope s__law_mask, [], []⟩
def d__is_shape : He.DefD := ⟨("_is_shape", none), "_is_shape", "_is_shape", defArgs s__is_shape, defBody s__is_shape, defScope s__is_shape, [], []⟩
def d__part_size : He.DefD := ⟨("_part_size", none), "_part_size", "_part_size", defArgs s__part_size, defBody s__part_size, defScope s__part_size, [], []⟩
def d__block_parts : He.DefD := ⟨("_block_parts", none), "_block_parts", "_block_parts", defArgs s__block_parts, defBody s__block_parts, defScope s__block_parts, [], []⟩
def d_number_told_by : He.DefD := ⟨("number_told_by", none), "number_told_by", "number_told_by", defArgs s_number_told_by, defBody s_number_told_by, defScope s_number_told_by, [], []⟩
def d_number_in : He.DefD := ⟨("number_in", none), "number_in", "number_in", defArgs s_number_in, defBody s_number_in, defScope s_number_in, [], []⟩
def d__is_image : He.DefD := ⟨("_is_image", none), "_is_image", "_is_image", defArgs s__is_image, defBody s__is_image, defScope s__is_image, [], []⟩
def d_read_image : He.DefD := ⟨("read_image", none), "read_image", "read_image", defArgs s_read_image, defBody s_read_image, defScope s_read_image, [], []⟩
def d_octets_telling : He.DefD := ⟨("octets_telling", none), "octets_telling", "octets_telling", defArgs s_octets_telling, defBody s_octets_telling, defScope s_octets_telling, [], []⟩
def d_in_octets : He.DefD := ⟨("in_octets", none), "in_octets", "in_octets", defArgs s_in_octets, defBody s_in_octets, defScope s_in_octets, [], []⟩
def d__four_octets : He.DefD := ⟨("_four_octets", none), "_four_octets", "_four_octets", defArgs s__four_octets, defBody s__four_octets, defScope s__four_octets, [], []⟩
def d_image : He.DefD := ⟨("image", none), "image", "image", defArgs s_image, defBody s_image, defScope s_image, [], []⟩
def d__law_frozen_right : He.DefD := ⟨("_law_frozen_right", none), "_law_frozen_right", "_law_frozen_right", defArgs s__law_frozen_right, defBody s__law_frozen_right, defScope s__law_frozen_right, [], []⟩
def d__law_right : He.DefD := ⟨("_law_right", none), "_law_right", "_law_right", defArgs s__law_right, defBody s__law_right, defScope s__law_right, [], []⟩
def d__law_box : He.DefD := ⟨("_law_box", none), "_law_box", "_law_box", defArgs s__law_box, defBody s__law_box, defScope s__law_box, [], []⟩
def d__law_cell : He.DefD := ⟨("_law_cell", none), "_law_cell", "_law_cell", defArgs s__law_cell, defBody s__law_cell, defScope s__law_cell, [], []⟩
def d_law : He.DefD := ⟨("law", none), "law", "law", defArgs s_law, defBody s_law, defScope s_law, [], []⟩
def d_Chip____init__ : He.DefD := ⟨("Chip", some "__init__"), "__init__", "Chip.__init__", defArgs s_Chip____init__, defBody s_Chip____init__, defScope s_Chip____init__, [], []⟩
def d_Chip___check_block : He.DefD := ⟨("Chip", some "_check_block"), "_check_block", "Chip._check_block", defArgs s_Chip___check_block, defBody s_Chip___check_block, defScope s_Chip___check_block, [], []⟩
def d_Chip__erases : He.DefD := ⟨("Chip", some "erases"), "erases", "Chip.erases", defArgs s_Chip__erases, defBody s_Chip__erases, defScope s_Chip__erases, [], []⟩
def d_Chip___check_page : He.DefD := ⟨("Chip", some "_check_page"), "_check_page", "Chip._check_page", defArgs s_Chip___check_page, defBody s_Chip___check_page, defScope s_Chip___check_page, [], []⟩
def d_Chip__read : He.DefD := ⟨("Chip", some "read"), "read", "Chip.read", defArgs s_Chip__read, defBody s_Chip__read, defScope s_Chip__read, [], []⟩
def d_Chip___check_plan : He.DefD := ⟨("Chip", some "_check_plan"), "_check_plan", "Chip._check_plan", defArgs s_Chip___check_plan, defBody s_Chip___check_plan, defScope s_Chip___check_plan, [], []⟩
def d_Chip__cut : He.DefD := ⟨("Chip", some "cut"), "cut", "Chip.cut", defArgs s_Chip__cut, defBody s_Chip__cut, defScope s_Chip__cut, [], []⟩
def d_Chip__fail : He.DefD := ⟨("Chip", some "fail"), "fail", "Chip.fail", defArgs s_Chip__fail, defBody s_Chip__fail, defScope s_Chip__fail, [], []⟩
def d_Chip__bad_blocks : He.DefD := ⟨("Chip", some "bad_blocks"), "bad_blocks", "Chip.bad_blocks", defArgs s_Chip__bad_blocks, defBody s_Chip__bad_blocks, defScope s_Chip__bad_blocks, [], []⟩
def d_Chip___set_octets : He.DefD := ⟨("Chip", some "_set_octets"), "_set_octets", "Chip._set_octets", defArgs s_Chip___set_octets, defBody s_Chip___set_octets, defScope s_Chip___set_octets, [], []⟩
def d_Chip___do_op : He.DefD := ⟨("Chip", some "_do_op"), "_do_op", "Chip._do_op", defArgs s_Chip___do_op, defBody s_Chip___do_op, defScope s_Chip___do_op, [], []⟩
def d_Chip__erase : He.DefD := ⟨("Chip", some "erase"), "erase", "Chip.erase", defArgs s_Chip__erase, defBody s_Chip__erase, defScope s_Chip__erase, [], []⟩
def d_Chip__write : He.DefD := ⟨("Chip", some "write"), "write", "Chip.write", defArgs s_Chip__write, defBody s_Chip__write, defScope s_Chip__write, [], []⟩
def d_Chip__is_bad : He.DefD := ⟨("Chip", some "is_bad"), "is_bad", "Chip.is_bad", defArgs s_Chip__is_bad, defBody s_Chip__is_bad, defScope s_Chip__is_bad, [], []⟩
def d_PowerCut____init__ : He.DefD := ⟨("PowerCut", some "__init__"), "__init__", "PowerCut.__init__", defArgs s_PowerCut____init__, defBody s_PowerCut____init__, defScope s_PowerCut____init__, [], []⟩
def fnl : List He.DefD := [d__law_take, d_is_int_from, d_is_block_count, d_is_page_count, d_is_bad_count, d__clean_block, d__law_deed, d__law_counts, d__law_pages, d_is_int, d_is_mask, d_is_list, d_is_octets, d__check_octets, d__check_pair, d__worth, d__ones, d_changed, d_is_octets_of, d__law_done, d__law_due, d__law_is_between, d__law_step_right, d__law_mask, d__is_shape, d__part_size, d__block_parts, d_number_told_by, d_number_in, d__is_image, d_read_image, d_octets_telling, d_in_octets, d__four_octets, d_image, d__law_frozen_right, d__law_right, d__law_box, d__law_cell, d_law, d_Chip____init__, d_Chip___check_block, d_Chip__erases, d_Chip___check_page, d_Chip__read, d_Chip___check_plan, d_Chip__cut, d_Chip__fail, d_Chip__bad_blocks, d_Chip___set_octets, d_Chip___do_op, d_Chip__erase, d_Chip__write, d_Chip__is_bad, d_PowerCut____init__]
def fal : List He.Fa := [.glo "_law_take", .glo "is_int_from", .glo "is_block_count", .glo "is_page_count", .glo "is_bad_count", .glo "_clean_block", .glo "_law_deed", .glo "_law_counts", .glo "_law_pages", .glo "is_int", .glo "is_mask", .glo "is_list", .glo "is_octets", .glo "_check_octets", .glo "_check_pair", .glo "_worth", .glo "_ones", .glo "changed", .glo "is_octets_of", .glo "_law_done", .glo "_law_due", .glo "_law_is_between", .glo "_law_step_right", .glo "_law_mask", .glo "_is_shape", .glo "_part_size", .glo "_block_parts", .glo "number_told_by", .glo "number_in", .glo "_is_image", .glo "read_image", .glo "octets_telling", .glo "in_octets", .glo "_four_octets", .glo "image", .glo "_law_frozen_right", .glo "_law_right", .glo "_law_box", .glo "_law_cell", .glo "law", .free "abs", .free "all", .free "bool", .free "enumerate", .free "int", .free "isinstance", .free "len", .free "list", .free "max", .free "min", .free "range", .free "repr", .free "reversed", .free "sum", .free "tuple", .free "zip", .int "BLOCK_HEAD" 5, .glo "Chip", .int "IMAGE_HEAD" 11, .int "LEAST_BLOCKS" 8, .int "LEAST_GOOD_BLOCKS" 7, .int "LEAST_PAGES" 8, .int "MASK_BITS" 4096, .int "MOST_BLOCKS" 24, .int "MOST_OCTETS_OF_A_NUMBER" 8, .int "MOST_PAGES" 16, .int "PAGE_OCTETS" 31, .glo "Chip", .glo "PowerCut", .cls "Chip", .noat "Chip" "blocks", .noat "Chip" "pages", .noat "Chip" "bad", .noat "Chip" "ops", .noat "Chip" "cuts", .noat "Chip" "_octets", .noat "Chip" "_erased", .noat "Chip" "_turned_bad", .noat "Chip" "_cut_plans", .noat "Chip" "_fail_plans", .noat "Chip" "_reads", .meth "Chip" "_check_block", .meth "Chip" "erases", .meth "Chip" "_check_page", .meth "Chip" "read", .meth "Chip" "_check_plan", .meth "Chip" "cut", .meth "Chip" "fail", .meth "Chip" "bad_blocks", .meth "Chip" "_set_octets", .meth "Chip" "_do_op", .meth "Chip" "erase", .meth "Chip" "write", .meth "Chip" "is_bad", .mkr "Chip"]
abbrev Rw : PySem.W.OpenRow := PySem.W.OpenLaw.row PySem.Challenge.rw_onewaybits_k06_whole_cut_again_and_done
def exB (K : PySem.W.Frag) : Bool := errB K "PowerCut" "op" && insB K (He.ga K "Chip")
abbrev hk : PySem.W.Hook := He.hookX 6 fal fnl [] [] exB
def ob (s : PySem.W.SharedT) : He.AlX := He.obsX 6 fal fnl [] [] exB (HandSHeadRun.getT s)
theorem ob_eq (s : PySem.W.SharedT) : ob s = hk.obs s.abs := He.obsX_eq (HandSHeadRun.getT_eq s)
def ln0 : List Str := ["_wall", "FlashError", "InvalidOctets", "InvalidCount", "InvalidNumber", "InvalidMask", "InvalidOp", "InvalidBlock", "InvalidPage", "InvalidShape", "InvalidImage", "InvalidChip", "PowerCut", "PAGE_OCTETS", "MASK_BITS", "is_int", "is_int_from", "is_list", "is_octets", "is_octets_of", "is_mask", "MOST_OCTETS_OF_A_NUMBER", "changed", "number_in", "number_told_by", "in_octets", "octets_telling", "_check_octets", "_check_pair", "_ones"]
def ln1 : List Str := ["_worth", "LEAST_BLOCKS", "MOST_BLOCKS", "LEAST_PAGES", "MOST_PAGES", "LEAST_GOOD_BLOCKS", "IMAGE_HEAD", "BLOCK_HEAD", "Chip", "image", "read_image", "is_block_count", "is_page_count", "is_bad_count", "_four_octets", "_clean_block", "_is_image", "_is_shape", "_part_size", "_block_parts", "_law_cell", "_law_box", "_law_take", "_law_mask", "_law_pages", "_law_done", "_law_due", "_law_is_between", "_law_counts", "_law_step_right"]
def ln2 : List Str := ["_law_deed", "_law_frozen_right", "_law_right"]
abbrev lns : List Str := ln0 ++ ln1 ++ ln2
theorem run (w : World) : HandSHeadRun.RunEq Rw (PySem.W.view Rw.prog [68]) hk ob 30000 lns w := by
  intro os
  kernel_rfl
end K6
namespace K6
open PySem PySem.Spec PyProof.Rows L2 VB BM
section
variable {P : Program} {w : World} {K : PySem.W.Frag} {mg : Str → Option Value} {base : Heap} {f : Addr} {fd : FuncData}
def spTake : Sp := fun vs H Q _ => ∃ (a : Addr) (many n : Int), vs = [.ref a, .int many] ∧ Box H a n ∧ 0 < many ∧ many ≤ 2305843009213693952 ∧ n < 100000000 ∧
  ∀ (r : Int) (H' : Hp), 0 ≤ r → r < many → Exb a H H' → Box H' a (n + 1) → Q (.int r) H'
theorem ok_take (T : Txt K mg) (F : FnP K "_law_take" s__law_take f fd) : Fg P w K mg base CX0 1 f fd ["_law_box_here", "_law_many"] spTake := by
  refine fg_of F sc__law_take (fun vs H Q E h => ?_) (fun cdv A outer s H vs Q E hr h => ⟨_, (PSs.nox (pss_cons (ps_if (PW.pt (pw_and (pt_tru (K := K) (pe_ix (u_ix (K := K)) (pv 0) pe_int (fun _ _ => rfl)) (by intro _; rfl)) (pw_and1 (pt_cmpR op_gt (pe_ix (u_ix (K := K)) (pv 0) pe_int (fun _ _ => rfl)) pe_int (nomark _)))))
  (pss_cons (ps_set (i := 2) sc__law_take.nd rfl (by first | exact Or.inl rfl | exact Or.inr rfl) (pe_op u_mod (pe_callTy call_int1 (by rfl) T.f_int (by decide +kernel) (pa_cons (pe_ix (u_ix (K := K)) (pv 0) pe_int (fun _ _ => rfl)) pa_nil)) (pv 1)))
  (pss_cons (ps_asg (pe_op op_fdivW (pe_ix (u_ix (K := K)) (pv 0) pe_int (fun _ _ => rfl)) (pv 1)) (pg_sub (pv 0) pe_int set_list))
  (pss_one (ps_ret (pv 2))))) pss_nil)
  (pss_cons (ps_asg (pe_op (u_add (K := K)) (pe_ix (u_ix (K := K)) (pv 0) pe_int (fun _ _ => rfl)) pe_int) (pg_sub (pv 0) pe_int set_list))
  (pss_cons (ps_set (i := 3) sc__law_take.nd rfl (by first | exact Or.inl rfl | exact Or.inr rfl) (pe_op u_mod (pe_callTy call_int1 (by rfl) T.f_int (by decide +kernel) (pa_cons (pe_op op_pow (pe_op (u_add (K := K)) (pe_op (u_add (K := K)) (pe_ix (u_ix (K := K)) (pv 0) pe_int (fun _ _ => rfl)) (pe_op (u_mul (K := K)) pe_int (pe_ix (u_ix (K := K)) (pv 0) pe_int (fun _ _ => rfl)))) pe_int) pe_int) pa_nil)) pe_int))
  (pss_one (ps_ret (pe_op u_mod (pe_callTy call_int1 (by rfl) T.f_int (by decide +kernel) (pa_cons (pe_op op_fdivW (pe_op u_mod (pe_callTy call_int1 (by rfl) T.f_int (by decide +kernel) (pa_cons (pe_op op_pow (pe_op (u_add (K := K)) (pe_op (u_mul (K := K)) (pv 3) pe_int) (pe_op (u_mul (K := K)) pe_int (pe_ix (u_ix (K := K)) (pv 0) pe_int (fun _ _ => rfl)))) pe_int) pa_nil)) pe_int) pe_int) pa_nil)) (pv 1)))))))), ?_⟩)
  · obtain ⟨a, many, n, rfl, _⟩ := h
    rfl
  · obtain ⟨a, many, n, rfl, ⟨d, m, c, b, hb, hd, hm, hm2, hc, hc2⟩, h1, h2, hn, q⟩ := h
    have S : SqL K H a [.int d, .bl b, .int m, .int c] := SqL.of hb
    -- the digits' way
    have A1 : b = true → 0 < d → Q (.int (d % many)) (upd H a (.lst [.int (d / many), .bl b, .int m, .int c])) := by
      intro _ _
      refine q _ _ (Int.emod_nonneg _ (by omega)) (Int.emod_lt_of_pos _ h1) Exb.upd ⟨d / many, m, c, b, upd_same, Int.ediv_nonneg hd (by omega), hm, hm2, hc, by omega⟩
    -- the mixed way
    have A2 : ∀ z : Int, Q (.int (z % many)) (upd H a (.lst [.int d, .bl b, .int m, .int (c + 1)])) := by
      intro z
      exact q _ _ (Int.emod_nonneg _ (by omega)) (Int.emod_lt_of_pos _ h1) Exb.upd ⟨d, m, c + 1, b, upd_same, hd, hm, hm2, by omega, by omega⟩
    have S1 : SqL K (upd H a (.lst [.int d, .bl b, .int m, .int (c + 1)])) a [.int d, .bl b, .int m, .int (c + 1)] := SqL.of upd_same
    have k1 : CMulX 122949829 (c + 1) := mulx_ok (a := 30) (b := 30) (by decide) (by show _ < 1073741824; omega) (by decide)
    have k2 : ∀ x : Int, 0 ≤ x → x < 2147483647 → CMulX x 48271 := fun x _ _ => mulx_ok (a := 32) (b := 20) (by show _ < 4294967296; omega) (by decide) (by decide)
    have k3 : CMulX 7919 (c + 1) := mulx_ok (a := 30) (b := 30) (by decide) (by show _ < 1073741824; omega) (by decide)
    have p1 : CPow (m + 122949829 * (c + 1) + 141650939) 5 := ⟨by decide, by decide, by show _ < 18446744073709551616; omega⟩
    have p2 : ∀ x : Int, 0 ≤ x → x < 2147483647 → CPow (x * 48271 + 7919 * (c + 1)) 3 := fun x _ _ => ⟨by decide, by decide, by show _ < 18446744073709551616; omega⟩
    have nz1 : (0 : Int) < 2147483647 := by decide
    have nz2 : (0 : Int) < 2147483587 := by decide
    have cd64 : CDivW 1 64 := ⟨by decide, by decide⟩
    have cdm : CDivW 1 many := wide_div (b := 62) h1 (by show _ < 4611686018427387904; omega) (by decide) (by decide)
    have hx0 : ∀ z : Int, 0 ≤ z % 2147483647 ∧ z % 2147483647 < 2147483647 := by
      intro z
      exact ⟨Int.emod_nonneg _ (by decide), Int.emod_lt_of_pos _ (by decide)⟩
    refine ⟨_, rfl, .inl ⟨a, _, 1, _, rfl, rfl, S, rfl, b, rfl, ?_⟩⟩
    by_cases hbd : b = true ∧ 0 < d
    · obtain ⟨rfl, hd0⟩ := hbd
      refine iteT ⟨_, rfl, .inl ⟨a, _, 0, _, rfl, rfl, S, rfl, _, _, rfl, rfl, _, rfl, ?_⟩⟩
      rw [decide_eq_true hd0]
      refine iteT ⟨_, rfl, .inl ⟨a, _, 0, _, rfl, rfl, S, rfl, .inl ⟨_, rfl, _, rfl, _, _, rfl, rfl, h1, ?_⟩⟩⟩
      refine ⟨_, rfl, .inl ⟨a, _, 0, _, rfl, rfl, S, rfl, _, rfl, _, _, rfl, rfl, cdm, _, rfl, a, _, _, _, rfl, rfl, hb, rfl, ?_⟩⟩
      exact ⟨_, rfl, A1 rfl hd0⟩
    · apply once
      · intro rest
        cases b with
        | false => exact iteF (iteF rest)
        | true =>
          refine iteT ⟨_, rfl, .inl ⟨a, _, 0, _, rfl, rfl, S, rfl, _, _, rfl, rfl, _, rfl, ?_⟩⟩
          rw [decide_eq_false (fun z => hbd ⟨rfl, z⟩)]
          exact iteF rest
      refine ⟨_, rfl, .inl ⟨a, _, 3, _, rfl, rfl, S, rfl, .inl ⟨_, _, rfl, rfl, _, rfl, a, _, _, _, rfl, rfl, hb, rfl, ?_⟩⟩⟩
      refine ⟨_, rfl, .inl ⟨a, _, 2, _, rfl, rfl, S1, rfl, ?_⟩⟩
      refine ⟨_, rfl, .inl ⟨a, _, 3, _, rfl, rfl, S1, rfl, .inl ⟨_, _, rfl, rfl, k1, .inl ⟨_, _, rfl, rfl, .inl ⟨_, _, rfl, rfl, _, _, rfl, rfl, p1, .inl ⟨_, rfl, _, _, rfl, rfl, nz1, ?_⟩⟩⟩⟩⟩⟩
      refine ⟨_, rfl, .inl ⟨_, _, rfl, rfl, k2 _ (hx0 _).1 (hx0 _).2, ?_⟩⟩
      refine ⟨_, rfl, .inl ⟨a, _, 3, _, rfl, rfl, S1, rfl, .inl ⟨_, _, rfl, rfl, k3, .inl ⟨_, _, rfl, rfl, _, _, rfl, rfl, p2 _ (hx0 _).1 (hx0 _).2, .inl ⟨_, rfl, _, _, rfl, rfl, nz2, ?_⟩⟩⟩⟩⟩
      refine ⟨_, _, rfl, rfl, cd64, .inl ⟨_, rfl, _, rfl, _, _, rfl, rfl, h1, ?_⟩⟩
      exact A2 _
/-! ### cells and boxes -/
def spBox : Sp := fun vs H Q _ => ∃ g : Int, vs = [.int g] ∧ ∀ (p : Addr) (H' : Hp), H p = none → Evl.Ex H H' → Box H' p 0 → Q (.ref p) H'
theorem ok_box (T : Txt K mg) (F : FnP K "_law_box" s__law_box f fd) : Fg P w K mg base CX0 1 f fd ["_law_great"] spBox := by
  refine fg_of F sc__law_box (fun vs H Q E h => ?_) (fun cdv A outer s H vs Q E hr h => ⟨_, (PSs.nox (pss_one (ps_ret (pe_lst (pa_cons (pe_callB call_abs (by rfl) T.f_abs (by decide +kernel) (pa_cons (pv 0) pa_nil)) (pa_cons (pe_cmpR op_ge (pe_callB call_abs (by rfl) T.f_abs (by decide +kernel) (pa_cons (pv 0) pa_nil)) (pe_op op_pow pe_int pe_int) (nomark _)) (pa_cons (pe_op u_mod (pe_callTy call_int1 (by rfl) T.f_int (by decide +kernel) (pa_cons (pe_callB call_abs (by rfl) T.f_abs (by decide +kernel) (pa_cons (pv 0) pa_nil)) pa_nil)) pe_int) (pa_cons pe_int pa_nil)))))))), ?_⟩)
  · obtain ⟨g, rfl, _⟩ := h
    rfl
  · obtain ⟨g, rfl, q⟩ := h
    have nz : (0 : Int) < 2147483629 := by decide
    have hp : CPow 10 18 := ⟨by decide, by decide, by decide⟩
    refine ⟨_, rfl, _, rfl, _, rfl, _, rfl, _, _, rfl, rfl, hp, _, _, rfl, rfl, _, rfl, _, rfl, .inl ⟨_, rfl, _, _, rfl, rfl, nz, ?_⟩⟩
    refine ⟨by show 4 ≤ sizeLine; decide, fun p hp => q p _ hp (Evl.Ex.new hp) ⟨_, _, _, _, upd_same, ?_, ?_, ?_, by omega, by omega⟩⟩
    · split <;> omega
    · exact Int.emod_nonneg _ (by decide)
    · exact Int.emod_lt_of_pos _ (by decide)
def spCell (K : PySem.W.Frag) : Sp := fun vs H Q _ => ∃ (a : Addr) (ns : List Int) (k : Int), vs = [.ref a, .int k] ∧ SqL K H a (ns.map V.int) ∧ 0 ≤ k ∧ k ≤ 100 ∧ ns.length ≤ 1000 ∧
  ∀ (g : Int) (H' : Hp), Evl.Ex H H' → Q (.int g) H'
theorem ok_cell (T : Txt K mg) (F : FnP K "_law_cell" s__law_cell f fd) : Fg P w K mg base CX0 1 f fd ["_law_script", "_law_k"] (spCell K) := by
  refine fg_of F sc__law_cell (fun vs H Q E h => ?_) (fun cdv A outer s H vs Q E hr h => ⟨_, (PSs.nox (pss_one (ps_ret (pe_ifExp (pt_cmpR op_lt (pv 1) (pe_callB (u_len (K := K)) (by rfl) T.f_len (by decide +kernel) (pa_cons (pv 0) pa_nil)) (nomark _)) (pe_ix (u_ix (K := K)) (pv 0) (pv 1) (fun _ _ => rfl)) (pe_op (u_add (K := K)) (pe_op (u_add (K := K)) (pe_op (u_mul (K := K)) pe_int (pv 1)) pe_int) (pe_op u_mod (pe_callTy call_int1 (by rfl) T.f_int (by decide +kernel) (pa_cons (pe_callB (u_sum (K := K) rfl) (by rfl) T.f_sum (by decide +kernel) (pa_cons (pe_slice (u_sl (K := K)) (pv 0) po_none (po_some pe_int)) pa_nil)) pa_nil)) pe_int)))))), ?_⟩)
  · obtain ⟨a, ns, k, rfl, _⟩ := h
    rfl
  · obtain ⟨a, ns, k, rfl, S, k0, k1, hl, q⟩ := h
    have nz : (0 : Int) < 1000003 := by decide
    refine ⟨_, rfl, _, rfl, _, _, rfl, .inl ⟨_, S, rfl⟩, _, _, rfl, rfl, _, rfl, ?_⟩
    rw [List.length_map]
    refine ite2 (fun h => ?_) (fun h => ?_)
    · have h' : k < (ns.length : Int) := by simpa using h
      obtain ⟨j, rfl⟩ : ∃ j : Nat, k = j := ⟨k.toNat, by omega⟩
      have hj : j < ns.length := by omega
      refine ⟨_, rfl, _, rfl, .inl ⟨a, _, _, .int ns[j], rfl, rfl, S, ?_, q _ _ (Evl.Ex.refl _)⟩⟩
      rw [atI_nat]
      simp [hj]
    · have km : CMulX 7919 k := mulx_ok (a := 30) (b := 30) (by decide) (by show _ < 1073741824; omega) (by decide)
      have cut : ∃ ms : List Int, cutV (ns.map V.int) none (some 1) = ms.map V.int := ⟨(ns.drop _).take _, by unfold cutV; rw [← List.map_drop, ← List.map_take]⟩
      obtain ⟨ms, hms⟩ := cut
      refine ⟨_, rfl, .inl ⟨_, _, rfl, rfl, km, .inl ⟨_, _, rfl, rfl, _, rfl, _, rfl, .inl ⟨a, _, rfl, S, fun p hp => ⟨p, ms, rfl, ?_, .inl ⟨_, rfl, _, _, rfl, rfl, nz, .inl ⟨_, _, rfl, rfl, q _ _ (Evl.Ex.new hp)⟩⟩⟩⟩⟩⟩⟩
      rw [hms]
      exact SqL.of upd_same

end
end K6
namespace K6
open PySem PySem.Spec PyProof.Rows L2 VB BM
theorem zc_snoc_take (o u : Int) (j : Nat) (h : ws8[j]? = some u) : zc ((ws8.map fun u => o / u % 2).take (j + 1)) = zc ((ws8.map fun u => o / u % 2).take j) + (1 - o / u % 2) := by
  have e : ((ws8.map fun u => o / u % 2).take (j + 1)) = ((ws8.map fun u => o / u % 2).take j) ++ [o / u % 2] := by
    refine take_snoc ?_
    rw [List.getElem?_map, h]
    rfl
  rw [e]
  unfold zc
  rw [List.count_append]
  rcases Int.emod_two_eq (o / u) with z | z <;> rw [z] <;> simp
theorem zc_app (a b : List Int) : zc (a ++ b) = zc a + zc b := by
  unfold zc
  rw [List.count_append]
  omega
/-- a list as new, of octets -/
abbrev NewL (a : Addr) (n : Int) (H : Hp) (Q : VK) (ok : List Int → Prop) : Prop := ∀ (p : Addr) (H' : Hp) (xs : List Int), Oct xs → ok xs → p ≠ a → H p = none → Exb a H H' → Box H' a n → H' p = some (.lst (IV xs)) → Q (.ref p) H'
theorem oct_set {os : List Int} {i : Nat} {v : Int} (h : Oct os) (h0 : 0 ≤ v ∧ v ≤ 255) : Oct (os.set i v) := by
  intro z hz
  rcases List.mem_or_eq_of_mem_set hz with z1 | z1
  · exact h z z1
  · omega
theorem oct_app {a b : List Int} (h1 : Oct a) (h2 : Oct b) : Oct (a ++ b) := by
  intro o ho
  rcases List.mem_append.mp ho with z | z
  · exact h1 o z
  · exact h2 o z
theorem oct_rep {c : Nat} {o : Int} (h : 0 ≤ o ∧ o ≤ 255) : Oct (List.replicate c o) := fun z hz => by
  rw [List.eq_of_mem_replicate hz]
  exact h
theorem bit_up : ∀ o : Nat, o < 256 → ∀ j : Nat, j < 8 → (o / (128 / 2 ^ j) % 2 = 0 → o + 128 / 2 ^ j < 256) ∧ (o / (128 / 2 ^ j) % 2 = 1 → 128 / 2 ^ j ≤ o) := by decide +kernel
theorem ws8_at (j : Nat) (h : j < 8) : ws8[j]? = some ((128 / 2 ^ j : Nat) : Int) := by
  rcases j with _ | _ | _ | _ | _ | _ | _ | _ | j
  all_goals first | rfl | omega
section
variable {P : Program} {w : World} {K : PySem.W.Frag} {mg : Str → Option Value} {base : Heap} {f : Addr} {fd : FuncData}
/-- one value many times -/
theorem rep_l {H : Hp} {t : Addr} {k : Int} {o : Int} {Q : VK} (S : H t = some (.lst [V.int o])) (h1 : 0 ≤ k) (h2 : k ≤ 1000) (q : ∀ p, H p = none → Q (.ref p) (upd H p (.lst (IV (List.replicate k.toNat o))))) : rMulU K (.ref t) (.int k) H Q := by
  refine .inr (.inl ⟨t, k, _, rfl, rfl, S, by omega, by omega, ?_, fun p hp => ?_⟩)
  · exact Evl.sz_of (by simp; omega)
  · rw [rep_flat]
    exact q p hp
/-- two lists, one behind the other -/
theorem cat_l {H : Hp} {p r : Addr} {xs ys : List Int} {Q : VK} (h1 : H p = some (.lst (IV xs))) (h2 : H r = some (.lst (IV ys))) (hl : xs.length + ys.length ≤ 10000) (q : ∀ t, H t = none → Q (.ref t) (upd H t (.lst (IV (xs ++ ys))))) : rAddU K (.ref p) (.ref r) H Q := by
  refine .inr (.inl ⟨p, r, _, _, rfl, rfl, h1, h2, ?_, fun t ht => ?_⟩)
  · rw [iv_len, iv_len]
    exact Evl.sz_of (by omega)
  · have e : IV xs ++ IV ys = IV (xs ++ ys) := (List.map_append ..).symm
    rw [e]
    exact q t ht
def spLZ (K : PySem.W.Frag) : Sp := fun vs H Q _ => ∃ (a : Addr) (os : List Int) (t : Bool), vs = [.ref a] ∧ Sv t K H a (IV os) ∧ os.length ≤ 100 ∧ RV (.int (zc (bitsL os))) H Q
/-! ### drawn octets -/
def spLD : Sp := fun vs H Q _ => ∃ (a : Addr) (c : Nat) (n : Int), vs = [.ref a, .int (c : Int)] ∧ Box H a n ∧ c ≤ 31 ∧ n < 90000000 ∧ NewL a (n + 31) H Q (fun xs => xs.length = c)
end
end K6
namespace K6
open PySem PySem.Spec PyProof.Rows L2 VB BM
theorem Box.mut {H : Hp} {a D : Addr} {n : Int} {o : HO} (B : Box H a n) (h : D ≠ a) : Box (upd H D o) a n := by
  obtain ⟨d, m, c, k, hb, r⟩ := B
  exact ⟨d, m, c, k, by rw [upd_ne (Ne.symm h)]; exact hb, r⟩
theorem Exb.mut {H0 H : Hp} {a D : Addr} {o : HO} (e : Exb a H0 H) (h : H0 D = none) : Exb a H0 (upd H D o) := by
  intro b u nb z
  have hb : b ≠ D := by
    rintro rfl
    rw [h] at z
    cases z
  rw [upd_ne hb]
  exact e b u nb z
theorem Exb.fresh {H H' : Hp} {a p : Addr} (e : Exb a H H') (h : H' p = none) (n : p ≠ a) : H p = none := by
  cases z : H p with
  | none => rfl
  | some o =>
    have := e p o n z
    rw [h] at this
    cases this
theorem Exb.refl (a : Addr) (H : Hp) : Exb a H H := fun _ _ _ e => e
theorem pick {xs : List Int} (h : Oct xs) {r : Int} (r0 : 0 ≤ r) (r1 : r < (xs.length : Int)) : ∃ v, 0 ≤ v ∧ v ≤ 255 ∧ atI (IV xs) r = some (.int v) := by
  obtain ⟨j, rfl⟩ : ∃ j : Nat, r = j := ⟨r.toNat, by omega⟩
  obtain ⟨v, hv⟩ := get_lt (l := xs) (i := j) (by omega)
  have := h v (List.mem_of_getElem? hv)
  exact ⟨v, this.1, this.2, iv_at hv⟩
theorem octs {xs : List Int} (h : (xs.all fun o => decide (0 ≤ o ∧ o ≤ 255)) = true) : Oct xs := fun o ho => by
  have := List.all_eq_true.mp h o ho
  simpa using this
section
variable {P : Program} {w : World} {K : PySem.W.Frag} {mg : Str → Option Value} {base : Heap} {f : Addr} {fd : FuncData}
def spDa : Sp := fun vs H Q _ => ∃ (a : Addr) (n : Int), vs = [.ref a] ∧ Box H a n ∧ n < 80000000 ∧ NewL a (n + 60) H Q (fun xs => xs.length = 30)
/-! ### a page that fits -/
/-! ### many bits turned -/
end
end K6
namespace K6
open PySem PySem.Spec PyProof.Rows L2 VB BM
def oneB (n : Nat) (u : Int) : List Int := List.replicate n 0 ++ [u] ++ List.replicate (30 - n) 0
theorem oneB_len {n : Nat} {u : Int} (h : n ≤ 30) : (oneB n u).length = 31 := by
  unfold oneB
  simp
  omega
section
variable {P : Program} {w : World} {K : PySem.W.Frag} {mg : Str → Option Value} {base : Heap} {f : Addr} {fd : FuncData}
def mvO (o m aim : Int) : Int := if aim = 1 then Builtin.bitOr o m else Builtin.bitAnd o (255 - m)
def mvL (os ms : List Int) (aim : Int) : List Int := both (fun o m => mvO o m aim) os ms
def spPg (K : PySem.W.Frag) : Sp := fun vs H Q _ => ∃ (a : Addr) (os : List Int) (t : Bool), vs = [.ref a] ∧ Sv t K H a (IV os) ∧ os.length ≤ 40 ∧ RL (IV (os ++ [zc (bitsL os)])) H Q
end
end K6
namespace K6
open PySem PySem.Spec PyProof.Rows L2 VB BM
theorem zc_bound (bs : List Int) : 0 ≤ zc bs ∧ zc bs ≤ (bs.length : Int) := by
  have h : bs.count 0 ≤ bs.length := List.count_le_length
  unfold zc
  omega
theorem oct_oneB {n : Nat} {u : Int} (h : 0 ≤ u ∧ u ≤ 255) : Oct (oneB n u) :=
  oct_app (oct_app (oct_rep (by omega)) (fun z hz => by
    have : z = u := by simpa using hz
    omega)) (oct_rep (by omega))
theorem and_oct {x y : Int} (hx : 0 ≤ x ∧ x ≤ 255) (hy : 0 ≤ y ∧ y ≤ 255) : 0 ≤ Builtin.bitAnd x y ∧ Builtin.bitAnd x y ≤ 255 := by
  obtain ⟨a, rfl⟩ := nat_of hx.1
  obtain ⟨b, rfl⟩ := nat_of hy.1
  rw [VB.bitAnd_nn]
  have := Nat.and_le_left (n := a) (m := b)
  omega
theorem or_nn (a b : Nat) : Builtin.bitOr (a : Int) (b : Int) = ((a ||| b : Nat) : Int) := by
  rw [Bits.bitOr_pp (by omega) (by omega)]
  rfl
theorem or_oct {x y : Int} (hx : 0 ≤ x ∧ x ≤ 255) (hy : 0 ≤ y ∧ y ≤ 255) : 0 ≤ Builtin.bitOr x y ∧ Builtin.bitOr x y ≤ 255 := by
  obtain ⟨a, rfl⟩ := nat_of hx.1
  obtain ⟨b, rfl⟩ := nat_of hy.1
  rw [or_nn]
  have := Nat.or_lt_two_pow (n := 8) (x := a) (y := b) (by omega) (by omega)
  omega
theorem xor_oct {x y : Int} (hx : 0 ≤ x ∧ x ≤ 255) (hy : 0 ≤ y ∧ y ≤ 255) : 0 ≤ Builtin.bitXor x y ∧ Builtin.bitXor x y ≤ 255 := by
  obtain ⟨a, rfl⟩ := nat_of hx.1
  obtain ⟨b, rfl⟩ := nat_of hy.1
  rw [VB.bitXor_nn]
  have := Nat.xor_lt_two_pow (n := 8) (x := a) (y := b) (by omega) (by omega)
  omega
theorem oct_three {x y : Int} (hx : 0 ≤ x ∧ x ≤ 255) (hy : 0 ≤ y ∧ y ≤ 255) : Oct [x, Builtin.bitAnd x y, Builtin.bitOr x y] := by
  have h1 := and_oct hx hy
  have h2 := or_oct hx hy
  intro o ho
  simp only [List.mem_cons, List.not_mem_nil, or_false] at ho
  rcases ho with rfl | rfl | rfl
  · exact hx
  · exact h1
  · exact h2
theorem mvO_oct {aim x y : Int} (hx : 0 ≤ x ∧ x ≤ 255) (hy : 0 ≤ y ∧ y ≤ 255) : 0 ≤ mvO x y aim ∧ mvO x y aim ≤ 255 := by
  unfold mvO
  split
  · exact or_oct hx hy
  · exact and_oct hx (by omega)
theorem mvL_oct {aim : Int} {os ms : List Int} (ox : Oct os) (om : Oct ms) : Oct (mvL os ms aim) := both_oct ox om fun _ _ => mvO_oct
section
variable {P : Program} {w : World} {K : PySem.W.Frag} {mg : Str → Option Value} {base : Heap} {f : Addr} {fd : FuncData}
/-- whether ys is a rest of the page of os -/
def rest (os ys : List Int) : Bool := (List.range 31).all fun j => decide (Builtin.bitAnd ((os ++ [zc (bitsL os)]).getD j 0) (ys.getD j 0) = (os ++ [zc (bitsL os)]).getD j 0)
theorem rest_iff {os ys : List Int} : rest os ys = true ↔ ∀ j, j < 31 → Builtin.bitAnd ((os ++ [zc (bitsL os)]).getD j 0) (ys.getD j 0) = (os ++ [zc (bitsL os)]).getD j 0 := by
  unfold rest
  rw [List.all_eq_true]
  constructor
  · intro h j hj
    simpa using h j (List.mem_range.mpr hj)
  · intro h j hj
    simpa using h j (List.mem_range.mp hj)
theorem getD_get {xs : List Int} {i : Nat} (h : i < xs.length) : xs[i]? = some (xs.getD i 0) := by
  rw [List.getD_eq_getElem?_getD]
  simp [h]
theorem nonempty (os : List Int) (oo : Oct os) (lo : os.length = 30) : ∃ j, j < 31 ∧ 0 < (os ++ [zc (bitsL os)]).getD j 0 := by
  have n0 : (os ++ [zc (bitsL os)]).getD 30 0 = zc (bitsL os) := by
    rw [List.getD_eq_getElem?_getD, List.getElem?_append_right (by omega), lo]
    rfl
  cases os with
  | nil => cases lo
  | cons o os =>
    have ho := oo o (List.mem_cons_self ..)
    by_cases z : 0 < o
    · exact ⟨0, by omega, z⟩
    · have : o = 0 := by omega
      subst this
      refine ⟨30, by omega, ?_⟩
      rw [n0, bitsL_cons, zc_app]
      have h1 : zc (bitsOf 0) = 8 := by decide
      have h2 := (zc_bound (bitsL os)).1
      omega
theorem bit_in : ∀ o : Nat, o < 256 → 0 < o → ∃ j, j < 8 ∧ 0 < (o &&& (128 / 2 ^ j)) := by decide +kernel
end
end K6
namespace K6
open PySem PySem.Spec PyProof.Rows L2 VB BM
/-- each bit of xs is one of ys -/
def Inn (xs ys : List Int) : Prop := ∀ j, j < xs.length → Builtin.bitAnd (xs.getD j 0) (ys.getD j 0) = xs.getD j 0
theorem oct_whole {os : List Int} (oo : Oct os) (lo : os.length = 30) : Oct (os ++ [zc (bitsL os)]) ∧ (os ++ [zc (bitsL os)]).length = 31 := by
  have zb := zc_bound (bitsL os)
  rw [bitsL_len, lo] at zb
  exact ⟨oct_snoc oo zb.1 (by omega), by simp [lo]⟩
end K6
/-! min of one list or tuple of ints -/
namespace VB
open PySem PySem.Spec PyProof.Rows L2 PySem.W
theorem ints_reads (h : Heap) : ∀ {os : List Int} {its : List Value}, Vals (os.map V.int) its → ∃ as, ReadsAll h its (os.map PyData.int) as
  | [], _, r => by
    cases r
    exact ⟨[], .nil⟩
  | o :: os, _, r => by
    cases r with
    | cons r1 r2 =>
      obtain ⟨t, rfl⟩ := r1
      obtain ⟨as, ha⟩ := ints_reads h r2
      exact ⟨_, .cons (.int o t) ha⟩
theorem ints_alike (os : List Int) : AlikeAll (os.map PyData.int) := by
  refine ⟨fun x hx y hy => ?_, fun x hx => ?_⟩
  · obtain ⟨a, _, rfl⟩ := List.mem_map.mp hx
    obtain ⟨b, _, rfl⟩ := List.mem_map.mp hy
    rfl
  · obtain ⟨a, _, rfl⟩ := List.mem_map.mp hx
    exact fun z => nomatch z
theorem ints_depth : ∀ os : List Int, PyData.depthAll (os.map PyData.int) = 0
  | [] => rfl
  | o :: os => by
    show Nat.max 0 (PyData.depthAll (os.map PyData.int)) = 0
    rw [ints_depth os]
    rfl
theorem foldl_min_mem : ∀ (os : List Int) (n : Int), os.foldl min n ∈ n :: os
  | [], n => List.mem_cons_self ..
  | o :: os, n => by
    have h := foldl_min_mem os (min n o)
    rw [List.foldl_cons]
    rcases List.mem_cons.mp h with z | z
    · rw [z]
      by_cases c : n ≤ o
      · rw [Int.min_eq_left c]
        exact List.mem_cons_self ..
      · rw [Int.min_eq_right (by omega)]
        exact List.mem_cons_of_mem _ (List.mem_cons_self ..)
    · exact List.mem_cons_of_mem _ (List.mem_cons_of_mem _ z)
theorem foldl_min_le : ∀ (os : List Int) (n : Int), (os.foldl min n ≤ n) ∧ ∀ y ∈ os, os.foldl min n ≤ y
  | [], n => ⟨Int.le_refl _, fun y hy => nomatch hy⟩
  | o :: os, n => by
    obtain ⟨h1, h2⟩ := foldl_min_le os (min n o)
    rw [List.foldl_cons]
    refine ⟨by omega, fun y hy => ?_⟩
    rcases List.mem_cons.mp hy with z | z
    · omega
    · exact h2 y z
def rMin1 (K : PySem.W.Frag) : List V → Hp → VK → Prop := fun vs H Q => ∃ (a : Addr) (os : List Int) (t : Bool), vs = [.ref a] ∧ Sv t K H a (IV os) ∧ 0 < os.length ∧ ∀ m, m ∈ os → (∀ y, y ∈ os → m ≤ y) → Q (.int m) H
section
variable {X : Cx} {K : PySem.W.Frag}
theorem u_min1 {k : Nat} (hr : Rm k X.A) (hc : X.calm = true) (hK : X.K = K := by rfl) : CallR X (.builtin "min") (rMin1 K) := by
  subst hK
  intro pins s σ H vs us Q I r h
  obtain ⟨a, os, t, rfl, hs, hne, q⟩ := h
  cases t with
  | false => exact cr_min hc pins s σ H [.ref a] us Q I r ⟨a, os, rfl, hs, hne, q⟩
  | true =>
    obtain ⟨its, rv, ⟨⟨cls, dd, data, sl⟩, ho, hcl, n, hd⟩, hsz⟩ := I.tuple hs
    simp only at hcl hd
    subst hcl hd
    rw [Vals.ref1 r]
    obtain ⟨as, ra⟩ := ints_reads s.heap (show Vals (os.map V.int) its from rv)
    cases os with
    | nil => exact absurd hne (Nat.lt_irrefl 0)
    | cons o os =>
      have u2 := hr.rm.units
      have un : X.A.units + 1 + PyData.depthAll (PyData.int o :: os.map PyData.int) < cLine := by
        have e : PyData.depthAll (PyData.int o :: os.map PyData.int) = 0 := ints_depth (o :: os)
        rw [e]
        omega
      have ra' : ReadsAll s.heap its.toArray.toList (PyData.int o :: os.map PyData.int) as := by simpa using ra
      refine min_tuple_data (I.ok.hd hc) (vs := its.toArray) ⟨_, ho, rfl, n, rfl⟩ ra' (ints_alike (o :: os)) un fun i v h' tk bs hv rd hk => ?_
      rw [minD_ints] at rd
      cases rd with
      | int _ t =>
        obtain ⟨h1, h2⟩ := foldl_min_le os o
        exact ⟨.int _, H, I.kept hk, ⟨_, rfl⟩, q _ (foldl_min_mem os o) fun y hy => by
          rcases List.mem_cons.mp hy with z | z
          · rw [z]
            exact h1
          · exact h2 y z⟩
end
end VB
namespace K6
open PySem PySem.Spec PyProof.Rows L2 VB BM
section
variable {P : Program} {w : World} {K : PySem.W.Frag} {mg : Str → Option Value} {base : Heap} {f : Addr} {fd : FuncData}
def spIsList (K : PySem.W.Frag) : Sp := fun vs H Q _ => ∃ (a : Addr) (xs : List V) (t : Bool), vs = [.ref a] ∧ Sv t K H a xs ∧ RV (.bl true) H Q
theorem ok_is_list (T : Txt K mg) (F : FnP K "is_list" s_is_list f fd) : Fg P w K mg base CX0 1 f fd ["value"] (spIsList K) := by
  refine fg_of F sc_is_list (fun vs H Q E h => ?_) (fun cdv A outer s H vs Q E hr h => ⟨_, (PSs.nox (pss_one (ps_ret (pe_callB (u_isiT (K := K)) (by rfl) T.f_isinstance (by decide +kernel) (pa_cons (pv 0) (pa_cons (pe_tup (pa_cons (pe_bltn (v := .ty "list") rfl T.f_list (by decide +kernel) rfl) (pa_cons (pe_bltn (v := .ty "tuple") rfl T.f_tuple (by decide +kernel) rfl) pa_nil))) pa_nil)))))), ?_⟩)
  · obtain ⟨a, xs, t, rfl, _⟩ := h
    rfl
  · obtain ⟨a, xs, t, rfl, S, q⟩ := h
    refine ⟨_, rfl, by show 2 ≤ sizeLine; decide, fun tp ht => ?_⟩
    have e0 := Evl.Ex.new (o := .tup [.ty "list", .ty "tuple"]) ht
    exact ⟨_, tp, _, _, [.type "list", .type "tuple"], true, rfl, upd_same, .cons (.ty _) (.cons (.ty _) .nil), (S.ex e0).ty, kit_seq K t, q _ e0⟩
def spIsOct (K : PySem.W.Frag) : Sp := fun vs H Q _ => ∃ (a : Addr) (os : List Int) (t : Bool), vs = [.ref a] ∧ Sv t K H a (IV os) ∧ Oct os ∧ os.length ≤ 20000 ∧ RV (.bl true) H Q
theorem ok_is_octets (T : Txt K mg) (F : FnP K "is_octets" s_is_octets f fd) (C_is_list : Cal P w K mg base CX0 1 "is_list" ["value"] (spIsList K)) : Fg P w K mg base CX0 2 f fd ["value"] (spIsOct K) := by
  refine fg_of F sc_is_octets (fun vs H Q E h => ?_) (fun cdv A outer s H vs Q E hr h => ⟨_, (PSs.nox (pss_one (ps_ret (pe_and (pe_cal C_is_list hr.le pass0 (pa_cons (pv 0) pa_nil)) (pe_one (pe_callB (u_all (K := K) rfl) (by rfl) T.f_all (by decide +kernel) (pa_cons (pe_lc (own := [("octet", 1)]) rfl sc_is_octets.nd (pi_seq (K := K) (pv 0)) (blkOk_by (own := [("octet", 1)]) (N := ["value", "octet"]) (sc := defScope s_is_octets) (by decide +kernel)) (fun _ _ _ _ _ => (pg_name (i := 1) sc_is_octets.nd rfl (by first | exact Or.inl rfl | exact Or.inr rfl))) (fun _ _ _ _ _ => pts_nil) (fun _ _ _ _ _ => (pe_and (pe_callB (u_isi (K := K)) (by rfl) T.f_isinstance (by decide +kernel) (pa_cons (pv 1) (pa_cons (pe_bltn (v := .ty "int") rfl T.f_int (by decide +kernel) rfl) pa_nil))) (pe_and (pe_not (pe_callB (u_isi (K := K)) (by rfl) T.f_isinstance (by decide +kernel) (pa_cons (pv 1) (pa_cons (pe_bltn (v := .ty "bool") rfl T.f_bool (by decide +kernel) rfl) pa_nil)))) (pe_one (pe_chain op_le op_le pe_int (pv 1) pe_int)))))) pa_nil))))))), ?_⟩)
  · obtain ⟨a, os, t, rfl, _⟩ := h
    rfl
  · obtain ⟨a, os, t, rfl, S, ho, hl, q⟩ := h
    refine ⟨_, rfl, a, _, t, rfl, S, fun H0 e0 => ⟨true, rfl, iteT ?_⟩⟩
    refine seq_var (t := t) rfl (S.ex e0) fun J wk D hD => ?_
    rw [iv_len] at wk
    refine lc_pureVS (us := List.replicate os.length (V.bl true)) wk (fun H' ex => (S.ex e0).ex ex) (by simp) (by omega) hD (fun _ => rfl) ?_ ?_
    · intro i x u H' Q' hx hu ex k
      obtain ⟨o, hoi, rfl⟩ := iv_get hx
      have hm := ho o (List.mem_of_getElem? hoi)
      rw [List.eq_of_mem_replicate (List.mem_of_getElem? hu)] at k
      refine ⟨_, rfl, _, _, _, _, true, rfl, .ty _, .base (.int o), kit_ty (by decide +kernel), true, rfl, iteT ?_⟩
      refine ⟨_, rfl, _, _, _, _, false, rfl, .ty _, .base (.int o), kit_ty (by decide +kernel), false, rfl, true, rfl, iteT ?_⟩
      refine ⟨_, rfl, _, _, rfl, rfl, _, rfl, ?_⟩
      rw [decide_eq_true hm.1]
      refine iteT ⟨_, _, rfl, rfl, ?_⟩
      dsimp only
      rw [decide_eq_true hm.2]
      exact k H' (Evl.Ex.refl _)
    · intro H' ex h3
      refine ⟨D, List.replicate os.length true, rfl, SqL.of (by rw [h3, List.map_replicate]), ?_⟩
      have e : (List.replicate os.length true).all id = true := by
        rw [List.all_eq_true]
        intro b hb
        exact List.eq_of_mem_replicate hb
      rw [e]
      exact q _ (e0.trans ex)
end
end K6
namespace K6
open PySem PySem.Spec PyProof.Rows L2 VB BM
section
variable {P : Program} {w : World} {K : PySem.W.Frag} {mg : Str → Option Value} {base : Heap} {f : Addr} {fd : FuncData}
def spOctOf (K : PySem.W.Frag) : Sp := fun vs H Q _ => ∃ (a : Addr) (os : List Int) (t : Bool) (n : Int), vs = [.ref a, .int n] ∧ Sv t K H a (IV os) ∧ Oct os ∧ os.length ≤ 20000 ∧ (os.length : Int) = n ∧ RV (.bl true) H Q
theorem ok_octets_of (T : Txt K mg) (F : FnP K "is_octets_of" s_is_octets_of f fd) (C_is_list : Cal P w K mg base CX0 1 "is_list" ["value"] (spIsList K)) (C_is_octets : Cal P w K mg base CX0 2 "is_octets" ["value"] (spIsOct K)) : Fg P w K mg base CX0 3 f fd ["value", "count"] (spOctOf K) := by
  refine fg_of F sc_is_octets_of (fun vs H Q E h => ?_) (fun cdv A outer s H vs Q E hr h => ⟨_, (PSs.nox (pss_one (ps_ret (pe_and (pe_cal C_is_list hr.le pass0 (pa_cons (pv 0) pa_nil)) (pe_and (pe_cmpR (u_eq (K := K) hr) (pe_callB (u_len (K := K)) (by rfl) T.f_len (by decide +kernel) (pa_cons (pv 0) pa_nil)) (pv 1) (nomark _)) (pe_one (pe_cal C_is_octets hr.le pass0 (pa_cons (pv 0) pa_nil)))))))), ?_⟩)
  · obtain ⟨a, os, t, n, rfl, _⟩ := h
    rfl
  · obtain ⟨a, os, t, n, rfl, S, ho, hl, hn, q⟩ := h
    refine ⟨_, rfl, a, _, t, rfl, S, fun H1 e1 => ⟨true, rfl, iteT ?_⟩⟩
    refine ⟨_, rfl, _, _, rfl, (S.ex e1).len, _, rfl, .inl ⟨rfl, _, rfl, ?_⟩⟩
    have en : V.int ((IV os).length : Int) = V.int n := by rw [iv_len, hn]
    rw [en, decide_eq_true rfl]
    exact iteT ⟨_, rfl, a, os, t, rfl, S.ex e1, ho, hl, fun H2 e2 => q _ (e1.trans e2)⟩
end
end K6
namespace K6
open PySem PySem.Spec PyProof.Rows L2 VB BM
section
variable {P : Program} {w : World} {K : PySem.W.Frag} {mg : Str → Option Value} {base : Heap} {f : Addr} {fd : FuncData}
/-- a chip's fields -/
structure Cp where
  blocks : Int
  pages : Int
  bad : Int
  ops : Int
  cuts : Int
  o : Addr
  e : Addr
  t : Addr
  p : Addr
  q : Addr
  r : Addr
def Cp.fs (c : Cp) : List (Str × V) := [("blocks", .int c.blocks), ("pages", .int c.pages), ("bad", .int c.bad), ("ops", .int c.ops), ("cuts", .int c.cuts), ("_octets", .ref c.o), ("_erased", .ref c.e), ("_turned_bad", .ref c.t), ("_cut_plans", .ref c.p), ("_fail_plans", .ref c.q), ("_reads", .ref c.r)]
abbrev Ch (K : PySem.W.Frag) : Addr := He.ga K "Chip"
def InsAt (K : PySem.W.Frag) (H : Hp) (a : Addr) (c : Cp) : Prop := ∃ dx, H a = some (.ins (Ch K) dx c.fs)
structure TxC (K : PySem.W.Frag) : Prop where
  cls : Cls K (Ch K)
  no : ∀ x ∈ (["blocks", "pages", "bad", "ops", "cuts", "_octets", "_erased", "_turned_bad", "_cut_plans", "_fail_plans", "_reads"] : List Str), NoAttr K (Ch K) x
def spIntFrom : Sp := fun vs H Q _ => ∃ i l g : Int, vs = [.int i, .int l, .int g] ∧ l ≤ i ∧ i ≤ g ∧ Q (.bl true) H
def spChkB (K : PySem.W.Frag) : Sp := fun vs H Q _ => ∃ (a : Addr) (c : Cp) (b : Int), vs = [.ref a, .int b] ∧ InsAt K H a c ∧ 0 ≤ b ∧ b < c.blocks ∧ RV .non H Q
theorem ok_check_block (T : Txt K mg) (TC : TxC K) (F : FnM K "_check_block" "Chip._check_block" s_Chip___check_block f fd) (C_is_int_from : Cal P w K mg base CX0 2 "is_int_from" ["value", "least", "greatest"] spIntFrom) :
    Fg P w K mg base CX0 3 f fd ["self", "block"] (spChkB K) := by
  refine fg_of F sc_Chip___check_block (fun vs H Q E h => ?_) (fun cdv A outer s H vs Q E hr h => ⟨_, (PSs.nox (pss_one (ps_if (pt_not (pt_tru (K := K) (pe_cal C_is_int_from hr.le pass0 (pa_cons (pv 1) (pa_cons pe_int (pa_cons (pe_op op_sub (pe_fldU (K := K) (pv 0) rfl) pe_int) pa_nil)))) (by intro _; rfl)))
  (pss_one ps_never) pss_nil))), ?_⟩)
  · obtain ⟨a, c, b, rfl, _⟩ := h
    rfl
  · obtain ⟨a, c, b, rfl, ⟨dx, ha⟩, b0, b1, q⟩ := h
    exact ⟨_, rfl, _, rfl, a, _, dx, _, _, rfl, ha, TC.cls, TC.no _ (by simp), rfl, _, _, rfl, rfl, b, 0, c.blocks - 1, rfl, b0, by omega, true, rfl, iteF (q _ (Evl.Ex.refl _))⟩
def spChkP (K : PySem.W.Frag) : Sp := fun vs H Q _ => ∃ (a : Addr) (c : Cp) (b : Int), vs = [.ref a, .int b] ∧ InsAt K H a c ∧ 0 ≤ b ∧ b < c.pages ∧ RV .non H Q
theorem ok_check_page (T : Txt K mg) (TC : TxC K) (F : FnM K "_check_page" "Chip._check_page" s_Chip___check_page f fd) (C_is_int_from : Cal P w K mg base CX0 2 "is_int_from" ["value", "least", "greatest"] spIntFrom) :
    Fg P w K mg base CX0 3 f fd ["self", "page"] (spChkP K) := by
  refine fg_of F sc_Chip___check_page (fun vs H Q E h => ?_) (fun cdv A outer s H vs Q E hr h => ⟨_, (PSs.nox (pss_one (ps_if (pt_not (pt_tru (K := K) (pe_cal C_is_int_from hr.le pass0 (pa_cons (pv 1) (pa_cons pe_int (pa_cons (pe_op op_sub (pe_fldU (K := K) (pv 0) rfl) pe_int) pa_nil)))) (by intro _; rfl)))
  (pss_one ps_never) pss_nil))), ?_⟩)
  · obtain ⟨a, c, b, rfl, _⟩ := h
    rfl
  · obtain ⟨a, c, b, rfl, ⟨dx, ha⟩, b0, b1, q⟩ := h
    exact ⟨_, rfl, _, rfl, a, _, dx, _, _, rfl, ha, TC.cls, TC.no _ (by simp), rfl, _, _, rfl, rfl, b, 0, c.pages - 1, rfl, b0, by omega, true, rfl, iteF (q _ (Evl.Ex.refl _))⟩
theorem InsAt.ex {H H' : Hp} {a : Addr} {c : Cp} (h : InsAt K H a c) (e : Evl.Ex H H') : InsAt K H' a c := by
  obtain ⟨dx, h⟩ := h
  exact ⟨dx, e _ _ h⟩
/-- the number of a block's erases -/
def spErases (K : PySem.W.Frag) : Sp := fun vs H Q _ => ∃ (a : Addr) (c : Cp) (b : Nat) (er : List Int), vs = [.ref a, .int (b : Int)] ∧ InsAt K H a c ∧ (b : Int) < c.blocks ∧ H c.e = some (.lst (IV er)) ∧ b < er.length ∧ RV (.int (er.getD b 0)) H Q
end
end K6
namespace K6
open PySem PySem.Spec PyProof.Rows L2 VB BM
section
variable {P : Program} {w : World} {K : PySem.W.Frag} {mg : Str → Option Value} {base : Heap} {f : Addr} {fd : FuncData}
abbrev BV (bs : List Bool) : List V := bs.map V.bl
theorem bv_at {bs : List Bool} {i : Nat} (h : i < bs.length) : atI (BV bs) (i : Int) = some (.bl (bs.getD i false)) := by
  refine atI_nat ?_
  rw [List.getElem?_map, List.getD_eq_getElem?_getD]
  simp [h]
/-- the blocks' octets, each a tuple, at the refs -/
def Tups (K : PySem.W.Frag) (H : Hp) (rs : List Addr) (os : List (List Int)) : Prop := rs.length = os.length ∧ ∀ i, i < os.length → SqT K H (rs.getD i 0) (IV (os.getD i []))
def spIsBad (K : PySem.W.Frag) : Sp := fun vs H Q _ => ∃ (a : Addr) (c : Cp) (b : Nat) (tb : List Bool), vs = [.ref a, .int (b : Int)] ∧ InsAt K H a c ∧ (b : Int) < c.blocks ∧ H c.t = some (.lst (BV tb)) ∧ b < tb.length ∧ RV (.bl (tb.getD b false)) H Q
theorem tup_ix {H : Hp} {l : Addr} {rs : List Addr} {b : Nat} {Q : VK} (h : H l = some (.lst (rs.map V.ref))) (hb : b < rs.length) (q : Q (.ref (rs.getD b 0)) H) : rIx K (.ref l) (.int (b : Int)) H Q := by
  refine Sv.ix (x := .non) (Sv.lst h) (i := (b : Int)) ?_ q
  refine atI_nat ?_
  rw [List.getElem?_map, List.getD_eq_getElem?_getD]
  simp [hb]
def spRead (K : PySem.W.Frag) : Sp := fun vs H Q _ => ∃ (a : Addr) (c : Cp) (b p : Nat) (rs : List Addr) (os : List Int), vs = [.ref a, .int (b : Int), .int (p : Int)] ∧ InsAt K H a c ∧ (b : Int) < c.blocks ∧ (p : Int) < c.pages ∧ H c.o = some (.lst (rs.map V.ref)) ∧ b < rs.length ∧
  SqT K H (rs.getD b 0) (IV os) ∧ os.length = 31 * c.pages.toNat ∧ 8 ≤ c.pages ∧ c.pages ≤ 16 ∧ ∀ (r : Addr) (H' : Hp), H r = none → Evl.Ex H H' → H' r = some (.tup (IV ((os.drop (31 * p)).take 31))) → Q (.ref r) H'
theorem ok_read (T : Txt K mg) (TC : TxC K) (F : FnM K "read" "Chip.read" s_Chip__read f fd) (M_Chip___check_block : CalM P w K mg base CX0 3 (Ch K) "_check_block" ["self", "block"] (spChkB K))
    (M_Chip___check_page : CalM P w K mg base CX0 3 (Ch K) "_check_page" ["self", "page"] (spChkP K)) : Fg P w K mg base CX0 4 f fd ["self", "block", "page"] (spRead K) := by
  refine fg_of F sc_Chip__read (fun vs H Q E h => ?_) (fun cdv A outer s H vs Q E hr h => ⟨_, (PSs.nox (pss_cons (ps_expr (pe_calM M_Chip___check_block hr.le pass0 (pv 0) (pa_cons (pv 1) pa_nil)))
  (pss_cons (ps_expr (pe_calM M_Chip___check_page hr.le pass0 (pv 0) (pa_cons (pv 2) pa_nil)))
  (pss_one (ps_ret (pe_slice (u_sl (K := K)) (pe_ix (u_ix (K := K)) (pe_fldU (K := K) (pv 0) rfl) (pv 1) (fun _ _ => rfl)) (po_some (pe_op (u_mul (K := K)) (pv 2) (pe_globI rfl T.g_PAGE_OCTETS))) (po_some (pe_op (u_mul (K := K)) (pe_op (u_add (K := K)) (pv 2) pe_int) (pe_globI rfl T.g_PAGE_OCTETS))))))))), ?_⟩)
  · obtain ⟨a, c, b, p, rs, os, rfl, _⟩ := h
    rfl
  · obtain ⟨a, c, b, p, rs, os, rfl, ⟨dx, ha⟩, b1, p1, ho, hb, S, lo, g1, g2, q⟩ := h
    refine ⟨_, rfl, a, dx, _, rfl, ha, rfl, _, rfl, a, c, (b : Int), rfl, ⟨dx, ha⟩, by omega, b1, fun H1 e1 => ?_⟩
    refine ⟨_, rfl, a, dx, _, rfl, e1 _ _ ha, rfl, _, rfl, a, c, (p : Int), rfl, ⟨dx, e1 _ _ ha⟩, by omega, p1, fun H2 e2 => ?_⟩
    have E2 := e1.trans e2
    refine ⟨_, rfl, a, _, dx, _, _, rfl, E2 _ _ ha, TC.cls, TC.no _ (by simp), rfl, _, rfl, tup_ix (E2 _ _ ho) hb ?_⟩
    have p16 : p < 16 := by omega
    have mx : ∀ z : Int, 0 ≤ z → z ≤ 16 → CMulX z 31 := fun z _ _ => mulx_ok (a := 30) (b := 30) (by show _ < 1073741824; omega) (by decide) (by decide)
    refine ⟨_, rfl, .inl ⟨_, _, rfl, rfl, mx _ (by omega) (by omega), _, rfl, _, rfl, .inl ⟨_, _, rfl, rfl, .inl ⟨_, _, rfl, rfl, mx _ (by omega) (by omega), _, rfl, ?_⟩⟩⟩⟩
    have ea : (p : Int) * 31 = ((31 * p : Nat) : Int) := by omega
    have eb : ((p : Int) + 1) * 31 = ((31 * p + 31 : Nat) : Int) := by omega
    have ec : cutV (IV os) (some ((p : Int) * 31)) (some (((p : Int) + 1) * 31)) = IV ((os.drop (31 * p)).take 31) := by
      unfold cutV
      have m1 : min (31 * p) (IV os).length = 31 * p := by rw [iv_len]; omega
      have m2 : min (31 * p + 31) (IV os).length = 31 * p + 31 := by rw [iv_len]; omega
      rw [ea, eb, HT.sIx_nat, HT.sIx_nat, m1, m2, ← List.map_drop, ← List.map_take]
      congr 2
      omega
    refine .inr (.inl ⟨_, _, rfl, Evl.ex_t E2 S, ?_, fun r nr => ?_⟩)
    · rintro ⟨h0, h⟩
      rw [eb, HT.sIx_nat, iv_len] at h
      rw [ea, HT.sIx_nat, iv_len] at h0
      omega
    · rw [ec]
      exact q r _ (Evl.fresh_back E2 nr) (E2.trans (Evl.Ex.new nr)) upd_same
end
end K6
namespace K6
open PySem PySem.Spec PyProof.Rows L2 VB BM
section
variable {P : Program} {w : World} {K : PySem.W.Frag} {mg : Str → Option Value} {base : Heap} {f : Addr} {fd : FuncData}
theorem ok_erases (T : Txt K mg) (TC : TxC K) (F : FnM K "erases" "Chip.erases" s_Chip__erases f fd) (M_Chip___check_block : CalM P w K mg base CX0 3 (Ch K) "_check_block" ["self", "block"] (spChkB K)) :
    Fg P w K mg base CX0 4 f fd ["self", "block"] (spErases K) := by
  refine fg_of F sc_Chip__erases (fun vs H Q E h => ?_) (fun cdv A outer s H vs Q E hr h => ⟨_, (PSs.nox (pss_cons (ps_expr (pe_calM M_Chip___check_block hr.le pass0 (pv 0) (pa_cons (pv 1) pa_nil)))
  (pss_one (ps_ret (pe_ix (u_ix (K := K)) (pe_fldU (K := K) (pv 0) rfl) (pv 1) (fun _ _ => rfl)))))), ?_⟩)
  · obtain ⟨a, c, b, er, rfl, _⟩ := h
    rfl
  · obtain ⟨a, c, b, er, rfl, ⟨dx, ha⟩, b1, he, hl, q⟩ := h
    refine ⟨_, rfl, a, dx, _, rfl, ha, rfl, _, rfl, a, c, (b : Int), rfl, ⟨dx, ha⟩, by omega, b1, fun H1 e1 => ?_⟩
    exact ⟨_, rfl, a, _, dx, _, _, rfl, e1 _ _ ha, TC.cls, TC.no _ (by simp), rfl, _, rfl, Sv.ix (x := .non) (Sv.lst (e1 _ _ he)) (i := (b : Int)) (iv_at (getD_get hl)) (q _ e1)⟩
end
end K6
namespace K6
open PySem PySem.Spec PyProof.Rows L2 VB BM
section
variable {P : Program} {w : World} {K : PySem.W.Frag} {mg : Str → Option Value} {base : Heap} {f : Addr} {fd : FuncData}
theorem ok_is_bad (T : Txt K mg) (TC : TxC K) (F : FnM K "is_bad" "Chip.is_bad" s_Chip__is_bad f fd) (M_Chip___check_block : CalM P w K mg base CX0 3 (Ch K) "_check_block" ["self", "block"] (spChkB K)) :
    Fg P w K mg base CX0 4 f fd ["self", "block"] (spIsBad K) := by
  refine fg_of F sc_Chip__is_bad (fun vs H Q E h => ?_) (fun cdv A outer s H vs Q E hr h => ⟨_, (PSs.nox (pss_cons (ps_expr (pe_calM M_Chip___check_block hr.le pass0 (pv 0) (pa_cons (pv 1) pa_nil)))
  (pss_one (ps_ret (pe_ix (u_ix (K := K)) (pe_fldU (K := K) (pv 0) rfl) (pv 1) (fun _ _ => rfl)))))), ?_⟩)
  · obtain ⟨a, c, b, tb, rfl, _⟩ := h
    rfl
  · obtain ⟨a, c, b, tb, rfl, ⟨dx, ha⟩, b1, he, hl, q⟩ := h
    refine ⟨_, rfl, a, dx, _, rfl, ha, rfl, _, rfl, a, c, (b : Int), rfl, ⟨dx, ha⟩, by omega, b1, fun H1 e1 => ?_⟩
    exact ⟨_, rfl, a, _, dx, _, _, rfl, e1 _ _ ha, TC.cls, TC.no _ (by simp), rfl, _, rfl, Sv.ix (x := .non) (Sv.lst (e1 _ _ he)) (i := (b : Int)) (bv_at hl) (q _ e1)⟩
end
end K6
namespace K6
open PySem PySem.Spec PyProof.Rows L2 VB BM
section
variable {P : Program} {w : World} {K : PySem.W.Frag} {mg : Str → Option Value} {base : Heap} {f : Addr} {fd : FuncData}
def spIsInt : Sp := fun vs H Q _ => ∃ i : Int, vs = [.int i] ∧ Q (.bl true) H
theorem ok_is_int (T : Txt K mg) (F : FnP K "is_int" s_is_int f fd) : Fg P w K mg base CX0 1 f fd ["value"] spIsInt := by
  refine fg_of F sc_is_int (fun vs H Q E h => ?_) (fun cdv A outer s H vs Q E hr h => ⟨_, (PSs.nox (pss_one (ps_ret (pe_and (pe_callB (u_isi (K := K)) (by rfl) T.f_isinstance (by decide +kernel) (pa_cons (pv 0) (pa_cons (pe_bltn (v := .ty "int") rfl T.f_int (by decide +kernel) rfl) pa_nil))) (pe_one (pe_not (pe_callB (u_isi (K := K)) (by rfl) T.f_isinstance (by decide +kernel) (pa_cons (pv 0) (pa_cons (pe_bltn (v := .ty "bool") rfl T.f_bool (by decide +kernel) rfl) pa_nil))))))))), ?_⟩)
  · obtain ⟨i, rfl, _⟩ := h
    rfl
  · obtain ⟨i, rfl, q⟩ := h
    refine ⟨_, rfl, _, _, _, _, true, rfl, .ty _, ty_int K H i, kit_ty (by decide +kernel), true, rfl, iteT ?_⟩
    exact ⟨_, rfl, _, _, _, _, false, rfl, .ty _, ty_int K H i, kit_ty (by decide +kernel), false, rfl, q⟩
theorem ok_int_from (T : Txt K mg) (F : FnP K "is_int_from" s_is_int_from f fd) : Fg P w K mg base CX0 2 f fd ["value", "least", "greatest"] spIntFrom := by
  refine fg_of F sc_is_int_from (fun vs H Q E h => ?_) (fun cdv A outer s H vs Q E hr h => ⟨_, (PSs.nox (pss_one (ps_ret (pe_and (pe_callB (u_isi (K := K)) (by rfl) T.f_isinstance (by decide +kernel) (pa_cons (pv 0) (pa_cons (pe_bltn (v := .ty "int") rfl T.f_int (by decide +kernel) rfl) pa_nil))) (pe_and (pe_not (pe_callB (u_isi (K := K)) (by rfl) T.f_isinstance (by decide +kernel) (pa_cons (pv 0) (pa_cons (pe_bltn (v := .ty "bool") rfl T.f_bool (by decide +kernel) rfl) pa_nil)))) (pe_one (pe_chain op_le op_le (pv 1) (pv 0) (pv 2)))))))), ?_⟩)
  · obtain ⟨i, l, g, rfl, _⟩ := h
    rfl
  · obtain ⟨i, l, g, rfl, h1, h2, q⟩ := h
    refine ⟨_, rfl, _, _, _, _, true, rfl, .ty _, ty_int K H i, kit_ty (by decide +kernel), true, rfl, iteT ?_⟩
    refine ⟨_, rfl, _, _, _, _, false, rfl, .ty _, ty_int K H i, kit_ty (by decide +kernel), false, rfl, true, rfl, iteT ?_⟩
    refine ⟨_, rfl, _, rfl, _, _, rfl, rfl, _, rfl, ?_⟩
    rw [decide_eq_true h1]
    refine iteT ⟨_, rfl, _, _, rfl, rfl, ?_⟩
    dsimp only
    rw [decide_eq_true h2]
    exact q
def spChk (K : PySem.W.Frag) : Sp := fun vs H Q _ => ∃ (a : Addr) (os : List Int) (t : Bool), vs = [.ref a] ∧ Sv t K H a (IV os) ∧ Oct os ∧ os.length ≤ 20000 ∧ RV .non H Q
theorem ok_chk (T : Txt K mg) (F : FnP K "_check_octets" s__check_octets f fd) (C_is_octets : Cal P w K mg base CX0 3 "is_octets" ["value"] (spIsOct K)) : Fg P w K mg base CX0 4 f fd ["octets"] (spChk K) := by
  refine fg_of F sc__check_octets (fun vs H Q E h => ?_) (fun cdv A outer s H vs Q E hr h => ⟨_, (PSs.nox (pss_one (ps_if (pt_not (pt_tru (K := K) (pe_cal C_is_octets hr.le pass0 (pa_cons (pv 0) pa_nil)) (by intro _; rfl)))
  (pss_one ps_never) pss_nil))), ?_⟩)
  · obtain ⟨a, os, t, rfl, _⟩ := h
    rfl
  · obtain ⟨a, os, t, rfl, S, ho, hl, q⟩ := h
    exact ⟨_, rfl, a, os, t, rfl, S, ho, hl, fun H1 e1 => ⟨true, rfl, iteF (q _ e1)⟩⟩
def spPair (K : PySem.W.Frag) : Sp := fun vs H Q _ => ∃ (a b : Addr) (xs ys : List Int) (t u : Bool), vs = [.ref a, .ref b] ∧ Sv t K H a (IV xs) ∧ Sv u K H b (IV ys) ∧ Oct xs ∧ Oct ys ∧ xs.length = ys.length ∧ xs.length ≤ 20000 ∧ RV .non H Q
theorem ok_pair (T : Txt K mg) (F : FnP K "_check_pair" s__check_pair f fd) (C__check_octets : Cal P w K mg base CX0 4 "_check_octets" ["octets"] (spChk K)) : Fg P w K mg base CX0 5 f fd ["old", "new"] (spPair K) := by
  refine fg_of F sc__check_pair (fun vs H Q E h => ?_) (fun cdv A outer s H vs Q E hr h => ⟨_, (PSs.nox (pss_cons (ps_expr (pe_cal C__check_octets hr.le pass0 (pa_cons (pv 0) pa_nil)))
  (pss_cons (ps_expr (pe_cal C__check_octets hr.le pass0 (pa_cons (pv 1) pa_nil)))
  (pss_one (ps_if (pt_cmpR (u_ne (K := K) hr) (pe_callB (u_len (K := K)) (by rfl) T.f_len (by decide +kernel) (pa_cons (pv 0) pa_nil)) (pe_callB (u_len (K := K)) (by rfl) T.f_len (by decide +kernel) (pa_cons (pv 1) pa_nil)) (nomark _))
  (pss_one ps_never) pss_nil))))), ?_⟩)
  · obtain ⟨a, b, xs, ys, t, u, rfl, _⟩ := h
    rfl
  · obtain ⟨a, b, xs, ys, t, u, rfl, Sa, Sb, ox, oy, hl, hm, q⟩ := h
    refine ⟨_, rfl, a, xs, t, rfl, Sa, ox, hm, fun H1 e1 => ?_⟩
    refine ⟨_, rfl, b, ys, u, rfl, Sb.ex e1, oy, by omega, fun H2 e2 => ?_⟩
    have E2 := e1.trans e2
    refine ⟨_, rfl, _, _, rfl, (Sa.ex E2).len, _, rfl, _, _, rfl, (Sb.ex E2).len, .inl ⟨rfl, _, rfl, same_int ?_ (q _ E2)⟩⟩
    rw [iv_len, iv_len, hl]
def spWorth : Sp := fun vs H Q _ => ∃ n : Nat, vs = [.int (n : Int)] ∧ Q (.int (128 / 2 ^ (n % 8))) H
theorem ok_worth (T : Txt K mg) (F : FnP K "_worth" s__worth f fd) : Fg P w K mg base CX0 1 f fd ["bit"] spWorth := by
  refine fg_of F sc__worth (fun vs H Q E h => ?_) (fun cdv A outer s H vs Q E hr h => ⟨_, (PSs.nox (pss_one (ps_ret (pe_op op_shrN pe_int (pe_op u_mod (pv 0) pe_int))))), ?_⟩)
  · obtain ⟨n, rfl, _⟩ := h
    rfl
  · obtain ⟨n, rfl, q⟩ := h
    have n8 : (0 : Int) < 8 := by decide
    exact ⟨_, rfl, _, _, rfl, rfl, n8, 128, n % 8, rfl, rfl, q⟩
def spOnes (K : PySem.W.Frag) : Sp := fun vs H Q _ => ∃ (a : Addr) (os : List Int), vs = [.ref a] ∧ SqL K H a (IV os) ∧ Oct os ∧ os.length ≤ 700 ∧ RL (IV (onesL 0 (bitsL os))) H Q
theorem ok_ones (T : Txt K mg) (F : FnP K "_ones" s__ones f fd) (C__worth : Cal P w K mg base CX0 1 "_worth" ["bit"] spWorth) : Fg P w K mg base CX0 2 f fd ["octets"] (spOnes K) := by
  refine fg_of F sc__ones (fun vs H Q E h => ?_) (fun cdv A outer s H vs Q E hr h => ⟨_, (PSs.nox (pss_one (ps_ret (pe_lc (own := [("bit", 1)]) rfl sc__ones.nd (pi_range1 rfl T.f_range (pa_cons (pe_op (u_mul (K := K)) pe_int (pe_callB (u_len (K := K)) (by rfl) T.f_len (by decide +kernel) (pa_cons (pv 0) pa_nil))) pa_nil)) (blkOk_by (own := [("bit", 1)]) (N := ["octets", "bit"]) (sc := defScope s__ones) (by decide +kernel)) (fun _ _ _ _ _ => (pg_name (i := 1) sc__ones.nd rfl (by first | exact Or.inl rfl | exact Or.inr rfl))) (fun _ _ _ _ _ => (pts_one (pt_tru (K := K) (pe_op op_and (pe_ix (u_ix (K := K)) (pv 0) (pe_op u_fdiv (pv 1) pe_int) (fun _ _ => rfl)) (pe_cal C__worth hr.le pass0 (pa_cons (pv 1) pa_nil))) (by intro _; rfl)))) (fun _ _ _ _ _ => (pv 1)))))), ?_⟩)
  · obtain ⟨a, os, rfl, _⟩ := h
    rfl
  · obtain ⟨a, os, rfl, S, ho, hl, q⟩ := h
    have lb := bitsL_len os
    have n8 : (0 : Int) < 8 ∧ (8 : Int) < 1073741824 := by decide
    have cm : CMulX 8 ((IV os).length : Int) := mulx_ok (a := 4) (b := 10) (by decide) (by rw [iv_len]; omega) (by decide)
    have il := iv_len os
    refine ⟨_, rfl, _, _, rfl, .inl ⟨_, S, rfl⟩, .inl ⟨_, _, rfl, rfl, cm, _, rfl, by omega, by omega, fun D hD => ?_⟩⟩
    have nn : (8 * ((IV os).length : Int)).toNat = 8 * os.length := by omega
    rw [nn]
    refine lc_range (lo := 0) (n := 8 * os.length) (fun i H' => Evl.Ex H H' ∧ i ≤ 8 * os.length ∧ H' D = some (.lst (IV (onesL 0 ((bitsL os).take i))))) ⟨Evl.Ex.new hD, Nat.zero_le _, upd_same⟩ ?_ ?_
    · rintro i H1 hi ⟨e1, hi2, h1⟩
      obtain ⟨o, ho2, hx, hb⟩ := at_bit ho hi
      have e0 : (0 : Int) + (i : Int) = (i : Int) := Int.zero_add _
      rw [e0]
      have S1 := Evl.ex_l e1 S
      obtain ⟨b, hbi⟩ := get_lt (l := bitsL os) (i := i) (by omega)
      have len : ((bitsL os).take i).length = i := by rw [List.length_take]; omega
      have sn := onesL_snoc ((bitsL os).take i) b
      rw [len, ← take_snoc hbi] at sn
      have on := bit_on o ho2 (i % 8) (by omega)
      rw [← hb, hbi] at on
      refine ⟨rfl, _, rfl, _, rfl, _, _, rfl, rfl, n8, .inl ⟨a, _, _, _, rfl, rfl, S1, iv_at hx, _, rfl, i, rfl, _, _, rfl, rfl, ?_⟩⟩
      refine ⟨_, rfl, ?_⟩
      rw [worth_nat, VB.bitAnd_nn]
      by_cases z : o &&& 128 / 2 ^ (i % 8) = 0
      · have b1 : ¬ b = 1 := fun y => (on.mpr (by rw [y])) z
        rw [z]
        refine iteF ⟨e1, hi, ?_⟩
        rw [sn, if_neg b1, List.append_nil]
        exact h1
      · have b1 : b = 1 := Option.some.inj (on.mp z)
        have nz : (((o &&& 128 / 2 ^ (i % 8) : Nat) : Int) != 0) = true := by
          have : ((o &&& 128 / 2 ^ (i % 8) : Nat) : Int) ≠ 0 := by omega
          simpa using this
        rw [nz]
        refine iteT ⟨_, rfl, _, h1, ?_, Evl.Ex.mut e1 hD, hi, ?_⟩
        · rw [iv_len]
          have := onesL_len ((bitsL os).take i) 0
          exact Evl.sz_lt (by omega)
        · rw [upd_same, sn, if_pos b1, iv_snoc]
    · rintro H1 ⟨e1, _, h1⟩
      rw [← lb, List.take_length] at h1
      exact q D H1 hD e1 h1
end
end K6
namespace K6
open PySem PySem.Spec PyProof.Rows L2 VB BM
/-- one unlike bit on -/
theorem one_turn {os done as' bs' U : List Int} {m : Int} {i : Nat} {p : Int} {rest : List Int} (ho : Oct os) (hb : bitsL os = done ++ as') (bb : Bit bs') (hl : as'.length = bs'.length) (hu : diffL (done.length : Int) as' bs' = p :: rest) :
    ∃ (n o : Nat) (x y : Int) (pre as2 bs2 : List Int), p = (n : Int) ∧ o < 256 ∧ os[n / 8]? = some (o : Int) ∧ n / 8 < os.length ∧ as'.length = pre.length + 1 + as2.length ∧ as2.length = bs2.length ∧ Bit bs2 ∧
      (∀ m, turned as' bs' m = pre ++ (if m % 2 = 1 then y else x) :: turned as2 bs2 (m / 2)) ∧ rest = diffL ((done.length + pre.length + 1 : Nat) : Int) as2 bs2 ∧ bitsL os = (done ++ pre ++ [x]) ++ as2 ∧
      Oct (os.set (n / 8) ((o ^^^ (128 / 2 ^ (n % 8)) : Nat) : Int)) ∧ bitsL (os.set (n / 8) ((o ^^^ (128 / 2 ^ (n % 8)) : Nat) : Int)) = (done ++ pre ++ [y]) ++ as2 := by
  obtain ⟨pre, x, y, as2, bs2, h1, h2, h3, h4, h5, h6, h7⟩ := diff_at as' bs' _ p rest hl hu
  have lb := bitsL_len os
  have hn : done.length + pre.length < 8 * os.length := by
    rw [← lb, hb, h1]
    simp
  obtain ⟨o, o1, o2, o3⟩ := at_bit ho hn
  have bx : (bitsL os)[done.length + pre.length]? = some x := by
    rw [hb, h1, List.getElem?_append_right (by omega), Nat.add_sub_cancel_left, List.getElem?_append_right (by omega)]
    simp
  have bx2 : (bitsOf (o : Int))[(done.length + pre.length) % 8]? = some x := by rw [← o3]; exact bx
  have hx : x = 0 ∨ x = 1 := bitsL_bit os x (List.mem_of_getElem? bx)
  have hy : y = 0 ∨ y = 1 := bb y (by rw [h2]; simp)
  have yx : y = 1 - x := by omega
  obtain ⟨t1, t2⟩ := bit_turn o o1 ((done.length + pre.length) % 8) (by omega)
  have gd : (bitsOf (o : Int)).getD ((done.length + pre.length) % 8) 0 = x := by rw [List.getD_eq_getElem?_getD, bx2]; rfl
  rw [gd, ← yx] at t2
  have st := bitsL_set os ((done.length + pre.length) / 8) ((done.length + pre.length) % 8) _ _ _ (by omega) o2 t2
  have e8 : 8 * ((done.length + pre.length) / 8) + (done.length + pre.length) % 8 = done.length + pre.length := by omega
  rw [e8] at st
  refine ⟨done.length + pre.length, o, x, y, pre, as2, bs2, by rw [h4]; simp, o1, o2, by omega, by rw [h1]; simp; omega, h6, fun b hbm => bb b (by rw [h2]; simp [hbm]), h7, by rw [h5, h4]; congr 1, ?_, ?_, ?_⟩
  · rw [hb, h1]
    simp
  · intro z hz
    rcases List.mem_or_eq_of_mem_set hz with z1 | z1
    · exact ho z z1
    · omega
  · rw [st, hb, h1, List.append_assoc, List.append_assoc, List.set_append_right _ _ (by omega), Nat.add_sub_cancel_left]
    congr 1
    rw [List.set_append_right _ _ (Nat.le_refl _), Nat.sub_self]
    rfl
section
variable {P : Program} {w : World} {K : PySem.W.Frag} {mg : Str → Option Value} {base : Heap} {f : Addr} {fd : FuncData}
def spChanged (K : PySem.W.Frag) : Sp := fun vs H Q _ => ∃ (a b : Addr) (xs ys : List Int) (t u : Bool) (m : Int), vs = [.ref a, .ref b, .int m] ∧ Sv t K H a (IV xs) ∧ Sv u K H b (IV ys) ∧ Oct xs ∧ Oct ys ∧ xs.length = ys.length ∧ xs.length ≤ 700 ∧
  0 ≤ m ∧ m < MM ∧ RT (IV (octetsL (turned (bitsL xs) (bitsL ys) m))) H Q
def spIsMask : Sp := fun vs H Q _ => ∃ m : Int, vs = [.int m] ∧ 0 ≤ m ∧ m < MM ∧ Q (.bl true) H
theorem ok_is_mask (T : Txt K mg) (F : FnP K "is_mask" s_is_mask f fd) (C_is_int : Cal P w K mg base CX0 1 "is_int" ["value"] spIsInt) : Fg P w K mg base CX0 2 f fd ["value"] spIsMask := by
  refine fg_of F sc_is_mask (fun vs H Q E h => ?_) (fun cdv A outer s H vs Q E hr h => ⟨_, (PSs.nox (pss_one (ps_ret (pe_and (pe_cal C_is_int hr.le pass0 (pa_cons (pv 0) pa_nil)) (pe_and (pe_cmpR op_ge (pv 0) pe_int (nomark _)) (pe_one (pe_cmpR op_le (pe_bits (pv 0)) (pe_globI rfl T.g_MASK_BITS) (nomark _)))))))), ?_⟩)
  · obtain ⟨m, rfl, _⟩ := h
    rfl
  · obtain ⟨m, rfl, h0, h1, q⟩ := h
    have b := PyProof.Rows.intBits_le (lt_natAbs (n := 4096) h0 h1)
    refine ⟨_, rfl, _, rfl, true, rfl, iteT ⟨_, rfl, _, _, rfl, rfl, _, rfl, ?_⟩⟩
    rw [decide_eq_true (show m ≥ 0 from h0)]
    refine iteT ⟨_, rfl, m, rfl, _, _, rfl, rfl, ?_⟩
    dsimp only
    rw [decide_eq_true (show ((Builtin.Int.intBits m : Nat) : Int) ≤ 4096 by omega)]
    exact q
theorem ok_changed (T : Txt K mg) (F : FnP K "changed" s_changed f fd) (C__check_pair : Cal P w K mg base CX0 5 "_check_pair" ["old", "new"] (spPair K)) (C__ones : Cal P w K mg base CX0 2 "_ones" ["octets"] (spOnes K))
    (C_is_mask : Cal P w K mg base CX0 2 "is_mask" ["value"] spIsMask) (C__worth : Cal P w K mg base CX0 1 "_worth" ["bit"] spWorth) : Fg P w K mg base CX0 6 f fd ["old", "new", "mask"] (spChanged K) := by
  refine fg_of F sc_changed (fun vs H Q E h => ?_) (fun cdv A outer s H vs Q E hr h => ⟨_, (PSs.nox (pss_cons (ps_expr (pe_cal C__check_pair hr.le pass0 (pa_cons (pv 0) (pa_cons (pv 1) pa_nil))))
  (pss_cons (ps_if (pt_not (pt_tru (K := K) (pe_cal C_is_mask hr.le pass0 (pa_cons (pv 2) pa_nil)) (by intro _; rfl)))
  (pss_one ps_never) pss_nil)
  (pss_cons (ps_set (i := 3) sc_changed.nd rfl (by first | exact Or.inl rfl | exact Or.inr rfl) (pe_cal C__ones hr.le pass0 (pa_cons (pe_lc (own := [("was", 7), ("now", 8)]) rfl sc_changed.nd (pi_zm (K := K) rfl T.f_zip (pa_cons (pv 0) (pa_cons (pv 1) pa_nil))) (blkOk_by (own := [("was", 7), ("now", 8)]) (N := ["old", "new", "mask", "unlike", "octets", "k", "bit", "was", "now"]) (sc := defScope s_changed) (by decide +kernel)) (fun _ _ _ _ _ => (pg_tupU (K := K) (n := 2) rfl (pgs_cons (pg_name (i := 7) sc_changed.nd rfl (by first | exact Or.inl rfl | exact Or.inr rfl)) (pgs_cons (pg_name (i := 8) sc_changed.nd rfl (by first | exact Or.inl rfl | exact Or.inr rfl)) pgs_nil)))) (fun _ _ _ _ _ => pts_nil) (fun _ _ _ _ _ => (pe_op op_xor (pv 7) (pv 8)))) pa_nil)))
  (pss_cons (ps_set (i := 4) sc_changed.nd rfl (by first | exact Or.inl rfl | exact Or.inr rfl) (pe_callTy (u_list (K := K)) (by rfl) T.f_list (by decide +kernel) (pa_cons (pv 0) pa_nil)))
  (pss_cons (ps_for PassesOwn.never rfl (pi_enu (K := K) rfl T.f_enumerate (pa_cons (pv 3) pa_nil)) (pg_tupU (K := K) (n := 2) rfl (pgs_cons (pg_name (i := 5) sc_changed.nd rfl (by first | exact Or.inl rfl | exact Or.inr rfl)) (pgs_cons (pg_name (i := 6) sc_changed.nd rfl (by first | exact Or.inl rfl | exact Or.inr rfl)) pgs_nil)))
  (pss_one (ps_if (pt_tru (K := K) (pe_op op_and (pe_op op_shrN (pv 2) (pv 5)) pe_int) (by intro _; rfl))
  (pss_one (ps_asg (pe_op op_xor (pe_ix (u_ix (K := K)) (pv 4) (pe_op u_fdiv (pv 6) pe_int) (fun _ _ => rfl)) (pe_cal C__worth hr.le pass0 (pa_cons (pv 6) pa_nil))) (pg_sub (pv 4) (pe_op u_fdiv (pv 6) pe_int) set_list))) pss_nil)))
  (pss_one (ps_ret (pe_callTy (u_tup (K := K)) (by rfl) T.f_tuple (by decide +kernel) (pa_cons (pv 4) pa_nil)))))))))), ?_⟩)
  · obtain ⟨a, b, xs, ys, t, u, m, rfl, _⟩ := h
    rfl
  · obtain ⟨a, b, xs, ys, t, u, m, rfl, Sa, Sb, ox, oy, hl, hm, m0, m1, q⟩ := h
    have lx := bitsL_len xs
    have ly := bitsL_len ys
    refine ⟨_, rfl, _, rfl, a, b, xs, ys, t, u, rfl, Sa, Sb, ox, oy, hl, by omega, fun H1 e1 => ?_⟩
    refine ⟨_, rfl, m, rfl, m0, m1, true, rfl, iteF ?_⟩
    have L := both_len (f := Builtin.bitXor) (xs := xs) (ys := ys) hl
    have wk := walk_zm (t := t) (u := u) (K := K) (a := a) (b := b) (xs := IV xs) (ys := IV ys) (n := xs.length) (by rw [iv_len, iv_len]; omega)
    refine ⟨_, rfl, _, rfl, t, u, a, b, _, _, rfl, Sa.ex e1, Sb.ex e1, fun D hD => ?_⟩
    refine lc_pureVZ (us := IV (both Builtin.bitXor xs ys)) wk (fun H' ex => ⟨(Sa.ex e1).ex ex, (Sb.ex e1).ex ex⟩) (by rw [iv_len]; exact L) (by omega) hD (fun _ _ => rfl) ?_ ?_
    · intro i x y v H' Q' hx hy hv ex k
      obtain ⟨m, n, rfl, rfl, rfl⟩ := both_at hx hy hv
      exact ⟨_, rfl, _, rfl, _, _, rfl, rfl, k H' (Evl.Ex.refl _)⟩
    · intro H2 ex h3
      refine ⟨D, both Builtin.bitXor xs ys, rfl, SqL.of h3, both_oct ox oy (fun _ _ => xor_range), by omega, fun pu H3 np e3 hp => ?_⟩
      rw [ones_diff ox oy hl] at hp
      have E3 := (e1.trans ex).trans e3
      refine ⟨_, rfl, a, _, rfl, (Sa.ex E3).either, fun l nl => ?_⟩
      have El := E3.trans (Evl.Ex.new (o := .lst (IV xs)) nl)
      have nlH := Evl.fresh_back E3 nl
      generalize hU : diffL 0 (bitsL xs) (bitsL ys) = U at hp
      have hp4 := Evl.Ex.new (o := .lst (IV xs)) nl _ _ hp
      have pul : pu ≠ l := by
        rintro rfl
        rw [nl] at hp
        cases hp
      refine ⟨_, rfl, pu, _, rfl, SqL.of hp4, ?_⟩
      refine for_it (walk_enum (K := K) (a := pu) (xs := IV U)) (fun i σ H' => ∃ (v5 v6 : Option V) (os done as' bs' : List Int), σ = [some (.ref a), some (.ref b), some (.int m), some (.ref pu), some (.ref l), v5, v6, none, none] ∧ Evl.Ex H H' ∧ H' pu = some (.lst (IV U)) ∧ i ≤ U.length ∧
        Oct os ∧ os.length = xs.length ∧ H' l = some (.lst (IV os)) ∧ bitsL os = done ++ as' ∧ Bit bs' ∧ as'.length = bs'.length ∧ U.drop i = diffL (done.length : Int) as' bs' ∧ turned (bitsL xs) (bitsL ys) m = done ++ turned as' bs' (m / 2 ^ i))
        ⟨none, none, xs, [], bitsL xs, bitsL ys, rfl, El, hp4, Nat.zero_le _, ox, rfl, upd_same, rfl, bitsL_bit ys, by omega, hU.symm, by simp⟩ ?_ ?_ ?_
      · rintro i σ H' _ ⟨v5, v6, os, done, as', bs', rfl, _, h, _⟩
        exact SqL.of h
      · rintro i x σ H4 H5 hi ⟨v5, v6, os, done, as', bs', rfl, e4, hp5, hiU, oo, lo, hos, hb, bb, ll, hd, ht⟩ ⟨Tp, x1, y1, rfl, nT, rfl, hx1, hy1⟩
        cases hx1
        obtain ⟨p, hpi, rfl⟩ := iv_get hy1
        have eT := Evl.Ex.new (o := .tup [V.int (i : Int), V.int p]) nT
        refine ⟨Tp, _, rfl, SqT.of upd_same, rfl, _, _, rfl, _, _, rfl, rfl, ?_⟩
        rw [drop_get hpi] at hd
        obtain ⟨n, o, x, y, pre, as2, bs2, rfl, o1, o2, o3, l1, l2, b2, tt, hr2, hb1, oo2, hb2⟩ := one_turn (U := U) (m := m) (i := i) oo hb bb ll hd.symm
        have hos5 := eT _ _ hos
        have hp6 := eT _ _ hp5
        have E5 := e4.trans eT
        have lT : l ≠ Tp := by
          rintro rfl
          rw [nT] at hos
          cases hos
        have dv : m / 2 ^ i / 2 = m / 2 ^ (i + 1) := by
          rw [Int.pow_succ, Int.ediv_ediv_of_nonneg (Int.le_of_lt (pow_nn i))]
        have n8 : (0 : Int) < 8 ∧ (8 : Int) < 1073741824 := by decide
        refine ⟨_, rfl, _, rfl, m, i, rfl, rfl, _, _, rfl, rfl, _, rfl, ?_⟩
        rw [bitAnd_m1]
        rw [tt] at ht
        by_cases od : m / 2 ^ i % 2 = 1
        · rw [if_pos od] at ht
          rw [od]
          refine iteT ⟨_, rfl, _, rfl, _, _, rfl, rfl, n8, .inl ⟨l, _, _, _, rfl, rfl, SqL.of hos5, iv_at o2, _, rfl, n, rfl, _, _, rfl, rfl, ?_⟩⟩
          refine ⟨_, rfl, _, rfl, _, _, rfl, rfl, n8, l, _, _, n / 8, rfl, rfl, hos5, Evl.ixN_nat (by rw [iv_len]; exact o3), ?_⟩
          dsimp only
          rw [worth_nat, bitXor_nn, ← List.map_set]
          refine ⟨_, _, _, done ++ pre ++ [y], as2, bs2, rfl, Evl.Ex.mut E5 nlH, ?_, ?_, oo2, ?_, upd_same, hb2, b2, l2, ?_, ?_⟩
          · rw [upd_ne pul]
            exact hp6
          · have := (List.getElem?_eq_some_iff.mp hpi).1
            omega
          · rw [List.length_set]
            exact lo
          · rw [hr2]
            congr 1
            simp
            omega
          · rw [ht, dv]
            simp
        · rw [if_neg od] at ht
          have ez : m / 2 ^ i % 2 = 0 := by omega
          rw [ez]
          refine iteF ⟨_, _, os, done ++ pre ++ [x], as2, bs2, rfl, E5, hp6, by have := (List.getElem?_eq_some_iff.mp hpi).1; omega, oo, lo, hos5, hb1, b2, l2, ?_, ?_⟩
          · rw [hr2]
            congr 1
            simp
            omega
          · rw [ht, dv]
            simp
      · rintro σ H4 ⟨v5, v6, os, done, as', bs', rfl, e4, hp5, hiU, oo, lo, hos, hb, bb, ll, hd, ht⟩
        rw [iv_len, List.drop_length] at hd
        have e := diff_nil _ _ _ ll hd.symm
        subst e
        rw [turned_same, ← hb] at ht
        rw [ht, octetsL_bitsL oo] at q
        exact ⟨_, rfl, l, _, rfl, .inl ⟨SqL.of hos, fun p np => q p _ (Evl.fresh_back e4 np) (e4.trans (Evl.Ex.new np)) upd_same⟩⟩
end
end K6
namespace K6
open PySem PySem.Spec PyProof.Rows L2 VB BM
section
variable {P : Program} {w : World} {K : PySem.W.Frag} {mg : Str → Option Value} {base : Heap} {f : Addr} {fd : FuncData}
def spBC : Sp := fun vs H Q _ => ∃ n : Int, vs = [.int n] ∧ 8 ≤ n ∧ n ≤ 24 ∧ Q (.bl true) H
theorem ok_bc (T : Txt K mg) (F : FnP K "is_block_count" s_is_block_count f fd) (C_is_int_from : Cal P w K mg base CX0 2 "is_int_from" ["value", "least", "greatest"] spIntFrom) : Fg P w K mg base CX0 3 f fd ["value"] spBC := by
  refine fg_of F sc_is_block_count (fun vs H Q E h => ?_) (fun cdv A outer s H vs Q E hr h => ⟨_, (PSs.nox (pss_one (ps_ret (pe_cal C_is_int_from hr.le pass0 (pa_cons (pv 0) (pa_cons (pe_globI rfl T.g_LEAST_BLOCKS) (pa_cons (pe_globI rfl T.g_MOST_BLOCKS) pa_nil))))))), ?_⟩)
  · obtain ⟨n, rfl, _⟩ := h
    rfl
  · obtain ⟨n, rfl, h1, h2, q⟩ := h
    exact ⟨_, rfl, n, 8, 24, rfl, h1, h2, q⟩
def spPC : Sp := fun vs H Q _ => ∃ n : Int, vs = [.int n] ∧ 8 ≤ n ∧ n ≤ 16 ∧ Q (.bl true) H
theorem ok_pc (T : Txt K mg) (F : FnP K "is_page_count" s_is_page_count f fd) (C_is_int_from : Cal P w K mg base CX0 2 "is_int_from" ["value", "least", "greatest"] spIntFrom) : Fg P w K mg base CX0 3 f fd ["value"] spPC := by
  refine fg_of F sc_is_page_count (fun vs H Q E h => ?_) (fun cdv A outer s H vs Q E hr h => ⟨_, (PSs.nox (pss_one (ps_ret (pe_cal C_is_int_from hr.le pass0 (pa_cons (pv 0) (pa_cons (pe_globI rfl T.g_LEAST_PAGES) (pa_cons (pe_globI rfl T.g_MOST_PAGES) pa_nil))))))), ?_⟩)
  · obtain ⟨n, rfl, _⟩ := h
    rfl
  · obtain ⟨n, rfl, h1, h2, q⟩ := h
    exact ⟨_, rfl, n, 8, 16, rfl, h1, h2, q⟩
def spBdC : Sp := fun vs H Q _ => ∃ n b : Int, vs = [.int n, .int b] ∧ 0 ≤ n ∧ n ≤ b - 7 ∧ Q (.bl true) H
theorem ok_bdc (T : Txt K mg) (F : FnP K "is_bad_count" s_is_bad_count f fd) (C_is_int_from : Cal P w K mg base CX0 2 "is_int_from" ["value", "least", "greatest"] spIntFrom) : Fg P w K mg base CX0 3 f fd ["value", "blocks"] spBdC := by
  refine fg_of F sc_is_bad_count (fun vs H Q E h => ?_) (fun cdv A outer s H vs Q E hr h => ⟨_, (PSs.nox (pss_one (ps_ret (pe_cal C_is_int_from hr.le pass0 (pa_cons (pv 0) (pa_cons pe_int (pa_cons (pe_op op_sub (pv 1) (pe_globI rfl T.g_LEAST_GOOD_BLOCKS)) pa_nil))))))), ?_⟩)
  · obtain ⟨n, b, rfl, _⟩ := h
    rfl
  · obtain ⟨n, b, rfl, h1, h2, q⟩ := h
    exact ⟨_, rfl, _, rfl, _, _, rfl, rfl, n, 0, b - 7, rfl, h1, h2, q⟩
def spCB : Sp := fun vs H Q _ => ∃ n : Nat, vs = [.int (n : Int)] ∧ 8 ≤ n ∧ n ≤ 16 ∧ ∀ (r : Addr) (H' : Hp), H r = none → Evl.Ex H H' → H' r = some (.tup (IV (List.replicate (31 * n) 255))) → Q (.ref r) H'
theorem ok_cb (T : Txt K mg) (F : FnP K "_clean_block" s__clean_block f fd) : Fg P w K mg base CX0 1 f fd ["pages"] spCB := by
  refine fg_of F sc__clean_block (fun vs H Q E h => ?_) (fun cdv A outer s H vs Q E hr h => ⟨_, (PSs.nox (pss_one (ps_ret (pe_op (u_mul (K := K)) (pe_tup (pa_cons pe_int pa_nil)) (pe_op (u_mul (K := K)) (pv 0) (pe_globI rfl T.g_PAGE_OCTETS)))))), ?_⟩)
  · obtain ⟨n, rfl, _⟩ := h
    rfl
  · obtain ⟨n, rfl, h1, h2, q⟩ := h
    refine ⟨by show 1 ≤ sizeLine; decide, fun t nt => ⟨_, rfl, .inl ⟨_, _, rfl, rfl, mulx_ok (a := 30) (b := 30) (by show _ < 1073741824; omega) (by decide) (by decide), ?_⟩⟩⟩
    have e : ((n : Int) * 31).toNat = 31 * n := by omega
    refine .inr (.inr ⟨t, _, [V.int 255], rfl, rfl, SqT.of upd_same, by simp, by show (2 : Int) ≤ (n : Int) * 31; omega, by show (n : Int) * 31 ≤ 1000; omega, by decide, fun p np => ?_⟩)
    have x0 := Evl.Ex.new (o := .tup [V.int 255]) nt
    have ef : (List.replicate ((n : Int) * 31).toNat [V.int 255]).flatten = IV (List.replicate (31 * n) 255) := by rw [e, rep_flat]
    show Q (.ref p) (upd _ p (.tup (List.replicate ((n : Int) * 31).toNat [V.int 255]).flatten))
    rw [ef]
    exact q p _ (Evl.fresh_back x0 np) (x0.trans (Evl.Ex.new np)) upd_same
theorem putF_new {f : Str} {v : V} : ∀ {fs : List (Str × V)}, (fs.map (·.1)).all (fun g => decide (g ≠ f)) = true → putF f v fs = fs ++ [(f, v)]
  | [], _ => rfl
  | (g, x) :: r, h => by
    rw [List.map_cons, List.all_cons, Bool.and_eq_true] at h
    have hg : g ≠ f := of_decide_eq_true h.1
    have hr := putF_new (v := v) h.2
    show (if g = f then (g, v) :: r else (g, x) :: putF f v r) = _
    rw [if_neg hg, hr]
    rfl
/-- one value many times -/
theorem repV {H : Hp} {t : Addr} {n : Nat} {v : V} {Q : VK} (S : H t = some (.lst [v])) (h1 : n ≤ 1000) (q : ∀ p, H p = none → Q (.ref p) (upd H p (.lst (List.replicate n v)))) : rMulU K (.ref t) (.int (n : Int)) H Q := by
  have e : (List.replicate ((n : Int)).toNat [v]).flatten = List.replicate n v := by
    have : ((n : Int)).toNat = n := by omega
    rw [this]
    simp
  refine .inr (.inl ⟨t, n, _, rfl, rfl, S, by omega, by omega, ?_, fun p hp => ?_⟩)
  · exact Evl.sz_of (by simp; omega)
  · rw [e]
    exact q p hp
/-- what Chip(..) makes of a new instance -/
def spInitC (K : PySem.W.Frag) : Sp := fun vs H Q _ => ∃ (x dx : Addr) (n pg bd : Nat), vs = [.ref x, .int (n : Int), .int (pg : Int), .int (bd : Int)] ∧ H x = some (.ins (Ch K) dx []) ∧ 8 ≤ n ∧ n ≤ 24 ∧ 8 ≤ pg ∧ pg ≤ 16 ∧ (bd : Int) ≤ (n : Int) - 7 ∧
  ∀ (c : Cp) (rs : List Addr) (H' : Hp), c.blocks = n → c.pages = pg → c.bad = bd → c.ops = 0 → c.cuts = 0 → (∀ b o, b ≠ x → H b = some o → H' b = some o) → H' x = some (.ins (Ch K) dx c.fs) →
    rs.length = n → (∀ r ∈ rs, H' r = some (.tup (IV (List.replicate (31 * pg) 255)))) → H' c.o = some (.lst (rs.map V.ref)) → H' c.e = some (.lst (IV (List.replicate n 0))) → H' c.t = some (.lst (BV (List.replicate n false))) →
    H' c.p = some (.dK []) → H' c.q = some (.dK []) → H' c.r = some (.dK []) → c.o ≠ c.e → c.o ≠ c.t → c.e ≠ c.t → c.p ≠ c.q → c.p ≠ c.r → c.q ≠ c.r → H c.o = none → H c.e = none → H c.t = none → H c.p = none → H c.q = none → H c.r = none → Q .non H'
theorem ok_init (T : Txt K mg) (TC : TxC K) (F : FnM K "__init__" "Chip.__init__" s_Chip____init__ f fd) (C_is_block_count : Cal P w K mg base CX0 3 "is_block_count" ["value"] spBC) (C_is_page_count : Cal P w K mg base CX0 3 "is_page_count" ["value"] spPC)
    (C_is_bad_count : Cal P w K mg base CX0 3 "is_bad_count" ["value", "blocks"] spBdC) (C__clean_block : Cal P w K mg base CX0 1 "_clean_block" ["pages"] spCB) : Fg P w K mg base CX0 4 f fd ["self", "blocks", "pages", "bad"] (spInitC K) := by
  refine fg_of F sc_Chip____init__ (fun vs H Q E h => ?_) (fun cdv A outer s H vs Q E hr h => ⟨_, (PSs.nox (pss_cons (ps_if (pt_not (pt_tru (K := K) (pe_cal C_is_block_count hr.le pass0 (pa_cons (pv 1) pa_nil)) (by intro _; rfl)))
  (pss_one ps_never) pss_nil)
  (pss_cons (ps_if (pt_not (pt_tru (K := K) (pe_cal C_is_page_count hr.le pass0 (pa_cons (pv 2) pa_nil)) (by intro _; rfl)))
  (pss_one ps_never) pss_nil)
  (pss_cons (ps_if (pt_not (pt_tru (K := K) (pe_cal C_is_bad_count hr.le pass0 (pa_cons (pv 3) (pa_cons (pv 1) pa_nil))) (by intro _; rfl)))
  (pss_one ps_never) pss_nil)
  (pss_cons (ps_fldU (K := K) (pv 0) (pv 1) rfl)
  (pss_cons (ps_fldU (K := K) (pv 0) (pv 2) rfl)
  (pss_cons (ps_fldU (K := K) (pv 0) (pv 3) rfl)
  (pss_cons (ps_fldU (K := K) (pv 0) pe_int rfl)
  (pss_cons (ps_fldU (K := K) (pv 0) pe_int rfl)
  (pss_cons (ps_fldU (K := K) (pv 0) (pe_lc (own := [("_", 4)]) rfl sc_Chip____init__.nd (pi_range1 rfl T.f_range (pa_cons (pv 1) pa_nil)) (blkOk_by (own := [("_", 4)]) (N := ["self", "blocks", "pages", "bad", "_"]) (sc := defScope s_Chip____init__) (by decide +kernel)) (fun _ _ _ _ _ => (pg_name (i := 4) sc_Chip____init__.nd rfl (by first | exact Or.inl rfl | exact Or.inr rfl))) (fun _ _ _ _ _ => pts_nil) (fun _ _ _ _ _ => (pe_cal C__clean_block hr.le pass0 (pa_cons (pv 2) pa_nil)))) rfl)
  (pss_cons (ps_fldU (K := K) (pv 0) (pe_op (u_mul (K := K)) (pe_lst (pa_cons pe_int pa_nil)) (pv 1)) rfl)
  (pss_cons (ps_fldU (K := K) (pv 0) (pe_op (u_mul (K := K)) (pe_lst (pa_cons pe_bl pa_nil)) (pv 1)) rfl)
  (pss_cons (ps_fldU (K := K) (pv 0) pe_dnewK rfl)
  (pss_cons (ps_fldU (K := K) (pv 0) pe_dnewK rfl)
  (pss_one (ps_fldU (K := K) (pv 0) pe_dnewK rfl)))))))))))))))), ?_⟩)
  · obtain ⟨x, dx, n, pg, bd, rfl, _⟩ := h
    rfl
  · obtain ⟨x, dx, n, pg, bd, rfl, hx, n1, n2, g1, g2, b1, q⟩ := h
    refine ⟨_, rfl, (n : Int), rfl, by omega, by omega, true, rfl, iteF ?_⟩
    refine ⟨_, rfl, (pg : Int), rfl, by omega, by omega, true, rfl, iteF ?_⟩
    refine ⟨_, rfl, _, rfl, (bd : Int), (n : Int), rfl, by omega, by omega, true, rfl, iteF ?_⟩
    -- the numbers
    refine ⟨_, rfl, _, rfl, x, _, dx, _, rfl, hx, TC.cls, TC.no _ (by simp), by show 0 < 1000; decide, ?_⟩
    rw [putF_new (f := "blocks") rfl]
    have e1 : Exb x H (upd H x (HO.ins (Ch K) dx (([] : List (Str × V)) ++ [(("blocks" : Str), V.int (n : Int))]))) := Exb.upd
    have h1 := upd_same (H := H) (a := x) (o := HO.ins (Ch K) dx (([] : List (Str × V)) ++ [(("blocks" : Str), V.int (n : Int))]))
    generalize upd H x (HO.ins (Ch K) dx (([] : List (Str × V)) ++ [(("blocks" : Str), V.int (n : Int))])) = H1 at e1 h1 ⊢
    refine ⟨_, rfl, _, rfl, x, _, dx, _, rfl, h1, TC.cls, TC.no _ (by simp), by show 1 < 1000; decide, ?_⟩
    rw [putF_new (f := "pages") rfl]
    have e2 : Exb x H1 (upd H1 x (HO.ins (Ch K) dx (([] : List (Str × V)) ++ [(("blocks" : Str), V.int (n : Int))] ++ [(("pages" : Str), V.int (pg : Int))]))) := Exb.upd
    have h2 := upd_same (H := H1) (a := x) (o := HO.ins (Ch K) dx (([] : List (Str × V)) ++ [(("blocks" : Str), V.int (n : Int))] ++ [(("pages" : Str), V.int (pg : Int))]))
    generalize upd H1 x (HO.ins (Ch K) dx (([] : List (Str × V)) ++ [(("blocks" : Str), V.int (n : Int))] ++ [(("pages" : Str), V.int (pg : Int))])) = H2 at e2 h2 ⊢
    refine ⟨_, rfl, _, rfl, x, _, dx, _, rfl, h2, TC.cls, TC.no _ (by simp), by show 2 < 1000; decide, ?_⟩
    rw [putF_new (f := "bad") rfl]
    have e3 : Exb x H2 (upd H2 x (HO.ins (Ch K) dx (([] : List (Str × V)) ++ [(("blocks" : Str), V.int (n : Int))] ++ [(("pages" : Str), V.int (pg : Int))] ++ [(("bad" : Str), V.int (bd : Int))]))) := Exb.upd
    have h3 := upd_same (H := H2) (a := x) (o := HO.ins (Ch K) dx (([] : List (Str × V)) ++ [(("blocks" : Str), V.int (n : Int))] ++ [(("pages" : Str), V.int (pg : Int))] ++ [(("bad" : Str), V.int (bd : Int))]))
    generalize upd H2 x (HO.ins (Ch K) dx (([] : List (Str × V)) ++ [(("blocks" : Str), V.int (n : Int))] ++ [(("pages" : Str), V.int (pg : Int))] ++ [(("bad" : Str), V.int (bd : Int))])) = H3 at e3 h3 ⊢
    refine ⟨_, rfl, x, _, dx, _, rfl, h3, TC.cls, TC.no _ (by simp), by show 3 < 1000; decide, ?_⟩
    rw [putF_new (f := "ops") rfl]
    have e4 : Exb x H3 (upd H3 x (HO.ins (Ch K) dx (([] : List (Str × V)) ++ [(("blocks" : Str), V.int (n : Int))] ++ [(("pages" : Str), V.int (pg : Int))] ++ [(("bad" : Str), V.int (bd : Int))] ++ [(("ops" : Str), V.int 0)]))) := Exb.upd
    have h4 := upd_same (H := H3) (a := x) (o := HO.ins (Ch K) dx (([] : List (Str × V)) ++ [(("blocks" : Str), V.int (n : Int))] ++ [(("pages" : Str), V.int (pg : Int))] ++ [(("bad" : Str), V.int (bd : Int))] ++ [(("ops" : Str), V.int 0)]))
    generalize upd H3 x (HO.ins (Ch K) dx (([] : List (Str × V)) ++ [(("blocks" : Str), V.int (n : Int))] ++ [(("pages" : Str), V.int (pg : Int))] ++ [(("bad" : Str), V.int (bd : Int))] ++ [(("ops" : Str), V.int 0)])) = H4 at e4 h4 ⊢
    refine ⟨_, rfl, x, _, dx, _, rfl, h4, TC.cls, TC.no _ (by simp), by show 4 < 1000; decide, ?_⟩
    rw [putF_new (f := "cuts") rfl]
    have e5 : Exb x H4 (upd H4 x (HO.ins (Ch K) dx (([] : List (Str × V)) ++ [(("blocks" : Str), V.int (n : Int))] ++ [(("pages" : Str), V.int (pg : Int))] ++ [(("bad" : Str), V.int (bd : Int))] ++ [(("ops" : Str), V.int 0)] ++ [(("cuts" : Str), V.int 0)]))) := Exb.upd
    have h5 := upd_same (H := H4) (a := x) (o := HO.ins (Ch K) dx (([] : List (Str × V)) ++ [(("blocks" : Str), V.int (n : Int))] ++ [(("pages" : Str), V.int (pg : Int))] ++ [(("bad" : Str), V.int (bd : Int))] ++ [(("ops" : Str), V.int 0)] ++ [(("cuts" : Str), V.int 0)]))
    generalize upd H4 x (HO.ins (Ch K) dx (([] : List (Str × V)) ++ [(("blocks" : Str), V.int (n : Int))] ++ [(("pages" : Str), V.int (pg : Int))] ++ [(("bad" : Str), V.int (bd : Int))] ++ [(("ops" : Str), V.int 0)] ++ [(("cuts" : Str), V.int 0)])) = H5 at e5 h5 ⊢
    have E5 := (((e1.trans e2).trans e3).trans e4).trans e5
    clear e1 e2 e3 e4 e5 h1 h2 h3 h4 hx
    -- the octets
    refine ⟨_, rfl, (n : Int), rfl, by omega, by omega, fun D hD => ?_⟩
    have nn : ((n : Int)).toNat = n := by omega
    rw [nn]
    have nD : D ≠ x := fun z => by rw [z, h5] at hD; cases hD
    refine lc_range (lo := 0) (n := n) (fun i H' => i ≤ n ∧ Evl.Ex H5 H' ∧ ∃ rs : List Addr, rs.length = i ∧ H' D = some (.lst (rs.map V.ref)) ∧ ∀ r ∈ rs, r ≠ D ∧ H5 r = none ∧ H' r = some (.tup (IV (List.replicate (31 * pg) 255)))) ⟨by omega, Evl.Ex.new hD, [], rfl, upd_same, fun _ h => (by cases h)⟩ ?_ ?_
    · rintro i H6 hi ⟨_, e6, rs, lr, hrs, ar⟩
      refine ⟨rfl, _, rfl, pg, rfl, g1, g2, fun r H7 nr e7 hr7 => ?_⟩
      have hD7 := e7 _ _ hrs
      have rD : r ≠ D := fun z => by rw [z, hrs] at nr; cases nr
      refine ⟨_, hD7, by rw [List.length_map, lr]; exact Evl.sz_lt (by omega), by omega, Evl.Ex.mut (e6.trans e7) hD, rs ++ [r], by simp [lr], by rw [upd_same, List.map_append]; rfl, ?_⟩
      intro q' hq'
      rcases List.mem_append.mp hq' with h | h
      · obtain ⟨a1, a2, a3⟩ := ar q' h
        exact ⟨a1, a2, by rw [upd_ne a1]; exact e7 _ _ a3⟩
      · have : q' = r := by simpa using h
        subst this
        exact ⟨rD, Evl.fresh_back e6 nr, by rw [upd_ne rD]; exact hr7⟩
    rintro H6 ⟨_, e6, rs, lr, hrs, ar⟩
    have xD : D ≠ x := nD
    refine ⟨_, rfl, x, _, dx, _, rfl, e6 _ _ h5, TC.cls, TC.no _ (by simp), by show 5 < 1000; decide, ?_⟩
    rw [putF_new (f := "_octets") rfl]
    have f7 : Exb x H6 (upd H6 x (HO.ins (Ch K) dx (([] : List (Str × V)) ++ [(("blocks" : Str), V.int (n : Int))] ++ [(("pages" : Str), V.int (pg : Int))] ++ [(("bad" : Str), V.int (bd : Int))] ++ [(("ops" : Str), V.int 0)] ++ [(("cuts" : Str), V.int 0)] ++ [(("_octets" : Str), V.ref D)]))) := Exb.upd
    have h7 := upd_same (H := H6) (a := x) (o := HO.ins (Ch K) dx (([] : List (Str × V)) ++ [(("blocks" : Str), V.int (n : Int))] ++ [(("pages" : Str), V.int (pg : Int))] ++ [(("bad" : Str), V.int (bd : Int))] ++ [(("ops" : Str), V.int 0)] ++ [(("cuts" : Str), V.int 0)] ++ [(("_octets" : Str), V.ref D)]))
    generalize upd H6 x (HO.ins (Ch K) dx (([] : List (Str × V)) ++ [(("blocks" : Str), V.int (n : Int))] ++ [(("pages" : Str), V.int (pg : Int))] ++ [(("bad" : Str), V.int (bd : Int))] ++ [(("ops" : Str), V.int 0)] ++ [(("cuts" : Str), V.int 0)] ++ [(("_octets" : Str), V.ref D)])) = H7 at f7 h7 ⊢
    have E7 := (E5.trans (Exb.of e6)).trans f7
    have hD7 := f7 D _ nD hrs
    have fD : H D = none := Exb.fresh E5 hD nD
    -- the erases
    refine ⟨by show 1 ≤ sizeLine; decide, fun l0 n0 => ⟨_, rfl, repV upd_same (by omega) fun l1 n1 => ?_⟩⟩
    have x0 := Evl.Ex.new (o := .lst [V.int 0]) n0
    have x1 := Evl.Ex.new (o := .lst (List.replicate n (V.int 0))) n1
    have g7 := Evl.fresh_back x0 n1
    have nl1 : l1 ≠ x := fun z => by rw [z, h7] at g7; cases g7
    have Dl1 : D ≠ l1 := fun z => by rw [← z, hD7] at g7; cases g7
    have k1 := upd_same (H := upd H7 l0 (.lst [V.int 0])) (a := l1) (o := .lst (List.replicate n (V.int 0)))
    have X1 := x0.trans x1
    have h7' := X1 _ _ h7
    have hD8 := X1 _ _ hD7
    generalize upd (upd H7 l0 (.lst [V.int 0])) l1 (.lst (List.replicate n (V.int 0))) = H8 at k1 X1 h7' hD8 ⊢
    refine ⟨_, rfl, x, _, dx, _, rfl, h7', TC.cls, TC.no _ (by simp), by show 6 < 1000; decide, ?_⟩
    rw [putF_new (f := "_erased") rfl]
    have f9 : Exb x H8 (upd H8 x (HO.ins (Ch K) dx (([] : List (Str × V)) ++ [(("blocks" : Str), V.int (n : Int))] ++ [(("pages" : Str), V.int (pg : Int))] ++ [(("bad" : Str), V.int (bd : Int))] ++ [(("ops" : Str), V.int 0)] ++ [(("cuts" : Str), V.int 0)] ++ [(("_octets" : Str), V.ref D)] ++ [(("_erased" : Str), V.ref l1)]))) := Exb.upd
    have h9 := upd_same (H := H8) (a := x) (o := HO.ins (Ch K) dx (([] : List (Str × V)) ++ [(("blocks" : Str), V.int (n : Int))] ++ [(("pages" : Str), V.int (pg : Int))] ++ [(("bad" : Str), V.int (bd : Int))] ++ [(("ops" : Str), V.int 0)] ++ [(("cuts" : Str), V.int 0)] ++ [(("_octets" : Str), V.ref D)] ++ [(("_erased" : Str), V.ref l1)]))
    generalize upd H8 x (HO.ins (Ch K) dx (([] : List (Str × V)) ++ [(("blocks" : Str), V.int (n : Int))] ++ [(("pages" : Str), V.int (pg : Int))] ++ [(("bad" : Str), V.int (bd : Int))] ++ [(("ops" : Str), V.int 0)] ++ [(("cuts" : Str), V.int 0)] ++ [(("_octets" : Str), V.ref D)] ++ [(("_erased" : Str), V.ref l1)])) = H9 at f9 h9 ⊢
    have E9 := (E7.trans (Exb.of X1)).trans f9
    have hD9 := f9 D _ nD hD8
    have k9 := f9 l1 _ nl1 k1
    have fl1 : H l1 = none := Exb.fresh E7 g7 nl1
    -- the flags
    refine ⟨by show 1 ≤ sizeLine; decide, fun l2 n2 => ⟨_, rfl, repV upd_same (by omega) fun l3 n3 => ?_⟩⟩
    have x2 := Evl.Ex.new (o := .lst [V.bl false]) n2
    have x3 := Evl.Ex.new (o := .lst (List.replicate n (V.bl false))) n3
    have g9 := Evl.fresh_back x2 n3
    have nl3 : l3 ≠ x := fun z => by rw [z, h9] at g9; cases g9
    have Dl3 : D ≠ l3 := fun z => by rw [← z, hD9] at g9; cases g9
    have l13 : l1 ≠ l3 := fun z => by rw [← z, k9] at g9; cases g9
    have k3 := upd_same (H := upd H9 l2 (.lst [V.bl false])) (a := l3) (o := .lst (List.replicate n (V.bl false)))
    have X3 := x2.trans x3
    have h9' := X3 _ _ h9
    have hD10 := X3 _ _ hD9
    have k10 := X3 _ _ k9
    generalize upd (upd H9 l2 (.lst [V.bl false])) l3 (.lst (List.replicate n (V.bl false))) = H10 at k3 X3 h9' hD10 k10 ⊢
    refine ⟨_, rfl, x, _, dx, _, rfl, h9', TC.cls, TC.no _ (by simp), by show 7 < 1000; decide, ?_⟩
    rw [putF_new (f := "_turned_bad") rfl]
    have f11 : Exb x H10 (upd H10 x (HO.ins (Ch K) dx (([] : List (Str × V)) ++ [(("blocks" : Str), V.int (n : Int))] ++ [(("pages" : Str), V.int (pg : Int))] ++ [(("bad" : Str), V.int (bd : Int))] ++ [(("ops" : Str), V.int 0)] ++ [(("cuts" : Str), V.int 0)] ++ [(("_octets" : Str), V.ref D)] ++ [(("_erased" : Str), V.ref l1)] ++ [(("_turned_bad" : Str), V.ref l3)]))) := Exb.upd
    have h11 := upd_same (H := H10) (a := x) (o := HO.ins (Ch K) dx (([] : List (Str × V)) ++ [(("blocks" : Str), V.int (n : Int))] ++ [(("pages" : Str), V.int (pg : Int))] ++ [(("bad" : Str), V.int (bd : Int))] ++ [(("ops" : Str), V.int 0)] ++ [(("cuts" : Str), V.int 0)] ++ [(("_octets" : Str), V.ref D)] ++ [(("_erased" : Str), V.ref l1)] ++ [(("_turned_bad" : Str), V.ref l3)]))
    generalize upd H10 x (HO.ins (Ch K) dx (([] : List (Str × V)) ++ [(("blocks" : Str), V.int (n : Int))] ++ [(("pages" : Str), V.int (pg : Int))] ++ [(("bad" : Str), V.int (bd : Int))] ++ [(("ops" : Str), V.int 0)] ++ [(("cuts" : Str), V.int 0)] ++ [(("_octets" : Str), V.ref D)] ++ [(("_erased" : Str), V.ref l1)] ++ [(("_turned_bad" : Str), V.ref l3)])) = H11 at f11 h11 ⊢
    have E11 := (E9.trans (Exb.of X3)).trans f11
    have hD11 := f11 D _ nD hD10
    have k11 := f11 l1 _ nl1 k10
    have j11 := f11 l3 _ nl3 k3
    have fl3 : H l3 = none := Exb.fresh E9 g9 nl3
    -- the plans
    refine fun p1 np1 => ?_
    have y1 := Evl.Ex.new (o := .dK []) np1
    have m1 := upd_same (H := H11) (a := p1) (o := .dK [])
    have np1x : p1 ≠ x := fun z => by rw [z, h11] at np1; cases np1
    have h11' := y1 _ _ h11
    have hD12 := y1 _ _ hD11
    have k12 := y1 _ _ k11
    have j12 := y1 _ _ j11
    have fp1 : H p1 = none := Exb.fresh E11 np1 np1x
    generalize upd H11 p1 (.dK []) = H12 at y1 m1 h11' hD12 k12 j12 ⊢
    refine ⟨_, rfl, x, _, dx, _, rfl, h11', TC.cls, TC.no _ (by simp), by show 8 < 1000; decide, ?_⟩
    rw [putF_new (f := "_cut_plans") rfl]
    have f13 : Exb x H12 (upd H12 x (HO.ins (Ch K) dx (([] : List (Str × V)) ++ [(("blocks" : Str), V.int (n : Int))] ++ [(("pages" : Str), V.int (pg : Int))] ++ [(("bad" : Str), V.int (bd : Int))] ++ [(("ops" : Str), V.int 0)] ++ [(("cuts" : Str), V.int 0)] ++ [(("_octets" : Str), V.ref D)] ++ [(("_erased" : Str), V.ref l1)] ++ [(("_turned_bad" : Str), V.ref l3)] ++ [(("_cut_plans" : Str), V.ref p1)]))) := Exb.upd
    have h13 := upd_same (H := H12) (a := x) (o := HO.ins (Ch K) dx (([] : List (Str × V)) ++ [(("blocks" : Str), V.int (n : Int))] ++ [(("pages" : Str), V.int (pg : Int))] ++ [(("bad" : Str), V.int (bd : Int))] ++ [(("ops" : Str), V.int 0)] ++ [(("cuts" : Str), V.int 0)] ++ [(("_octets" : Str), V.ref D)] ++ [(("_erased" : Str), V.ref l1)] ++ [(("_turned_bad" : Str), V.ref l3)] ++ [(("_cut_plans" : Str), V.ref p1)]))
    generalize upd H12 x (HO.ins (Ch K) dx (([] : List (Str × V)) ++ [(("blocks" : Str), V.int (n : Int))] ++ [(("pages" : Str), V.int (pg : Int))] ++ [(("bad" : Str), V.int (bd : Int))] ++ [(("ops" : Str), V.int 0)] ++ [(("cuts" : Str), V.int 0)] ++ [(("_octets" : Str), V.ref D)] ++ [(("_erased" : Str), V.ref l1)] ++ [(("_turned_bad" : Str), V.ref l3)] ++ [(("_cut_plans" : Str), V.ref p1)])) = H13 at f13 h13 ⊢
    have E13 := (E11.trans (Exb.of y1)).trans f13
    refine fun p2 np2 => ?_
    have y2 := Evl.Ex.new (o := .dK []) np2
    have m2 := upd_same (H := H13) (a := p2) (o := .dK [])
    have np2x : p2 ≠ x := fun z => by rw [z, h13] at np2; cases np2
    have m1' := f13 p1 _ np1x m1
    have p12 : p1 ≠ p2 := fun z => by rw [← z, m1'] at np2; cases np2
    have h13' := y2 _ _ h13
    have fp2 : H p2 = none := Exb.fresh E13 np2 np2x
    have G := (f13.trans (Exb.of y2))
    have hD14 := G D _ nD hD12
    have k14 := G l1 _ nl1 k12
    have j14 := G l3 _ nl3 j12
    have m14 := y2 _ _ m1'
    have E14 := E13.trans (Exb.of y2)
    have ar14 : ∀ r ∈ rs, r ≠ x ∧ upd H13 p2 (.dK []) r = some (.tup (IV (List.replicate (31 * pg) 255))) := by
      intro r hr
      obtain ⟨a1, a2, a3⟩ := ar r hr
      have rx : r ≠ x := fun z => by rw [z, h5] at a2; cases a2
      exact ⟨rx, ((((f7.trans (Exb.of X1)).trans f9).trans (Exb.of X3)).trans ((f11.trans (Exb.of y1)).trans G)) r _ rx a3⟩
    generalize upd H13 p2 (.dK []) = H14 at y2 m2 h13' G hD14 k14 j14 m14 E14 ar14 ⊢
    refine ⟨_, rfl, x, _, dx, _, rfl, h13', TC.cls, TC.no _ (by simp), by show 9 < 1000; decide, ?_⟩
    rw [putF_new (f := "_fail_plans") rfl]
    have f15 : Exb x H14 (upd H14 x (HO.ins (Ch K) dx (([] : List (Str × V)) ++ [(("blocks" : Str), V.int (n : Int))] ++ [(("pages" : Str), V.int (pg : Int))] ++ [(("bad" : Str), V.int (bd : Int))] ++ [(("ops" : Str), V.int 0)] ++ [(("cuts" : Str), V.int 0)] ++ [(("_octets" : Str), V.ref D)] ++ [(("_erased" : Str), V.ref l1)] ++ [(("_turned_bad" : Str), V.ref l3)] ++ [(("_cut_plans" : Str), V.ref p1)] ++ [(("_fail_plans" : Str), V.ref p2)]))) := Exb.upd
    have h15 := upd_same (H := H14) (a := x) (o := HO.ins (Ch K) dx (([] : List (Str × V)) ++ [(("blocks" : Str), V.int (n : Int))] ++ [(("pages" : Str), V.int (pg : Int))] ++ [(("bad" : Str), V.int (bd : Int))] ++ [(("ops" : Str), V.int 0)] ++ [(("cuts" : Str), V.int 0)] ++ [(("_octets" : Str), V.ref D)] ++ [(("_erased" : Str), V.ref l1)] ++ [(("_turned_bad" : Str), V.ref l3)] ++ [(("_cut_plans" : Str), V.ref p1)] ++ [(("_fail_plans" : Str), V.ref p2)]))
    generalize upd H14 x (HO.ins (Ch K) dx (([] : List (Str × V)) ++ [(("blocks" : Str), V.int (n : Int))] ++ [(("pages" : Str), V.int (pg : Int))] ++ [(("bad" : Str), V.int (bd : Int))] ++ [(("ops" : Str), V.int 0)] ++ [(("cuts" : Str), V.int 0)] ++ [(("_octets" : Str), V.ref D)] ++ [(("_erased" : Str), V.ref l1)] ++ [(("_turned_bad" : Str), V.ref l3)] ++ [(("_cut_plans" : Str), V.ref p1)] ++ [(("_fail_plans" : Str), V.ref p2)])) = H15 at f15 h15 ⊢
    have E15 := E14.trans f15
    have hD15 := f15 D _ nD hD14
    have k15 := f15 l1 _ nl1 k14
    have j15 := f15 l3 _ nl3 j14
    have m15 := f15 p1 _ np1x m14
    have m25 := f15 p2 _ np2x m2
    refine fun p3 np3 => ?_
    have y3 := Evl.Ex.new (o := .dK []) np3
    have m3 := upd_same (H := H15) (a := p3) (o := .dK [])
    have np3x : p3 ≠ x := fun z => by rw [z, h15] at np3; cases np3
    have p13 : p1 ≠ p3 := fun z => by rw [← z, m15] at np3; cases np3
    have p23 : p2 ≠ p3 := fun z => by rw [← z, m25] at np3; cases np3
    have h15' := y3 _ _ h15
    have fp3 : H p3 = none := Exb.fresh E15 np3 np3x
    have hD16 := y3 _ _ hD15
    have k16 := y3 _ _ k15
    have j16 := y3 _ _ j15
    have m16 := y3 _ _ m15
    have m26 := y3 _ _ m25
    have E16 := E15.trans (Exb.of y3)
    have ar16 : ∀ r ∈ rs, r ≠ x ∧ upd H15 p3 (.dK []) r = some (.tup (IV (List.replicate (31 * pg) 255))) := fun r hr => ⟨(ar14 r hr).1, y3 _ _ (f15 r _ (ar14 r hr).1 (ar14 r hr).2)⟩
    generalize upd H15 p3 (.dK []) = H16 at y3 m3 h15' hD16 k16 j16 m16 m26 E16 ar16 ⊢
    refine ⟨_, rfl, x, _, dx, _, rfl, h15', TC.cls, TC.no _ (by simp), by show 10 < 1000; decide, ?_⟩
    rw [putF_new (f := "_reads") rfl]
    have f17 : Exb x H16 (upd H16 x (HO.ins (Ch K) dx (([] : List (Str × V)) ++ [(("blocks" : Str), V.int (n : Int))] ++ [(("pages" : Str), V.int (pg : Int))] ++ [(("bad" : Str), V.int (bd : Int))] ++ [(("ops" : Str), V.int 0)] ++ [(("cuts" : Str), V.int 0)] ++ [(("_octets" : Str), V.ref D)] ++ [(("_erased" : Str), V.ref l1)] ++ [(("_turned_bad" : Str), V.ref l3)] ++ [(("_cut_plans" : Str), V.ref p1)] ++ [(("_fail_plans" : Str), V.ref p2)] ++ [(("_reads" : Str), V.ref p3)]))) := Exb.upd
    have h17 := upd_same (H := H16) (a := x) (o := HO.ins (Ch K) dx (([] : List (Str × V)) ++ [(("blocks" : Str), V.int (n : Int))] ++ [(("pages" : Str), V.int (pg : Int))] ++ [(("bad" : Str), V.int (bd : Int))] ++ [(("ops" : Str), V.int 0)] ++ [(("cuts" : Str), V.int 0)] ++ [(("_octets" : Str), V.ref D)] ++ [(("_erased" : Str), V.ref l1)] ++ [(("_turned_bad" : Str), V.ref l3)] ++ [(("_cut_plans" : Str), V.ref p1)] ++ [(("_fail_plans" : Str), V.ref p2)] ++ [(("_reads" : Str), V.ref p3)]))
    generalize upd H16 x (HO.ins (Ch K) dx (([] : List (Str × V)) ++ [(("blocks" : Str), V.int (n : Int))] ++ [(("pages" : Str), V.int (pg : Int))] ++ [(("bad" : Str), V.int (bd : Int))] ++ [(("ops" : Str), V.int 0)] ++ [(("cuts" : Str), V.int 0)] ++ [(("_octets" : Str), V.ref D)] ++ [(("_erased" : Str), V.ref l1)] ++ [(("_turned_bad" : Str), V.ref l3)] ++ [(("_cut_plans" : Str), V.ref p1)] ++ [(("_fail_plans" : Str), V.ref p2)] ++ [(("_reads" : Str), V.ref p3)])) = H17 at f17 h17 ⊢
    have bv : List.replicate n (V.bl false) = BV (List.replicate n false) := List.map_replicate.symm
    have iv0 : List.replicate n (V.int 0) = IV (List.replicate n 0) := List.map_replicate.symm
    rw [bv] at j16
    rw [iv0] at k16
    exact q ⟨n, pg, bd, 0, 0, D, l1, l3, p1, p2, p3⟩ rs H17 rfl rfl rfl rfl rfl (E16.trans f17) h17 lr (fun r hr => f17 r _ (ar16 r hr).1 (ar16 r hr).2) (f17 D _ nD hD16) (f17 l1 _ nl1 k16) (f17 l3 _ nl3 j16) (f17 p1 _ np1x m16) (f17 p2 _ np2x m26) (f17 p3 _ np3x m3) Dl1 Dl3 l13 p12 p13 p23 fD fl1 fl3 fp1 fp2 fp3
end
end K6
namespace K6
open PySem PySem.Spec PyProof.Rows L2 VB BM
section
variable {P : Program} {w : World} {K : PySem.W.Frag} {mg : Str → Option Value} {base : Heap} {f : Addr} {fd : FuncData}
def spChkPl (K : PySem.W.Frag) : Sp := fun vs H Q _ => ∃ (a : Addr) (c : Cp) (o m : Int), vs = [.ref a, .int o, .int m] ∧ InsAt K H a c ∧ c.ops ≤ o ∧ 0 ≤ m ∧ m < MM ∧ Q .non H
theorem ok_check_plan (T : Txt K mg) (TC : TxC K) (F : FnM K "_check_plan" "Chip._check_plan" s_Chip___check_plan f fd) (C_is_int : Cal P w K mg base CX0 1 "is_int" ["value"] spIsInt) (C_is_mask : Cal P w K mg base CX0 2 "is_mask" ["value"] spIsMask) :
    Fg P w K mg base CX0 3 f fd ["self", "op", "mask"] (spChkPl K) := by
  refine fg_of F sc_Chip___check_plan (fun vs H Q E h => ?_) (fun cdv A outer s H vs Q E hr h => ⟨_, (PSs.nox (pss_cons (ps_if (PW.pt (pw_or (pt_not (pt_tru (K := K) (pe_cal C_is_int hr.le pass0 (pa_cons (pv 1) pa_nil)) (by intro _; rfl))) (pw_or1 (pt_cmpR op_lt (pv 1) (pe_fldU (K := K) (pv 0) rfl) (nomark _)))))
  (pss_one ps_never) pss_nil)
  (pss_one (ps_if (pt_not (pt_tru (K := K) (pe_cal C_is_mask hr.le pass0 (pa_cons (pv 2) pa_nil)) (by intro _; rfl)))
  (pss_one ps_never) pss_nil)))), ?_⟩)
  · obtain ⟨a, c, o, m, rfl, _⟩ := h
    rfl
  · obtain ⟨a, c, o, m, rfl, ⟨dx, ha⟩, h1, h2, h3, q⟩ := h
    refine ⟨_, rfl, o, rfl, true, rfl, iteF ⟨_, rfl, _, rfl, a, _, dx, _, _, rfl, ha, TC.cls, TC.no _ (by simp), rfl, _, _, rfl, rfl, _, rfl, ?_⟩⟩
    rw [decide_eq_false (by omega)]
    exact iteF ⟨_, rfl, m, rfl, h2, h3, true, rfl, iteF q⟩
def spCut (K : PySem.W.Frag) : Sp := fun vs H Q _ => ∃ (a : Addr) (c : Cp) (o m : Int) (ks : List (Key × V)), vs = [.ref a, .int o, .int m] ∧ InsAt K H a c ∧ c.ops ≤ o ∧ 0 ≤ m ∧ m < MM ∧ H c.p = some (.dK ks) ∧ ks.length < 1000 ∧ Q .non (upd H c.p (.dK (putK ks (Sum.inl o : Key) (V.int m))))
theorem ok_cut (T : Txt K mg) (TC : TxC K) (F : FnM K "cut" "Chip.cut" s_Chip__cut f fd) (M_Chip___check_plan : CalM P w K mg base CX0 3 (Ch K) "_check_plan" ["self", "op", "mask"] (spChkPl K)) :
    Fg P w K mg base CX0 4 f fd ["self", "op", "mask"] (spCut K) := by
  refine fg_of F sc_Chip__cut (fun vs H Q E h => ?_) (fun cdv A outer s H vs Q E hr h => ⟨_, (PSs.nox (pss_cons (ps_expr (pe_calM M_Chip___check_plan hr.le pass0 (pv 0) (pa_cons (pv 1) (pa_cons (pv 2) pa_nil))))
  (pss_one (ps_asg (pv 2) (pg_sub (pe_fldU (K := K) (pv 0) rfl) (pv 1) (L2.set_dict (Nat.lt_of_le_of_lt (Nat.add_le_add_left (by decide : 1 ≤ 64) _) hr.rm.units))))))), ?_⟩)
  · obtain ⟨a, c, o, m, ks, rfl, _⟩ := h
    rfl
  · obtain ⟨a, c, o, m, ks, rfl, ⟨dx, ha⟩, h1, h2, h3, hk, lk, q⟩ := h
    refine ⟨_, rfl, a, dx, _, rfl, ha, rfl, _, rfl, _, rfl, a, c, o, m, rfl, ⟨dx, ha⟩, h1, h2, h3, ?_⟩
    exact ⟨_, rfl, _, rfl, a, _, dx, _, _, rfl, ha, TC.cls, TC.no _ (by simp), rfl, _, rfl, c.p, _, rfl, DPut.k (k := (Sum.inl o : Key)) hk (Evl.sz_lt (by omega)), q⟩
def spFail (K : PySem.W.Frag) : Sp := fun vs H Q _ => ∃ (a : Addr) (c : Cp) (o m : Int) (ks : List (Key × V)), vs = [.ref a, .int o, .int m] ∧ InsAt K H a c ∧ c.ops ≤ o ∧ 0 ≤ m ∧ m < MM ∧ H c.q = some (.dK ks) ∧ ks.length < 1000 ∧ Q .non (upd H c.q (.dK (putK ks (Sum.inl o : Key) (V.int m))))
theorem ok_fail (T : Txt K mg) (TC : TxC K) (F : FnM K "fail" "Chip.fail" s_Chip__fail f fd) (M_Chip___check_plan : CalM P w K mg base CX0 3 (Ch K) "_check_plan" ["self", "op", "mask"] (spChkPl K)) :
    Fg P w K mg base CX0 4 f fd ["self", "op", "mask"] (spFail K) := by
  refine fg_of F sc_Chip__fail (fun vs H Q E h => ?_) (fun cdv A outer s H vs Q E hr h => ⟨_, (PSs.nox (pss_cons (ps_expr (pe_calM M_Chip___check_plan hr.le pass0 (pv 0) (pa_cons (pv 1) (pa_cons (pv 2) pa_nil))))
  (pss_one (ps_asg (pv 2) (pg_sub (pe_fldU (K := K) (pv 0) rfl) (pv 1) (L2.set_dict (Nat.lt_of_le_of_lt (Nat.add_le_add_left (by decide : 1 ≤ 64) _) hr.rm.units))))))), ?_⟩)
  · obtain ⟨a, c, o, m, ks, rfl, _⟩ := h
    rfl
  · obtain ⟨a, c, o, m, ks, rfl, ⟨dx, ha⟩, h1, h2, h3, hk, lk, q⟩ := h
    refine ⟨_, rfl, a, dx, _, rfl, ha, rfl, _, rfl, _, rfl, a, c, o, m, rfl, ⟨dx, ha⟩, h1, h2, h3, ?_⟩
    exact ⟨_, rfl, _, rfl, a, _, dx, _, _, rfl, ha, TC.cls, TC.no _ (by simp), rfl, _, rfl, c.q, _, rfl, DPut.k (k := (Sum.inl o : Key)) hk (Evl.sz_lt (by omega)), q⟩
/-- the bad ones, in order -/
def badL (tb : List Bool) : List Int := ((List.range tb.length).filter fun i => tb.getD i false).map fun (i : Nat) => (i : Int)
def spBadB (K : PySem.W.Frag) : Sp := fun vs H Q _ => ∃ (a : Addr) (c : Cp) (tb : List Bool), vs = [.ref a] ∧ InsAt K H a c ∧ c.blocks = tb.length ∧ tb.length ≤ 24 ∧ H c.t = some (.lst (BV tb)) ∧ RL (IV (badL tb)) H Q
theorem ok_bad_blocks (T : Txt K mg) (TC : TxC K) (F : FnM K "bad_blocks" "Chip.bad_blocks" s_Chip__bad_blocks f fd) : Fg P w K mg base CX0 1 f fd ["self"] (spBadB K) := by
  refine fg_of F sc_Chip__bad_blocks (fun vs H Q E h => ?_) (fun cdv A outer s H vs Q E hr h => ⟨_, (PSs.nox (pss_one (ps_ret (pe_lc (own := [("block", 1)]) rfl sc_Chip__bad_blocks.nd (pi_range1 rfl T.f_range (pa_cons (pe_fldU (K := K) (pv 0) rfl) pa_nil)) (blkOk_by (own := [("block", 1)]) (N := ["self", "block"]) (sc := defScope s_Chip__bad_blocks) (by decide +kernel)) (fun _ _ _ _ _ => (pg_name (i := 1) sc_Chip__bad_blocks.nd rfl (by first | exact Or.inl rfl | exact Or.inr rfl))) (fun _ _ _ _ _ => (pts_one (pt_tru (K := K) (pe_ix (u_ix (K := K)) (pe_fldU (K := K) (pv 0) rfl) (pv 1) (fun _ _ => rfl)) (by intro _; rfl)))) (fun _ _ _ _ _ => (pv 1)))))), ?_⟩)
  · obtain ⟨a, c, tb, rfl, _⟩ := h
    rfl
  · obtain ⟨a, c, tb, rfl, ⟨dx, ha⟩, hb, hl, ht, q⟩ := h
    refine ⟨_, rfl, a, _, dx, _, _, rfl, ha, TC.cls, TC.no _ (by simp), rfl, c.blocks, rfl, by omega, by omega, fun D hD => ?_⟩
    have nn : c.blocks.toNat = tb.length := by omega
    rw [nn]
    refine lc_range (lo := 0) (n := tb.length) (fun i H' => i ≤ tb.length ∧ Evl.Ex H H' ∧ H' D = some (.lst (IV (((List.range i).filter fun i => tb.getD i false).map fun (i : Nat) => (i : Int))))) ⟨by omega, Evl.Ex.new hD, upd_same⟩ ?_ ?_
    · rintro i H1 hi ⟨_, e1, h1⟩
      have e0 : (0 : Int) + (i : Int) = (i : Int) := Int.zero_add _
      rw [e0]
      refine ⟨rfl, _, rfl, a, _, dx, _, _, rfl, e1 _ _ ha, TC.cls, TC.no _ (by simp), rfl, _, rfl, Sv.ix (x := .non) (Sv.lst (e1 _ _ ht)) (i := (i : Int)) (bv_at hi) ⟨_, rfl, ?_⟩⟩
      have st : (List.range (i + 1)).filter (fun i => tb.getD i false) = (List.range i).filter (fun i => tb.getD i false) ++ (if tb.getD i false then [i] else []) := by
        rw [List.range_succ, List.filter_append, List.filter_cons, List.filter_nil]
      have ll : ((List.range i).filter fun i => tb.getD i false).length ≤ i := by
        have := List.length_filter_le (fun i => tb.getD i false) (List.range i)
        rw [List.length_range] at this
        exact this
      cases hv : tb.getD i false with
      | true =>
        refine iteT ⟨_, rfl, _, h1, by rw [iv_len, List.length_map]; exact Evl.sz_lt (by omega), by omega, Evl.Ex.mut e1 hD, ?_⟩
        rw [upd_same, st, hv, if_pos rfl, List.map_append, iv_snoc]
        rfl
      | false =>
        refine iteF ⟨by omega, e1, ?_⟩
        rw [st, hv, if_neg (by simp), List.append_nil]
        exact h1
    · rintro H1 ⟨_, e1, h1⟩
      exact q D H1 hD e1 h1
end
end K6
namespace K6
open PySem PySem.Spec PyProof.Rows L2 VB BM
theorem p256 : ∀ i : Nat, i < 9 → (256 : Int) ^ i ≤ 18446744073709551616 := by decide +kernel
theorem and_mod (m : Nat) : Builtin.bitAnd (m : Int) 255 = ((m % 256 : Nat) : Int) := by
  show Builtin.bitAnd (m : Int) ((255 : Nat) : Int) = _
  rw [VB.bitAnd_nn]
  congr 1
  exact Nat.and_two_pow_sub_one_eq_mod m 8
/-- the number that octets tell -/
def numO (os : List Int) : Int := os.foldl (fun n o => n * 256 + o) 0
theorem numO_snoc (os : List Int) (o : Int) : numO (os ++ [o]) = numO os * 256 + o := by
  unfold numO
  rw [List.foldl_append]
  rfl
theorem numO_bound : ∀ (n : Nat) (os : List Int), os.length = n → Oct os → 0 ≤ numO os ∧ numO os < 256 ^ n
  | 0, [], _, _ => by decide
  | 0, _ :: _, h, _ => by cases h
  | n + 1, os, h, oo => by
    obtain ⟨ys, y, rfl⟩ : ∃ ys y, os = ys ++ [y] := by
      have := List.dropLast_concat_getLast (l := os) (by intro z; rw [z] at h; cases h)
      exact ⟨_, _, this.symm⟩
    rw [List.length_append] at h
    have r := numO_bound n ys (by simpa using h) (fun z hz => oo z (List.mem_append_left _ hz))
    have b := oo y (List.mem_append_right _ (by simp))
    rw [numO_snoc, Int.pow_succ]
    omega
section
variable {P : Program} {w : World} {K : PySem.W.Frag} {mg : Str → Option Value} {base : Heap} {f : Addr} {fd : FuncData}
def spNum (K : PySem.W.Frag) : Sp := fun vs H Q _ => ∃ (a : Addr) (os : List Int) (t : Bool), vs = [.ref a] ∧ Sv t K H a (IV os) ∧ Oct os ∧ os.length ≤ 8 ∧ RV (.int (numO os)) H Q
theorem ok_told (T : Txt K mg) (F : FnP K "number_told_by" s_number_told_by f fd) : Fg P w K mg base CX0 1 f fd ["octets"] (spNum K) := by
  refine fg_of F sc_number_told_by (fun vs H Q E h => ?_) (fun cdv A outer s H vs Q E hr h => ⟨_, (PSs.nox (pss_cons (ps_set (i := 1) sc_number_told_by.nd rfl (by first | exact Or.inl rfl | exact Or.inr rfl) pe_int)
  (pss_cons (ps_for PassesOwn.never rfl (pi_seq (K := K) (pv 0)) (pg_name (i := 2) sc_number_told_by.nd rfl (by first | exact Or.inl rfl | exact Or.inr rfl))
  (pss_one (ps_set (i := 1) sc_number_told_by.nd rfl (by first | exact Or.inl rfl | exact Or.inr rfl) (pe_op (u_add (K := K)) (pe_op (u_mul (K := K)) (pv 1) pe_int) (pv 2)))))
  (pss_one (ps_ret (pv 1)))))), ?_⟩)
  · obtain ⟨a, os, t, rfl, _⟩ := h
    rfl
  · obtain ⟨a, os, t, rfl, S, oo, hl, q⟩ := h
    refine seq_var (t := t) rfl S fun J wk => ?_
    rw [iv_len] at wk
    refine for_it wk (fun i σ H' => ∃ v2 : Option V, σ = [some (.ref a), some (.int (numO (os.take i))), v2] ∧ Evl.Ex H H') ⟨_, rfl, Evl.Ex.refl _⟩ (fun i σ H' _ h => S.ex h.choose_spec.2) ?_ ?_
    · rintro i x σ H2 H2' hi ⟨v2, rfl, e2⟩ ⟨rfl, hx⟩
      obtain ⟨o, ho, rfl⟩ := iv_get hx
      have b := numO_bound i (os.take i) (by rw [List.length_take]; omega) (fun z hz => oo z (List.mem_of_mem_take hz))
      have p := p256 i (by omega)
      refine ⟨_, rfl, .inl ⟨_, _, rfl, rfl, mulx_ok (a := 70) (b := 20) (by show _ < 1180591620717411303424; omega) (by decide) (by decide), _, rfl, .inl ⟨_, _, rfl, rfl, some (.int o), ?_, e2⟩⟩⟩
      rw [take_snoc ho, numO_snoc]
      rfl
    · rintro σ H2 ⟨v2, rfl, e2⟩
      rw [List.take_length]
      exact ⟨_, rfl, q _ e2⟩
theorem ok_num (T : Txt K mg) (F : FnP K "number_in" s_number_in f fd) (C__check_octets : Cal P w K mg base CX0 4 "_check_octets" ["octets"] (spChk K)) (C_number_told_by : Cal P w K mg base CX0 1 "number_told_by" ["octets"] (spNum K)) : Fg P w K mg base CX0 5 f fd ["octets"] (spNum K) := by
  refine fg_of F sc_number_in (fun vs H Q E h => ?_) (fun cdv A outer s H vs Q E hr h => ⟨_, (PSs.nox (pss_cons (ps_expr (pe_cal C__check_octets hr.le pass0 (pa_cons (pv 0) pa_nil)))
  (pss_one (ps_ret (pe_cal C_number_told_by hr.le pass0 (pa_cons (pv 0) pa_nil)))))), ?_⟩)
  · obtain ⟨a, os, t, rfl, _⟩ := h
    rfl
  · obtain ⟨a, os, t, rfl, S, oo, hl, q⟩ := h
    refine ⟨_, rfl, a, os, t, rfl, S, oo, by omega, fun H1 e1 => ?_⟩
    exact ⟨_, rfl, a, os, t, rfl, S.ex e1, oo, hl, fun H2 e2 => q H2 (e1.trans e2)⟩
/-- a number in four octets -/
def oct4 (n : Nat) : List Int := [((n / 16777216 % 256 : Nat) : Int), ((n / 65536 % 256 : Nat) : Int), ((n / 256 % 256 : Nat) : Int), ((n % 256 : Nat) : Int)]
def spInO : Sp := fun vs H Q _ => ∃ n : Nat, vs = [.int (n : Int), .int 4] ∧ n < 4294967296 ∧ RT (IV (oct4 n)) H Q
theorem ok_tell (T : Txt K mg) (F : FnP K "octets_telling" s_octets_telling f fd) : Fg P w K mg base CX0 1 f fd ["number", "count"] spInO := by
  refine fg_of F sc_octets_telling (fun vs H Q E h => ?_) (fun cdv A outer s H vs Q E hr h => ⟨_, (PSs.nox (pss_one (ps_ret (pe_callTy (u_tup (K := K)) (by rfl) T.f_tuple (by decide +kernel) (pa_cons (pe_lc (own := [("k", 2)]) rfl sc_octets_telling.nd (pi_revR rfl T.f_reversed (prg_1 rfl T.f_range (pv 1))) (blkOk_by (own := [("k", 2)]) (N := ["number", "count", "k"]) (sc := defScope s_octets_telling) (by decide +kernel)) (fun _ _ _ _ _ => (pg_name (i := 2) sc_octets_telling.nd rfl (by first | exact Or.inl rfl | exact Or.inr rfl))) (fun _ _ _ _ _ => pts_nil) (fun _ _ _ _ _ => (pe_op op_and (pe_op op_shrN (pv 0) (pe_op (u_mul (K := K)) pe_int (pv 2))) pe_int))) pa_nil))))), ?_⟩)
  · obtain ⟨n, rfl, _⟩ := h
    rfl
  · obtain ⟨n, rfl, hn, q⟩ := h
    refine ⟨_, rfl, 4, rfl, by omega, by omega, by omega, by omega, fun D hD => ?_⟩
    refine lc_it (walk_rangeC (lo := 3) (c := -1) (n := 4)) (fun i H' => i ≤ 4 ∧ Evl.Ex H H' ∧ H' D = some (.lst (IV ((oct4 n).take i)))) ⟨by omega, Evl.Ex.new hD, upd_same⟩ (fun _ _ _ _ => trivial) ?_ ?_
    · rintro i x H1 H1' hi ⟨_, e1, h1⟩ ⟨rfl, rfl⟩
      have fin : ∀ (k : Nat) (m : Nat) (y : Int), Builtin.bitAnd ((n : Int) / 2 ^ m) 255 = y → (oct4 n)[k]? = some y → k = i → ∃ acc, H1' D = some (.lst acc) ∧ acc.length < sizeLine ∧ k + 1 ≤ 4 ∧ Evl.Ex H (upd H1' D (.lst (acc ++ [V.int (Builtin.bitAnd ((n : Int) / 2 ^ m) 255)]))) ∧ (upd H1' D (.lst (acc ++ [V.int (Builtin.bitAnd ((n : Int) / 2 ^ m) 255)]))) D = some (.lst (IV ((oct4 n).take (k + 1)))) := by
        intro k m y hy hk e
        subst e
        refine ⟨_, h1, by rw [iv_len, List.length_take]; exact Evl.sz_lt (by omega), by omega, Evl.Ex.mut e1 hD, ?_⟩
        rw [upd_same, hy, take_snoc hk, ← iv_snoc]
      refine ⟨rfl, ?_⟩
      have mx : CMulX 8 (3 + (i : Int) * -1) := mulx_ok (a := 30) (b := 30) (by decide) (by show _ < 1073741824; omega) (by decide)
      have c : i = 0 ∨ i = 1 ∨ i = 2 ∨ i = 3 := by omega
      rcases c with rfl | rfl | rfl | rfl
      · exact ⟨_, rfl, _, rfl, .inl ⟨_, _, rfl, rfl, mx, _, 24, rfl, rfl, _, _, rfl, rfl, fin 0 24 ((n / 16777216 % 256 : Nat) : Int) (and_mod (n / 16777216)) rfl rfl⟩⟩
      · exact ⟨_, rfl, _, rfl, .inl ⟨_, _, rfl, rfl, mx, _, 16, rfl, rfl, _, _, rfl, rfl, fin 1 16 ((n / 65536 % 256 : Nat) : Int) (and_mod (n / 65536)) rfl rfl⟩⟩
      · exact ⟨_, rfl, _, rfl, .inl ⟨_, _, rfl, rfl, mx, _, 8, rfl, rfl, _, _, rfl, rfl, fin 2 8 ((n / 256 % 256 : Nat) : Int) (and_mod (n / 256)) rfl rfl⟩⟩
      · exact ⟨_, rfl, _, rfl, .inl ⟨_, _, rfl, rfl, mx, _, 0, rfl, rfl, _, _, rfl, rfl, fin 3 0 ((n % 256 : Nat) : Int) (by rw [Int.pow_zero, Int.ediv_one]; exact and_mod n) rfl rfl⟩⟩
    · rintro H1 ⟨_, e1, h1⟩
      have e4 : (oct4 n).take 4 = oct4 n := rfl
      rw [e4] at h1
      exact ⟨D, _, rfl, .inl ⟨SqL.of h1, fun l nl => q l _ (Evl.fresh_back e1 nl) (e1.trans (Evl.Ex.new nl)) upd_same⟩⟩
theorem ok_ino (T : Txt K mg) (F : FnP K "in_octets" s_in_octets f fd) (C_is_int : Cal P w K mg base CX0 1 "is_int" ["value"] spIsInt) (C_is_int_from : Cal P w K mg base CX0 2 "is_int_from" ["value", "least", "greatest"] spIntFrom) (C_octets_telling : Cal P w K mg base CX0 1 "octets_telling" ["number", "count"] spInO) : Fg P w K mg base CX0 3 f fd ["number", "count"] spInO := by
  refine fg_of F sc_in_octets (fun vs H Q E h => ?_) (fun cdv A outer s H vs Q E hr h => ⟨_, (PSs.nox (pss_cons (ps_if (pt_not (pt_tru (K := K) (pe_cal C_is_int_from hr.le pass0 (pa_cons (pv 1) (pa_cons pe_int (pa_cons (pe_globI rfl T.g_MOST_OCTETS_OF_A_NUMBER) pa_nil)))) (by intro _; rfl)))
  (pss_one ps_never) pss_nil)
  (pss_cons (ps_if (PW.pt (pw_or (pt_not (pt_tru (K := K) (pe_cal C_is_int hr.le pass0 (pa_cons (pv 0) pa_nil)) (by intro _; rfl))) (pw_or (pt_cmpR op_lt (pv 0) pe_int (nomark _)) (pw_or1 (pt_cmpR op_gt (pe_bits (pv 0)) (pe_op (u_mul (K := K)) pe_int (pv 1)) (nomark _))))))
  (pss_one ps_never) pss_nil)
  (pss_one (ps_ret (pe_cal C_octets_telling hr.le pass0 (pa_cons (pv 0) (pa_cons (pv 1) pa_nil)))))))), ?_⟩)
  · obtain ⟨n, rfl, _⟩ := h
    rfl
  · obtain ⟨n, rfl, hn, q⟩ := h
    refine ⟨_, rfl, 4, 0, 8, rfl, by decide, by decide, true, rfl, iteF ?_⟩
    have hN : ((n : Int)).natAbs < 2 ^ 32 := by
      rw [Int.natAbs_natCast]
      exact hn
    have b := PyProof.Rows.intBits_le hN
    refine ⟨_, rfl, n, rfl, true, rfl, iteF ⟨_, rfl, _, _, rfl, rfl, _, rfl, ?_⟩⟩
    rw [decide_eq_false (by omega)]
    refine iteF ⟨_, rfl, (n : Int), rfl, _, rfl, .inl ⟨_, _, rfl, rfl, mulx_ok (a := 30) (b := 30) (by decide) (by decide) (by decide), _, _, rfl, rfl, _, rfl, ?_⟩⟩
    dsimp only
    rw [decide_eq_false (show ¬ ((8 : Int) * 4 < ((Builtin.Int.intBits (n : Int) : Nat) : Int)) by omega)]
    exact iteF ⟨_, rfl, _, rfl, n, rfl, hn, q⟩
end
end K6
namespace K6
open PySem PySem.Spec PyProof.Rows L2 VB BM
section
variable {P : Program} {w : World} {K : PySem.W.Frag} {mg : Str → Option Value} {base : Heap} {f : Addr} {fd : FuncData}
/-- what a chip is, beside its fields -/
structure CS where
  c : Cp
  rs : List Addr
  os : List (List Int)
  er : List Int
  tb : List Bool
  kp : List (Key × V)
  kq : List (Key × V)
structure ChipAt (K : PySem.W.Frag) (H : Hp) (a dx : Addr) (s : CS) : Prop where
  ins : H a = some (.ins (Ch K) dx s.c.fs)
  o : H s.c.o = some (.lst (s.rs.map V.ref))
  e : H s.c.e = some (.lst (IV s.er))
  t : H s.c.t = some (.lst (BV s.tb))
  p : H s.c.p = some (.dK s.kp)
  q : H s.c.q = some (.dK s.kq)
  tup : ∀ i, i < s.os.length → H (s.rs.getD i 0) = some (.tup (IV (s.os.getD i [])))
  oe : s.c.o ≠ s.c.e
  ot : s.c.o ≠ s.c.t
  et : s.c.e ≠ s.c.t
  pq : s.c.p ≠ s.c.q
  nr : s.rs.length = s.os.length
  ne : s.er.length = s.os.length
  nt : s.tb.length = s.os.length
  nb : s.c.blocks = s.os.length
  b8 : s.os.length ≤ 24
  g8 : 8 ≤ s.c.pages ∧ s.c.pages ≤ 16
  oct : ∀ i, i < s.os.length → Oct (s.os.getD i []) ∧ (s.os.getD i []).length = 31 * s.c.pages.toNat
  rr : H s.c.r = some (.dK []) ∧ s.c.p ≠ s.c.r ∧ s.c.q ≠ s.c.r
theorem put_ops (c : Cp) (n : Int) : putF "ops" (.int n) c.fs = ({ c with ops := n } : Cp).fs := rfl
theorem put_cuts (c : Cp) (n : Int) : putF "cuts" (.int n) c.fs = ({ c with cuts := n } : Cp).fs := rfl
theorem ChipAt.setc {H : Hp} {a dx : Addr} {s : CS} (h : ChipAt K H a dx s) (c' : Cp) (e1 : c'.o = s.c.o) (e2 : c'.e = s.c.e) (e3 : c'.t = s.c.t) (e4 : c'.p = s.c.p) (e5 : c'.q = s.c.q) (e6 : c'.blocks = s.c.blocks) (e7 : c'.pages = s.c.pages) (e8 : c'.r = s.c.r) :
    ChipAt K (upd H a (.ins (Ch K) dx c'.fs)) a dx { s with c := c' } := by
  have nl : ∀ {b : Addr} {xs : List V}, H b = some (.lst xs) → b ≠ a := fun hb z => by rw [z, h.ins] at hb; cases hb
  have nd : ∀ {b : Addr} {xs : List (Key × V)}, H b = some (.dK xs) → b ≠ a := fun hb z => by rw [z, h.ins] at hb; cases hb
  have nt : ∀ {b : Addr} {xs : List V}, H b = some (.tup xs) → b ≠ a := fun hb z => by rw [z, h.ins] at hb; cases hb
  refine ⟨upd_same, ?_, ?_, ?_, ?_, ?_, fun i hi => ?_, ?_, ?_, ?_, ?_, h.nr, h.ne, h.nt, ?_, h.b8, ?_, ?_, ?_, ?_, ?_⟩
  · show upd H a _ c'.o = _
    rw [e1, upd_ne (nl h.o)]
    exact h.o
  · show upd H a _ c'.e = _
    rw [e2, upd_ne (nl h.e)]
    exact h.e
  · show upd H a _ c'.t = _
    rw [e3, upd_ne (nl h.t)]
    exact h.t
  · show upd H a _ c'.p = _
    rw [e4, upd_ne (nd h.p)]
    exact h.p
  · show upd H a _ c'.q = _
    rw [e5, upd_ne (nd h.q)]
    exact h.q
  · rw [upd_ne (nt (h.tup i hi))]
    exact h.tup i hi
  · show c'.o ≠ c'.e
    rw [e1, e2]
    exact h.oe
  · show c'.o ≠ c'.t
    rw [e1, e3]
    exact h.ot
  · show c'.e ≠ c'.t
    rw [e2, e3]
    exact h.et
  · show c'.p ≠ c'.q
    rw [e4, e5]
    exact h.pq
  · show c'.blocks = _
    rw [e6]
    exact h.nb
  · show 8 ≤ c'.pages ∧ c'.pages ≤ 16
    rw [e7]
    exact h.g8
  · show ∀ i, i < s.os.length → Oct (s.os.getD i []) ∧ (s.os.getD i []).length = 31 * c'.pages.toNat
    rw [e7]
    exact h.oct
  · show upd H a _ c'.r = _
    rw [e8, upd_ne (nd h.rr.1)]
    exact h.rr.1
  · show c'.p ≠ c'.r
    rw [e4, e8]
    exact h.rr.2.1
  · show c'.q ≠ c'.r
    rw [e5, e8]
    exact h.rr.2.2
theorem ChipAt.ex {H H' : Hp} {a dx : Addr} {s : CS} (h : ChipAt K H a dx s) (e : Evl.Ex H H') : ChipAt K H' a dx s :=
  ⟨e _ _ h.ins, e _ _ h.o, e _ _ h.e, e _ _ h.t, e _ _ h.p, e _ _ h.q, fun i hi => e _ _ (h.tup i hi), h.oe, h.ot, h.et, h.pq, h.nr, h.ne, h.nt, h.nb, h.b8, h.g8, h.oct, ⟨e _ _ h.rr.1, h.rr.2⟩⟩
theorem ChipAt.setp {H : Hp} {a dx : Addr} {s : CS} (h : ChipAt K H a dx s) (k : List (Key × V)) : ChipAt K (upd H s.c.p (.dK k)) a dx { s with kp := k } := by
  have n : ∀ {b : Addr} {o : HO}, H b = some o → (∀ z, o ≠ .dK z) → b ≠ s.c.p := fun hb d => ne_of hb h.p (d _)
  exact ⟨by rw [upd_ne (n h.ins (fun _ z => by cases z))]; exact h.ins, by rw [upd_ne (n h.o (fun _ z => by cases z))]; exact h.o, by rw [upd_ne (n h.e (fun _ z => by cases z))]; exact h.e, by rw [upd_ne (n h.t (fun _ z => by cases z))]; exact h.t, upd_same,
    by rw [upd_ne (Ne.symm h.pq)]; exact h.q, fun i hi => by rw [upd_ne (n (h.tup i hi) (fun _ z => by cases z))]; exact h.tup i hi, h.oe, h.ot, h.et, h.pq, h.nr, h.ne, h.nt, h.nb, h.b8, h.g8, h.oct, ⟨by rw [upd_ne (Ne.symm h.rr.2.1)]; exact h.rr.1, h.rr.2⟩⟩
theorem ChipAt.setq {H : Hp} {a dx : Addr} {s : CS} (h : ChipAt K H a dx s) (k : List (Key × V)) : ChipAt K (upd H s.c.q (.dK k)) a dx { s with kq := k } := by
  have n : ∀ {b : Addr} {o : HO}, H b = some o → (∀ z, o ≠ .dK z) → b ≠ s.c.q := fun hb d => ne_of hb h.q (d _)
  exact ⟨by rw [upd_ne (n h.ins (fun _ z => by cases z))]; exact h.ins, by rw [upd_ne (n h.o (fun _ z => by cases z))]; exact h.o, by rw [upd_ne (n h.e (fun _ z => by cases z))]; exact h.e, by rw [upd_ne (n h.t (fun _ z => by cases z))]; exact h.t,
    by rw [upd_ne h.pq]; exact h.p, upd_same, fun i hi => by rw [upd_ne (n (h.tup i hi) (fun _ z => by cases z))]; exact h.tup i hi, h.oe, h.ot, h.et, h.pq, h.nr, h.ne, h.nt, h.nb, h.b8, h.g8, h.oct, ⟨by rw [upd_ne (Ne.symm h.rr.2.2)]; exact h.rr.1, h.rr.2⟩⟩
theorem getD_set {α : Type} (xs : List α) (b i : Nat) (y d : α) (h : b < xs.length) : (xs.set b y).getD i d = if i = b then y else xs.getD i d := by
  rw [List.getD_eq_getElem?_getD, List.getD_eq_getElem?_getD, List.getElem?_set]
  by_cases e : b = i
  · subst e
    rw [if_pos rfl, if_pos rfl, if_pos h]
    rfl
  · rw [if_neg e, if_neg (Ne.symm e)]
theorem ChipAt.seto {H : Hp} {a dx : Addr} {s : CS} (h : ChipAt K H a dx s) {b : Nat} (hb : b < s.os.length) {r : Addr} {ys : List Int} (hr : H r = some (.tup (IV ys))) (oy : Oct ys) (ly : ys.length = 31 * s.c.pages.toNat) :
    ChipAt K (upd H s.c.o (.lst ((s.rs.map V.ref).set b (.ref r)))) a dx { s with rs := s.rs.set b r, os := s.os.set b ys } := by
  have nd : ∀ {b : Addr} {o : HO}, H b = some o → (∀ z, o ≠ .lst z) → b ≠ s.c.o := fun hb d => ne_of hb h.o (d _)
  refine ⟨?_, ?_, ?_, ?_, ?_, ?_, fun i hi => ?_, h.oe, h.ot, h.et, h.pq, ?_, ?_, ?_, ?_, ?_, h.g8, fun i hi => ?_, ?_, h.rr.2⟩
  · rw [upd_ne (nd h.ins (fun _ z => by cases z))]
    exact h.ins
  · rw [upd_same]
    show some (HO.lst ((s.rs.map V.ref).set b (.ref r))) = some (HO.lst ((s.rs.set b r).map V.ref))
    rw [List.map_set]
  · rw [upd_ne (Ne.symm h.oe)]
    exact h.e
  · rw [upd_ne (Ne.symm h.ot)]
    exact h.t
  · rw [upd_ne (nd h.p (fun _ z => by cases z))]
    exact h.p
  · rw [upd_ne (nd h.q (fun _ z => by cases z))]
    exact h.q
  · have hi' : i < s.os.length := by
      have : i < (s.os.set b ys).length := hi
      rwa [List.length_set] at this
    show upd H s.c.o _ ((s.rs.set b r).getD i 0) = some (.tup (IV ((s.os.set b ys).getD i [])))
    rw [getD_set _ _ _ _ _ (by rw [h.nr]; exact hb), getD_set _ _ _ _ _ hb]
    by_cases e : i = b
    · rw [if_pos e, if_pos e, upd_ne (nd hr (fun _ z => by cases z))]
      exact hr
    · rw [if_neg e, if_neg e, upd_ne (nd (h.tup i hi') (fun _ z => by cases z))]
      exact h.tup i hi'
  · show (s.rs.set b r).length = (s.os.set b ys).length
    rw [List.length_set, List.length_set]
    exact h.nr
  · show s.er.length = (s.os.set b ys).length
    rw [List.length_set]
    exact h.ne
  · show s.tb.length = (s.os.set b ys).length
    rw [List.length_set]
    exact h.nt
  · show s.c.blocks = (s.os.set b ys).length
    rw [List.length_set]
    exact h.nb
  · show (s.os.set b ys).length ≤ 24
    rw [List.length_set]
    exact h.b8
  · have hi' : i < s.os.length := by
      have : i < (s.os.set b ys).length := hi
      rwa [List.length_set] at this
    show Oct ((s.os.set b ys).getD i []) ∧ ((s.os.set b ys).getD i []).length = _
    rw [getD_set _ _ _ _ _ hb]
    by_cases e : i = b
    · rw [if_pos e]
      exact ⟨oy, ly⟩
    · rw [if_neg e]
      exact h.oct i hi'
  · rw [upd_ne (nd h.rr.1 (fun _ z => by cases z))]
    exact h.rr.1
theorem ChipAt.sett {H : Hp} {a dx : Addr} {s : CS} (h : ChipAt K H a dx s) (b : Nat) (v : Bool) : ChipAt K (upd H s.c.t (.lst ((BV s.tb).set b (.bl v)))) a dx { s with tb := s.tb.set b v } := by
  have nd : ∀ {b : Addr} {o : HO}, H b = some o → (∀ z, o ≠ .lst z) → b ≠ s.c.t := fun hb d => ne_of hb h.t (d _)
  exact ⟨by rw [upd_ne (nd h.ins (fun _ z => by cases z))]; exact h.ins, by rw [upd_ne h.ot]; exact h.o, by rw [upd_ne h.et]; exact h.e, by rw [upd_same]; show _ = some (HO.lst ((s.tb.set b v).map V.bl)); rw [List.map_set], by rw [upd_ne (nd h.p (fun _ z => by cases z))]; exact h.p,
    by rw [upd_ne (nd h.q (fun _ z => by cases z))]; exact h.q, fun i hi => by rw [upd_ne (nd (h.tup i hi) (fun _ z => by cases z))]; exact h.tup i hi, h.oe, h.ot, h.et, h.pq, h.nr, h.ne, by show (s.tb.set b v).length = _; rw [List.length_set]; exact h.nt, h.nb, h.b8, h.g8, h.oct, ⟨by rw [upd_ne (nd h.rr.1 (fun _ z => by cases z))]; exact h.rr.1, h.rr.2⟩⟩
theorem drop_none {ks : List (Key × V)} {k : Key} (h : valV ks k = none) : dropK ks k = ks := by
  unfold dropK
  rw [List.filter_eq_self]
  intro p hp
  rw [decide_eq_true_iff]
  intro e
  unfold valV at h
  rw [Option.map_eq_none_iff, List.find?_eq_none] at h
  exact h p hp (by simp [e])
/-- all but the chip's own is as it was -/
def Fr (a : Addr) (c : Cp) (H H' : Hp) : Prop := ∀ x u, x ≠ a → x ≠ c.o → x ≠ c.e → x ≠ c.t → x ≠ c.p → x ≠ c.q → x ≠ c.r → H x = some u → H' x = some u
theorem Fr.ex {a : Addr} {c : Cp} {H H1 H2 : Hp} (f : Fr a c H H1) (e : Evl.Ex H1 H2) : Fr a c H H2 := fun x u n1 n2 n3 n4 n5 n6 n7 h => e _ _ (f x u n1 n2 n3 n4 n5 n6 n7 h)
theorem Fr.at {a y : Addr} {c : Cp} {H H1 : Hp} {o : HO} (f : Fr a c H H1) (hy : y = a ∨ y = c.o ∨ y = c.e ∨ y = c.t ∨ y = c.p ∨ y = c.q ∨ y = c.r) : Fr a c H (upd H1 y o) := fun x u n1 n2 n3 n4 n5 n6 n7 h => by
  have n : x ≠ y := by
    rintro rfl
    rcases hy with e | e | e | e | e | e | e
    · exact n1 e
    · exact n2 e
    · exact n3 e
    · exact n4 e
    · exact n5 e
    · exact n6 e
    · exact n7 e
  rw [upd_ne n]
  exact f x u n1 n2 n3 n4 n5 n6 n7 h
theorem Fr.refl (a : Addr) (c : Cp) (H : Hp) : Fr a c H H := fun _ _ _ _ _ _ _ _ _ h => h
theorem ChipAt.tupK {H H' : Hp} {a dx nw : Addr} {s : CS} {xs : List V} (h : ChipAt K H a dx s) (f : Fr a s.c H H') (hn : H nw = some (.tup xs)) : H' nw = some (.tup xs) :=
  f nw _ (ne_of hn h.ins (fun z => by cases z)) (ne_of hn h.o (fun z => by cases z)) (ne_of hn h.e (fun z => by cases z)) (ne_of hn h.t (fun z => by cases z)) (ne_of hn h.p (fun z => by cases z)) (ne_of hn h.q (fun z => by cases z)) (ne_of hn h.rr.1 (fun z => by cases z)) hn
theorem ChipAt.back {H H' : Hp} {a dx d : Addr} {s : CS} (h : ChipAt K H' a dx s) (f : Fr a s.c H H') (hd : H' d = none) : H d = none := by
  cases z : H d with
  | none => rfl
  | some o =>
    have n : ∀ {x : Addr} {u : HO}, H' x = some u → d ≠ x := fun hx e => by rw [← e, hd] at hx; cases hx
    have := f d o (n h.ins) (n h.o) (n h.e) (n h.t) (n h.p) (n h.q) (n h.rr.1) z
    rw [hd] at this
    cases this
/-- behind the count of an op, its plans gone -/
def CS.begun (s : CS) : CS := { s with c := { s.c with ops := s.c.ops + 1 }, kp := dropK s.kp (Sum.inl s.c.ops : Key), kq := dropK s.kq (Sum.inl s.c.ops : Key) }
def mix (s : CS) (b : Nat) (ns : List Int) (m : Int) : List Int := octetsL (turned (bitsL (s.os.getD b [])) (bitsL ns) m)
def Plan (ks : List (Key × V)) : Prop := ∀ k v, valV ks k = some v → ∃ m : Int, v = .int m ∧ 0 ≤ m ∧ m < MM
def spSetO (K : PySem.W.Frag) : Sp := fun vs H Q _ => ∃ (a dx : Addr) (s : CS) (b : Nat) (r : Addr), vs = [.ref a, .int (b : Int), .ref r] ∧ ChipAt K H a dx s ∧ b < s.os.length ∧ Q .non (upd H s.c.o (.lst ((s.rs.map V.ref).set b (.ref r))))
theorem ok_set_octets (T : Txt K mg) (TC : TxC K) (F : FnM K "_set_octets" "Chip._set_octets" s_Chip___set_octets f fd) : Fg P w K mg base CX0 1 f fd ["self", "block", "octets"] (spSetO K) := by
  refine fg_of F sc_Chip___set_octets (fun vs H Q E h => ?_) (fun cdv A outer s₀ H vs Q E hr h => ⟨_, (PSs.nox (pss_cons (ps_asg (pv 2) (pg_sub (pe_fldU (K := K) (pv 0) rfl) (pv 1) set_list))
  (pss_one (ps_expr (pe_dpop2U (pe_fldU (K := K) (pv 0) rfl) (pv 1) pe_non))))), ?_⟩)
  · obtain ⟨a, dx, s, b, r, rfl, _⟩ := h
    rfl
  · obtain ⟨a, dx, s, b, r, rfl, hc, hb, q⟩ := h
    have br : b < s.rs.length := by rw [hc.nr]; exact hb
    refine ⟨_, rfl, _, rfl, a, _, dx, _, _, rfl, hc.ins, TC.cls, TC.no _ (by simp), rfl, _, rfl, s.c.o, _, _, b, rfl, rfl, hc.o, Evl.ixN_nat (by rw [List.length_map]; exact br), ?_⟩
    have i' : upd H s.c.o (.lst ((s.rs.map V.ref).set b (.ref r))) a = some (.ins (Ch K) dx s.c.fs) := by
      rw [upd_ne (ne_of hc.ins hc.o (fun z => by cases z))]
      exact hc.ins
    have r' : upd H s.c.o (.lst ((s.rs.map V.ref).set b (.ref r))) s.c.r = some (.dK []) := by
      rw [upd_ne (ne_of hc.rr.1 hc.o (fun z => by cases z))]
      exact hc.rr.1
    refine ⟨_, rfl, a, _, dx, _, _, rfl, i', TC.cls, TC.no _ (by simp), rfl, s.c.r, rfl, .inl ⟨_, Rd.of r'⟩, _, rfl, [], (Sum.inl (b : Int) : Key), r', rfl, fun v hv => ?_, fun hv => q⟩
    cases hv
def spDo (K : PySem.W.Frag) (CP : Addr) : Sp := fun vs H Q E => ∃ (a dx : Addr) (s : CS) (b : Nat) (nw : Addr) (ns : List Int), vs = [.ref a, .int (b : Int), .ref nw] ∧ ChipAt K H a dx s ∧ b < s.os.length ∧ H nw = some (.tup (IV ns)) ∧ Oct ns ∧ ns.length = 31 * s.c.pages.toNat ∧ Plan s.kp ∧ Plan s.kq ∧
  (∀ (m : Int) (s' : CS) (d : Addr) (H' : Hp), valV s.kp (Sum.inl s.c.ops : Key) = some (.int m) → Fr a s.c H H' → H d = none → H' d = some (.xd [("op", .int s.c.ops)]) → ChipAt K H' a dx s' →
    (∃ r, s' = (if s.tb.getD b false then { s.begun with c := { s.begun.c with cuts := s.c.cuts + 1 } } else { s.begun with c := { s.begun.c with cuts := s.c.cuts + 1 }, rs := s.rs.set b r, os := s.os.set b (mix s b ns m) })) → E (.ref CP) (some d) H') ∧
  (∀ (s' : CS) (v : Bool) (H' : Hp), valV s.kp (Sum.inl s.c.ops : Key) = none → Fr a s.c H H' → ChipAt K H' a dx s' →
    ((s.tb.getD b false = true ∧ v = false ∧ s' = s.begun) ∨
     (s.tb.getD b false = false ∧ ∃ (m : Int) (r : Addr), valV s.kq (Sum.inl s.c.ops : Key) = some (.int m) ∧ ((badL s.tb).length : Int) < s.c.bad ∧ v = false ∧ s' = { s.begun with rs := s.rs.set b r, os := s.os.set b (mix s b ns m), tb := s.tb.set b true }) ∨
     (s.tb.getD b false = false ∧ ¬ (valV s.kq (Sum.inl s.c.ops : Key) ≠ none ∧ ((badL s.tb).length : Int) < s.c.bad) ∧ v = true ∧ s' = { s.begun with rs := s.rs.set b nw, os := s.os.set b ns })) → Q (.bl v) H')
theorem ok_do_op {fI CP : Addr} (T : Txt K mg) (TC : TxC K) (F : FnM K "_do_op" "Chip._do_op" s_Chip___do_op f fd) (E_PowerCut : MkE P w K mg base "PowerCut" "op" CP fI) (C_changed : Cal P w K mg base CX0 6 "changed" ["old", "new", "mask"] (spChanged K))
    (M_Chip__bad_blocks : CalM P w K mg base CX0 1 (Ch K) "bad_blocks" ["self"] (spBadB K)) (M_Chip___set_octets : CalM P w K mg base CX0 1 (Ch K) "_set_octets" ["self", "block", "octets"] (spSetO K)) :
    Fg P w K mg base (CX P w) 7 f fd ["self", "block", "new"] (spDo K CP) := by
  refine fg_of F sc_Chip___do_op (fun vs H Q E h => ?_) (fun cdv A outer s₀ H vs Q E hr h => ⟨_, ((pss_cons (ps_set (i := 3) sc_Chip___do_op.nd rfl (by first | exact Or.inl rfl | exact Or.inr rfl) (pe_fldU (K := K) (pv 0) rfl))
  (pss_cons (ps_fldaugU (K := K) (pv 0) pe_int in_add)
  (pss_cons (ps_set (i := 4) sc_Chip___do_op.nd rfl (by first | exact Or.inl rfl | exact Or.inr rfl) (pe_dpop2U (pe_fldU (K := K) (pv 0) rfl) (pv 3) pe_non))
  (pss_cons (ps_set (i := 5) sc_Chip___do_op.nd rfl (by first | exact Or.inl rfl | exact Or.inr rfl) (pe_dpop2U (pe_fldU (K := K) (pv 0) rfl) (pv 3) pe_non))
  (pss_cons (ps_if (pt_cmpR op_notN (pv 4) pe_non (nomark _))
  (pss_cons (ps_fldaugU (K := K) (pv 0) pe_int in_add)
  (pss_cons (ps_if (pt_not (pt_tru (K := K) (pe_ix (u_ix (K := K)) (pe_fldU (K := K) (pv 0) rfl) (pv 1) (fun _ _ => rfl)) (by intro _; rfl)))
  (pss_one (ps_expr (pe_calM M_Chip___set_octets hr.le pass0 (pv 0) (pa_cons (pv 1) (pa_cons (pe_cal C_changed hr.le pass0 (pa_cons (pe_ix (u_ix (K := K)) (pe_fldU (K := K) (pv 0) rfl) (pv 1) (fun _ _ => rfl)) (pa_cons (pv 2) (pa_cons (pv 4) pa_nil)))) pa_nil))))) pss_nil)
  (pss_one (ps_raiseE E_PowerCut hr (takes_of rfl rfl rfl rfl) rfl (pa_cons (pv 3) pa_nil))))) pss_nil)
  (pss_cons (ps_if (pt_tru (K := K) (pe_ix (u_ix (K := K)) (pe_fldU (K := K) (pv 0) rfl) (pv 1) (fun _ _ => rfl)) (by intro _; rfl))
  (pss_one (ps_ret pe_bl)) pss_nil)
  (pss_cons (ps_if (PW.pt (pw_and (pt_cmpR op_notN (pv 5) pe_non (nomark _)) (pw_and1 (pt_cmpR op_lt (pe_callB (u_len (K := K)) (by rfl) T.f_len (by decide +kernel) (pa_cons (pe_calM0 M_Chip__bad_blocks hr.le pass0 (pv 0)) pa_nil)) (pe_fldU (K := K) (pv 0) rfl) (nomark _)))))
  (pss_cons (ps_expr (pe_calM M_Chip___set_octets hr.le pass0 (pv 0) (pa_cons (pv 1) (pa_cons (pe_cal C_changed hr.le pass0 (pa_cons (pe_ix (u_ix (K := K)) (pe_fldU (K := K) (pv 0) rfl) (pv 1) (fun _ _ => rfl)) (pa_cons (pv 2) (pa_cons (pv 5) pa_nil)))) pa_nil))))
  (pss_cons (ps_asg pe_bl (pg_sub (pe_fldU (K := K) (pv 0) rfl) (pv 1) set_list))
  (pss_one (ps_ret pe_bl)))) pss_nil)
  (pss_cons (ps_expr (pe_calM M_Chip___set_octets hr.le pass0 (pv 0) (pa_cons (pv 1) (pa_cons (pv 2) pa_nil))))
  (pss_one (ps_ret pe_bl))))))))))), ?_⟩)
  · obtain ⟨a, dx, s, b, nw, ns, rfl, _⟩ := h
    rfl
  · obtain ⟨a, dx, s, b, nw, ns, rfl, hc, hb, hn, on, ln, pl, ql, qE, qQ⟩ := h
    have tail : ∀ (v4 v5 : V) (H3 : Hp), v4 = ((valV s.kp (Sum.inl s.c.ops : Key)).getD .non) → v5 = ((valV s.kq (Sum.inl s.c.ops : Key)).getD .non) → Fr a s.c H H3 → ChipAt K H3 a dx s.begun →
        (tSeq (tIfS (tTest (tOp (fun x y H Q => y = V.non ∧ Q (V.bl !decide (x = V.non)) H) (tVar 4) (tC V.non))) (tSeq (sFldAug K (tVar 0) (tC (V.int 1)) rAdd (Str.ofString "cuts")) (tSeq (tIfS (tNot (tTru K (tOp (rIx K) (tFld K (tVar 0) (Str.ofString "_turned_bad")) (tVar 1)))) (tDrop (tMeth (Ch K) (Str.ofString "_set_octets") (spSetO K) [] E0 (tVar 0) (tCons (tVar 1) (tCons (tCall (spChanged K) [] E0 (tCons (tOp (rIx K) (tFld K (tVar 0) (Str.ofString "_octets")) (tVar 1)) (tCons (tVar 2) (tCons (tVar 4) tNil)))) tNil)))) tNext) fun x σ H_1 => tMkO CP (spInit K (Str.ofString "op")) [] (tCons (tVar 3) tNil) σ H_1 fun cls d H' => E cls d H')) tNext) (tSeq (tIfS (tTru K (tOp (rIx K) (tFld K (tVar 0) (Str.ofString "_turned_bad")) (tVar 1))) (tRet (tC (V.bl false))) tNext) (tSeq (tIfS (tAnd (tTest (tOp (fun x y H Q => y = V.non ∧ Q (V.bl !decide (x = V.non)) H) (tVar 5) (tC V.non))) (tTest (tOp (rI0 fun i j => V.bl (decide (i < j))) (tCB (rLenU K) (tCons (tMeth (Ch K) (Str.ofString "bad_blocks") (spBadB K) [] E0 (tVar 0) tNil) tNil)) (tFld K (tVar 0) (Str.ofString "bad"))))) (tSeq (tDrop (tMeth (Ch K) (Str.ofString "_set_octets") (spSetO K) [] E0 (tVar 0) (tCons (tVar 1) (tCons (tCall (spChanged K) [] E0 (tCons (tOp (rIx K) (tFld K (tVar 0) (Str.ofString "_octets")) (tVar 1)) (tCons (tVar 2) (tCons (tVar 5) tNil)))) tNil)))) (tSeq (tAsg (tC (V.bl true)) (gSub (tFld K (tVar 0) (Str.ofString "_turned_bad")) (tVar 1) rSetL)) (tRet (tC (V.bl false))))) tNext) (tSeq (tDrop (tMeth (Ch K) (Str.ofString "_set_octets") (spSetO K) [] E0 (tVar 0) (tCons (tVar 1) (tCons (tVar 2) tNil)))) (tRet (tC (V.bl true))))))) { nx := fun x H' => Q V.non H', rt := Q } [some (.ref a), some (.int (b : Int)), some (.ref nw), some (.int s.c.ops), some v4, some v5] H3 := by
      intro v4 v5 H3 e4 e5 fr h3
      have hn3 := hc.tupK fr hn
      have bt : b < s.tb.length := by rw [hc.nt]; exact hb
      have br : b < s.rs.length := by rw [hc.nr]; exact hb
      have o31 := hc.oct b hb
      have g8 := hc.g8
      have l5 : (s.os.getD b []).length ≤ 700 := by rw [o31.2]; omega
      have lm : ∀ m : Int, Oct (mix s b ns m) ∧ (mix s b ns m).length = 31 * s.c.pages.toNat := by
        intro m
        have lb : (bitsL (s.os.getD b [])).length = (bitsL ns).length := by rw [bitsL_len, bitsL_len, o31.2, ln]
        have sp := octetsL_spec (n := (s.os.getD b []).length) (bs := turned (bitsL (s.os.getD b [])) (bitsL ns) m) (by rw [turned_len _ _ _ lb, bitsL_len]) (turned_bit _ _ _ (bitsL_bit _) (bitsL_bit _))
        exact ⟨sp.2.1, sp.2.2.trans o31.2⟩
      cases hp : valV s.kp (Sum.inl s.c.ops : Key) with
      | some v =>
        obtain ⟨m, rfl, m0, m1⟩ := pl _ _ hp
        rw [hp] at e4
        have e4 : v4 = .int m := e4
        subst e4
        refine ⟨_, rfl, rfl, _, rfl, ?_⟩
        rw [decide_eq_false (show ¬ (V.int m = V.non) from fun z => by cases z)]
        refine iteT ⟨_, rfl, a, _, dx, _, _, rfl, h3.ins, TC.cls, TC.no _ (by simp), rfl, _, _, rfl, rfl, dx, _, h3.ins, by show 11 < 1000; decide, ?_⟩
        rw [put_cuts]
        have h4 := h3.setc { s.begun.c with cuts := s.begun.c.cuts + 1 } rfl rfl rfl rfl rfl rfl rfl rfl
        have f4 : Fr a s.c H (upd H3 a (.ins (Ch K) dx ({ s.begun.c with cuts := s.begun.c.cuts + 1 } : Cp).fs)) := fr.at (.inl rfl)
        generalize upd H3 a (.ins (Ch K) dx ({ s.begun.c with cuts := s.begun.c.cuts + 1 } : Cp).fs) = H4 at h4 f4 ⊢
        refine ⟨_, rfl, a, _, dx, _, _, rfl, h4.ins, TC.cls, TC.no _ (by simp), rfl, _, rfl, Sv.ix (x := .non) (Sv.lst h4.t) (i := (b : Int)) (bv_at bt) ⟨_, rfl, ?_⟩⟩
        cases hv : s.tb.getD b false with
        | true =>
          have hv' : s.begun.tb.getD b false = true := hv
          rw [hv']
          refine iteF ⟨_, rfl, made E_PowerCut.err.oex E_PowerCut.err.noG fun d nd => qE m _ d _ hp (f4.ex (Evl.Ex.new nd)) (h4.back f4 nd) upd_same (h4.ex (Evl.Ex.new nd)) ⟨0, ?_⟩⟩
          rw [hv]
          rfl
        | false =>
          have hv' : s.begun.tb.getD b false = false := hv
          rw [hv']
          have hn4 := hc.tupK f4 hn
          refine iteT ⟨_, rfl, a, dx, _, rfl, h4.ins, rfl, _, rfl, _, rfl, a, _, dx, _, _, rfl, h4.ins, TC.cls, TC.no _ (by simp), rfl, _, rfl, tup_ix h4.o br ⟨_, rfl, _, rfl, _, nw, _, ns, true, true, m, rfl, Sv.tup (h4.tup b hb), Sv.tup hn4, o31.1, on, o31.2.trans ln.symm, l5, m0, m1, fun r H5 nr e5' hr5 => ?_⟩⟩
          have h5 := h4.ex e5'
          have f5 := f4.ex e5'
          refine ⟨a, dx, _, b, r, rfl, h5, hb, ?_⟩
          have h6 := h5.seto hb hr5 (lm m).1 (lm m).2
          have f6 := f5.at (o := .lst ((s.rs.map V.ref).set b (.ref r))) (.inr (.inl rfl))
          refine ⟨_, rfl, made E_PowerCut.err.oex E_PowerCut.err.noG fun d nd => qE m _ d _ hp (f6.ex (Evl.Ex.new nd)) (h6.back f6 nd) upd_same (h6.ex (Evl.Ex.new nd)) ⟨r, ?_⟩⟩
          rw [hv]
          rfl
      | none =>
        rw [hp] at e4
        have e4 : v4 = .non := e4
        subst e4
        refine ⟨_, rfl, rfl, _, rfl, ?_⟩
        rw [decide_eq_true (show V.non = V.non from rfl)]
        refine iteF ⟨_, rfl, a, _, dx, _, _, rfl, h3.ins, TC.cls, TC.no _ (by simp), rfl, _, rfl, Sv.ix (x := .non) (Sv.lst h3.t) (i := (b : Int)) (bv_at bt) ⟨_, rfl, ?_⟩⟩
        cases hv : s.tb.getD b false with
        | true =>
          have hv' : s.begun.tb.getD b false = true := hv
          rw [hv']
          exact iteT (qQ _ false _ hp fr h3 (.inl ⟨hv, rfl, rfl⟩))
        | false =>
          have hv' : s.begun.tb.getD b false = false := hv
          rw [hv']
          refine iteF ?_
          have lasts : ∀ (v5' : V) (H4 : Hp), Evl.Ex H3 H4 → ¬ (valV s.kq (Sum.inl s.c.ops : Key) ≠ none ∧ ((badL s.tb).length : Int) < s.c.bad) →
              tSeq (tDrop (tMeth (Ch K) (Str.ofString "_set_octets") (spSetO K) [] E0 (tVar 0) (tCons (tVar 1) (tCons (tVar 2) tNil)))) (tRet (tC (V.bl true))) { nx := fun x H' => Q V.non H', rt := Q } [some (.ref a), some (.int (b : Int)), some (.ref nw), some (.int s.c.ops), some V.non, some v5'] H4 := by
            intro v5' H4 e4' hno
            have h4 := h3.ex e4'
            have f4 := fr.ex e4'
            refine ⟨_, rfl, a, dx, _, rfl, h4.ins, rfl, _, rfl, _, rfl, a, dx, _, b, nw, rfl, h4, hb, ?_⟩
            exact qQ _ true _ hp (f4.at (.inr (.inl rfl))) (h4.seto hb (hc.tupK f4 hn) on ln) (.inr (.inr ⟨hv, hno, rfl, rfl⟩))
          cases hq : valV s.kq (Sum.inl s.c.ops : Key) with
          | none =>
            rw [hq] at e5
            have e5 : v5 = .non := e5
            subst e5
            refine ⟨_, rfl, rfl, _, rfl, ?_⟩
            rw [decide_eq_true (show V.non = V.non from rfl)]
            exact iteF (lasts _ H3 (Evl.Ex.refl _) (fun z => z.1 hq))
          | some v =>
            obtain ⟨m, rfl, m0, m1⟩ := ql _ _ hq
            rw [hq] at e5
            have e5 : v5 = .int m := e5
            subst e5
            refine ⟨_, rfl, rfl, _, rfl, ?_⟩
            rw [decide_eq_false (show ¬ (V.int m = V.non) from fun z => by cases z)]
            refine iteT ⟨_, rfl, a, dx, _, rfl, h3.ins, rfl, a, s.begun.c, s.begun.tb, rfl, ⟨dx, h3.ins⟩, by rw [h3.nt]; exact h3.nb, by rw [h3.nt]; exact h3.b8, h3.t, fun D H4 nD e4' hD => ?_⟩
            have h4 := h3.ex e4'
            refine ⟨_, _, rfl, .inl ⟨_, SqL.of hD, rfl⟩, _, rfl, a, _, dx, _, _, rfl, h4.ins, TC.cls, TC.no _ (by simp), rfl, _, _, rfl, rfl, _, rfl, ?_⟩
            rw [iv_len]
            by_cases hlt : ((badL s.tb).length : Int) < s.c.bad
            · have hlt' : ((badL s.begun.tb).length : Int) < s.begun.c.bad := hlt
              rw [decide_eq_true hlt']
              have f4 := fr.ex e4'
              have hn4 := hc.tupK f4 hn
              refine iteT ⟨_, rfl, a, dx, _, rfl, h4.ins, rfl, _, rfl, _, rfl, a, _, dx, _, _, rfl, h4.ins, TC.cls, TC.no _ (by simp), rfl, _, rfl, tup_ix h4.o br ⟨_, rfl, _, rfl, _, nw, _, ns, true, true, m, rfl, Sv.tup (h4.tup b hb), Sv.tup hn4, o31.1, on, o31.2.trans ln.symm, l5, m0, m1, fun r H5 nr e5' hr5 => ?_⟩⟩
              have h5 := h4.ex e5'
              have f5 := f4.ex e5'
              refine ⟨a, dx, _, b, r, rfl, h5, hb, ?_⟩
              have h6 := h5.seto hb hr5 (lm m).1 (lm m).2
              have f6 := f5.at (o := .lst ((s.rs.map V.ref).set b (.ref r))) (.inr (.inl rfl))
              refine ⟨_, rfl, a, _, dx, _, _, rfl, h6.ins, TC.cls, TC.no _ (by simp), rfl, _, rfl, s.c.t, _, _, b, rfl, rfl, h6.t, Evl.ixN_nat (by rw [List.length_map]; exact bt), ?_⟩
              exact qQ _ false _ hp (f6.at (.inr (.inr (.inr (.inl rfl))))) (h6.sett b true) (.inr (.inl ⟨hv, m, r, hq, hlt, rfl, rfl⟩))
            · have hlt' : ¬ ((badL s.begun.tb).length : Int) < s.begun.c.bad := hlt
              rw [decide_eq_false hlt']
              exact iteF (lasts _ H4 e4' (fun z => hlt z.2))
    have mid : ∀ (v4 : V) (H2 : Hp), v4 = ((valV s.kp (Sum.inl s.c.ops : Key)).getD .non) → Fr a s.c H H2 → ChipAt K H2 a dx { s with c := { s.c with ops := s.c.ops + 1 }, kp := dropK s.kp (Sum.inl s.c.ops : Key) } →
        (tSeq (tAsg (tDPop2 (tFld K (tVar 0) (Str.ofString "_fail_plans")) (tVar 3) (tC V.non)) (gName 5)) (tSeq (tIfS (tTest (tOp (fun x y H Q => y = V.non ∧ Q (V.bl !decide (x = V.non)) H) (tVar 4) (tC V.non))) (tSeq (sFldAug K (tVar 0) (tC (V.int 1)) rAdd (Str.ofString "cuts")) (tSeq (tIfS (tNot (tTru K (tOp (rIx K) (tFld K (tVar 0) (Str.ofString "_turned_bad")) (tVar 1)))) (tDrop (tMeth (Ch K) (Str.ofString "_set_octets") (spSetO K) [] E0 (tVar 0) (tCons (tVar 1) (tCons (tCall (spChanged K) [] E0 (tCons (tOp (rIx K) (tFld K (tVar 0) (Str.ofString "_octets")) (tVar 1)) (tCons (tVar 2) (tCons (tVar 4) tNil)))) tNil)))) tNext) fun x σ H_1 => tMkO CP (spInit K (Str.ofString "op")) [] (tCons (tVar 3) tNil) σ H_1 fun cls d H' => E cls d H')) tNext) (tSeq (tIfS (tTru K (tOp (rIx K) (tFld K (tVar 0) (Str.ofString "_turned_bad")) (tVar 1))) (tRet (tC (V.bl false))) tNext) (tSeq (tIfS (tAnd (tTest (tOp (fun x y H Q => y = V.non ∧ Q (V.bl !decide (x = V.non)) H) (tVar 5) (tC V.non))) (tTest (tOp (rI0 fun i j => V.bl (decide (i < j))) (tCB (rLenU K) (tCons (tMeth (Ch K) (Str.ofString "bad_blocks") (spBadB K) [] E0 (tVar 0) tNil) tNil)) (tFld K (tVar 0) (Str.ofString "bad"))))) (tSeq (tDrop (tMeth (Ch K) (Str.ofString "_set_octets") (spSetO K) [] E0 (tVar 0) (tCons (tVar 1) (tCons (tCall (spChanged K) [] E0 (tCons (tOp (rIx K) (tFld K (tVar 0) (Str.ofString "_octets")) (tVar 1)) (tCons (tVar 2) (tCons (tVar 5) tNil)))) tNil)))) (tSeq (tAsg (tC (V.bl true)) (gSub (tFld K (tVar 0) (Str.ofString "_turned_bad")) (tVar 1) rSetL)) (tRet (tC (V.bl false))))) tNext) (tSeq (tDrop (tMeth (Ch K) (Str.ofString "_set_octets") (spSetO K) [] E0 (tVar 0) (tCons (tVar 1) (tCons (tVar 2) tNil)))) (tRet (tC (V.bl true)))))))) { nx := fun x H' => Q V.non H', rt := Q } [some (.ref a), some (.int (b : Int)), some (.ref nw), some (.int s.c.ops), some v4, none] H2 := by
      intro v4 H2 e4 fr h2
      refine ⟨_, rfl, a, _, dx, _, _, rfl, h2.ins, TC.cls, TC.no _ (by simp), rfl, s.c.q, rfl, .inl ⟨_, Rd.of h2.q⟩, _, rfl, s.kq, (Sum.inl s.c.ops : Key), h2.q, rfl, fun v hv => ?_, fun hv => ?_⟩
      · exact tail v4 v _ e4 (by rw [hv]; rfl) (fr.at (.inr (.inr (.inr (.inr (.inr (.inl rfl))))))) (h2.setq _)
      · refine tail v4 .non _ e4 (by rw [hv]; rfl) fr ?_
        unfold CS.begun
        rw [drop_none hv]
        exact h2
    refine ⟨_, rfl, a, _, dx, _, _, rfl, hc.ins, TC.cls, TC.no _ (by simp), rfl, ?_⟩
    refine ⟨_, rfl, a, _, dx, _, _, rfl, hc.ins, TC.cls, TC.no _ (by simp), rfl, _, _, rfl, rfl, dx, _, hc.ins, by show 11 < 1000; decide, ?_⟩
    rw [put_ops]
    have h1 := hc.setc { s.c with ops := s.c.ops + 1 } rfl rfl rfl rfl rfl rfl rfl rfl
    have f1 : Fr a s.c H (upd H a (.ins (Ch K) dx ({ s.c with ops := s.c.ops + 1 } : Cp).fs)) := (Fr.refl a s.c H).at (.inl rfl)
    refine ⟨_, rfl, a, _, dx, _, _, rfl, h1.ins, TC.cls, TC.no _ (by simp), rfl, s.c.p, rfl, .inl ⟨_, Rd.of h1.p⟩, _, rfl, s.kp, (Sum.inl s.c.ops : Key), h1.p, rfl, fun v hv => ?_, fun hv => ?_⟩
    · exact mid v _ (by rw [hv]; rfl) (f1.at (.inr (.inr (.inr (.inr (.inl rfl)))))) (h1.setp _)
    · refine mid .non _ (by rw [hv]; rfl) f1 ?_
      rw [drop_none hv]
      exact h1
end
end K6
namespace K6
open PySem PySem.Spec PyProof.Rows L2 VB BM
section
variable {P : Program} {w : World} {K : PySem.W.Frag} {mg : Str → Option Value} {base : Heap} {f : Addr} {fd : FuncData}
theorem Fr.trans {a : Addr} {c : Cp} {H H1 H2 : Hp} (f : Fr a c H H1) (g : Fr a c H1 H2) : Fr a c H H2 := fun x u n1 n2 n3 n4 n5 n6 n7 h => g x u n1 n2 n3 n4 n5 n6 n7 (f x u n1 n2 n3 n4 n5 n6 n7 h)
/-- what comes of an op that is to make these a block's octets -/
def Ends (K : PySem.W.Frag) (CP a dx : Addr) (s : CS) (b : Nat) (ns : List Int) (H : Hp) (Q : VK) (E : XK) : Prop :=
  (∀ (m : Int) (s' : CS) (d : Addr) (H' : Hp), valV s.kp (Sum.inl s.c.ops : Key) = some (.int m) → Fr a s.c H H' → H d = none → H' d = some (.xd [("op", .int s.c.ops)]) → ChipAt K H' a dx s' →
    (∃ r, s' = (if s.tb.getD b false then { s.begun with c := { s.begun.c with cuts := s.c.cuts + 1 } } else { s.begun with c := { s.begun.c with cuts := s.c.cuts + 1 }, rs := s.rs.set b r, os := s.os.set b (mix s b ns m) })) → E (.ref CP) (some d) H') ∧
  (∀ (s' : CS) (v : Bool) (H' : Hp), valV s.kp (Sum.inl s.c.ops : Key) = none → Fr a s.c H H' → ChipAt K H' a dx s' → (∃ nw : Addr,
    ((s.tb.getD b false = true ∧ v = false ∧ s' = s.begun) ∨
     (s.tb.getD b false = false ∧ ∃ (m : Int) (r : Addr), valV s.kq (Sum.inl s.c.ops : Key) = some (.int m) ∧ ((badL s.tb).length : Int) < s.c.bad ∧ v = false ∧ s' = { s.begun with rs := s.rs.set b r, os := s.os.set b (mix s b ns m), tb := s.tb.set b true }) ∨
     (s.tb.getD b false = false ∧ ¬ (valV s.kq (Sum.inl s.c.ops : Key) ≠ none ∧ ((badL s.tb).length : Int) < s.c.bad) ∧ v = true ∧ s' = { s.begun with rs := s.rs.set b nw, os := s.os.set b ns }))) → Q (.bl v) H')
/-- an op's promise from a later heap -/
theorem Ends.op {CP a dx : Addr} {s : CS} {b : Nat} {nw : Addr} {ns : List Int} {H H1 : Hp} {Q : VK} {E : XK} (q : Ends K CP a dx s b ns H Q E) (f : Fr a s.c H H1) (h : ChipAt K H1 a dx s) (hb : b < s.os.length) (hn : H1 nw = some (.tup (IV ns))) (on : Oct ns) (ln : ns.length = 31 * s.c.pages.toNat) (pl : Plan s.kp) (ql : Plan s.kq) :
    spDo K CP [.ref a, .int (b : Int), .ref nw] H1 Q E :=
  ⟨a, dx, s, b, nw, ns, rfl, h, hb, hn, on, ln, pl, ql, fun m s' d H' h1 f' hd h2 h3 h4 => q.1 m s' d H' h1 (f.trans f') (h.back f hd) h2 h3 h4, fun s' v H' h1 f' h2 h3 => q.2 s' v H' h1 (f.trans f') h2 ⟨nw, h3⟩⟩
def CS.erased (s : CS) (b : Nat) : CS := if s.tb.getD b false = true then s else { s with er := s.er.set b (s.er.getD b 0 + 1) }
theorem ChipAt.sete {H : Hp} {a dx : Addr} {s : CS} (h : ChipAt K H a dx s) (b : Nat) (v : Int) : ChipAt K (upd H s.c.e (.lst (IV (s.er.set b v)))) a dx { s with er := s.er.set b v } := by
  have nd : ∀ {b : Addr} {o : HO}, H b = some o → (∀ z, o ≠ .lst z) → b ≠ s.c.e := fun hb d => ne_of hb h.e (d _)
  exact ⟨by rw [upd_ne (nd h.ins (fun _ z => by cases z))]; exact h.ins, by rw [upd_ne h.oe]; exact h.o, upd_same, by rw [upd_ne (Ne.symm h.et)]; exact h.t, by rw [upd_ne (nd h.p (fun _ z => by cases z))]; exact h.p,
    by rw [upd_ne (nd h.q (fun _ z => by cases z))]; exact h.q, fun i hi => by rw [upd_ne (nd (h.tup i hi) (fun _ z => by cases z))]; exact h.tup i hi, h.oe, h.ot, h.et, h.pq, h.nr, by show (s.er.set b v).length = _; rw [List.length_set]; exact h.ne, h.nt, h.nb, h.b8, h.g8, h.oct, ⟨by rw [upd_ne (nd h.rr.1 (fun _ z => by cases z))]; exact h.rr.1, h.rr.2⟩⟩
def spEr (K : PySem.W.Frag) (CP : Addr) : Sp := fun vs H Q E => ∃ (a dx : Addr) (s : CS) (b : Nat), vs = [.ref a, .int (b : Int)] ∧ ChipAt K H a dx s ∧ b < s.os.length ∧ Plan s.kp ∧ Plan s.kq ∧ Ends K CP a dx (s.erased b) b (List.replicate (31 * s.c.pages.toNat) 255) H Q E
theorem ok_erase {CP : Addr} (T : Txt K mg) (TC : TxC K) (F : FnM K "erase" "Chip.erase" s_Chip__erase f fd) (M_Chip___check_block : CalM P w K mg base CX0 3 (Ch K) "_check_block" ["self", "block"] (spChkB K))
    (C__clean_block : Cal P w K mg base CX0 1 "_clean_block" ["pages"] spCB) (M_Chip___do_op : CalM P w K mg base (CX P w) 7 (Ch K) "_do_op" ["self", "block", "new"] (spDo K CP)) :
    Fg P w K mg base (CX P w) 8 f fd ["self", "block"] (spEr K CP) := by
  refine fg_of F sc_Chip__erase (fun vs H Q E h => ?_) (fun cdv A outer s₀ H vs Q E hr h => ⟨_, ((pss_cons (ps_expr (pe_calM M_Chip___check_block hr.le pass0 (pv 0) (pa_cons (pv 1) pa_nil)))
  (pss_cons (ps_if (pt_not (pt_tru (K := K) (pe_ix (u_ix (K := K)) (pe_fldU (K := K) (pv 0) rfl) (pv 1) (fun _ _ => rfl)) (by intro _; rfl)))
  (pss_one (ps_augS (pe_fldU (K := K) (pv 0) rfl) (pv 1) (get_list (K := K)) pe_int ip_add set_list)) pss_nil)
  (pss_one (ps_ret (pe_calM M_Chip___do_op hr.le (passes_call (takes_of rfl rfl rfl rfl) (fun _ _ _ _ h => h)) (pv 0) (pa_cons (pv 1) (pa_cons (pe_cal C__clean_block hr.le pass0 (pa_cons (pe_fldU (K := K) (pv 0) rfl) pa_nil)) pa_nil)))))))), ?_⟩)
  · obtain ⟨a, dx, s, b, rfl, _⟩ := h
    rfl
  · obtain ⟨a, dx, s, b, rfl, hc, hb, pl, ql, q⟩ := h
    have bt : b < s.tb.length := by rw [hc.nt]; exact hb
    have be : b < s.er.length := by rw [hc.ne]; exact hb
    have eb : (s.erased b).os = s.os ∧ (s.erased b).c = s.c ∧ (s.erased b).kp = s.kp ∧ (s.erased b).kq = s.kq := by
      unfold CS.erased
      split <;> exact ⟨rfl, rfl, rfl, rfl⟩
    have rest : ∀ H2 : Hp, Fr a s.c H H2 → ChipAt K H2 a dx (s.erased b) → (tRet
        (tMeth (Ch K) (Str.ofString "_do_op") (spDo K CP) [] E (tVar 0)
          (tCons (tVar 1) (tCons (tCall spCB [] E0 (tCons (tFld K (tVar 0) (Str.ofString "pages")) tNil)) tNil)))) { nx := fun x H' => Q V.non H', rt := Q } [some (.ref a), some (.int (b : Int))] H2 := by
      intro H2 f2 h2
      have g8 := hc.g8
      have i2 : H2 a = some (.ins (Ch K) dx s.c.fs) := by rw [← eb.2.1]; exact h2.ins
      refine ⟨_, rfl, a, dx, _, rfl, i2, rfl, _, rfl, _, rfl, a, _, dx, _, _, rfl, i2, TC.cls, TC.no _ (by simp), rfl, s.c.pages.toNat, ?_, by omega, by omega, fun r H3 nr e3 hr3 => ?_⟩
      · show [V.int s.c.pages] = [V.int ((s.c.pages.toNat : Nat) : Int)]
        rw [show ((s.c.pages.toNat : Nat) : Int) = s.c.pages by omega]
      · exact Ends.op q (by rw [eb.2.1]; exact f2.ex e3) (h2.ex e3) (by rw [eb.1]; exact hb) hr3 (fun z hz => by rw [List.eq_of_mem_replicate hz]; omega) (by rw [List.length_replicate, eb.2.1]) (by rw [eb.2.2.1]; exact pl) (by rw [eb.2.2.2]; exact ql)
    refine ⟨_, rfl, a, dx, _, rfl, hc.ins, rfl, _, rfl, a, s.c, (b : Int), rfl, ⟨dx, hc.ins⟩, by omega, by rw [hc.nb]; omega, fun H1 e1 => ?_⟩
    have h1 := hc.ex e1
    have f1 : Fr a s.c H H1 := (Fr.refl a s.c H).ex e1
    refine ⟨_, rfl, a, _, dx, _, _, rfl, h1.ins, TC.cls, TC.no _ (by simp), rfl, _, rfl, Sv.ix (x := .non) (Sv.lst h1.t) (i := (b : Int)) (bv_at bt) ⟨_, rfl, ?_⟩⟩
    cases hv : s.tb.getD b false with
    | true =>
      refine iteF (rest H1 f1 ?_)
      unfold CS.erased
      rw [if_pos hv]
      exact h1
    | false =>
      refine iteT ⟨_, rfl, a, _, dx, _, _, rfl, h1.ins, TC.cls, TC.no _ (by simp), rfl, _, rfl, s.c.e, IV s.er, b, .int (s.er.getD b 0), rfl, rfl, SqL.of h1.e, ?_, by have := hc.b8; omega, ?_⟩
      · rw [List.getElem?_map, getD_get be]
        rfl
      refine ⟨_, _, rfl, rfl, s.c.e, _, _, b, rfl, rfl, h1.e, Evl.ixN_nat (by rw [iv_len]; exact be), ?_⟩
      have es : (IV s.er).set b (V.int (s.er.getD b 0 + 1)) = IV (s.er.set b (s.er.getD b 0 + 1)) := List.map_set.symm
      rw [es]
      refine rest _ (f1.at (.inr (.inr (.inl rfl)))) ?_
      unfold CS.erased
      rw [if_neg (by rw [hv]; exact Bool.false_ne_true)]
      exact h1.sete b _
end
end K6
namespace K6
open PySem PySem.Spec PyProof.Rows L2 VB BM
section
variable {P : Program} {w : World} {K : PySem.W.Frag} {mg : Str → Option Value} {base : Heap} {f : Addr} {fd : FuncData}
theorem catA {H : Hp} {a b : Addr} {xs ys : List V} {Q : VK} (ha : H a = some (.tup xs)) (hb : H b = some (.tup ys)) (hl : xs.length + ys.length ≤ 10000) (q : ∀ r H', Evl.Ex H H' → H' r = some (.tup (xs ++ ys)) → Q (.ref r) H') : rAddA K (.ref a) (.ref b) H Q := by
  refine .inr ⟨a, b, xs, ys, rfl, rfl, SqT.of ha, SqT.of hb, Evl.sz_of (by omega), fun e => q b H (Evl.Ex.refl _) ?_, fun _ e => q a H (Evl.Ex.refl _) ?_, fun _ _ p hp => q p _ (Evl.Ex.new hp) upd_same⟩
  · rw [e]
    exact hb
  · rw [e, List.append_nil]
    exact ha
theorem cut_nn {O : List Int} {i j : Nat} (hi : i ≤ O.length) (hj : j ≤ O.length) : cutV (IV O) (some (i : Int)) (some (j : Int)) = IV ((O.drop i).take (j - i)) := by
  unfold cutV
  have m1 : min i (IV O).length = i := by rw [iv_len]; omega
  have m2 : min j (IV O).length = j := by rw [iv_len]; omega
  rw [HT.sIx_nat, HT.sIx_nat, m1, m2, ← List.map_drop, ← List.map_take]
theorem cut_n0 {O : List Int} {j : Nat} (hj : j ≤ O.length) : cutV (IV O) none (some (j : Int)) = IV (O.take j) := by
  unfold cutV
  have m2 : min j (IV O).length = j := by rw [iv_len]; omega
  have e0 : HT.sIx (IV O).length 0 none = 0 := rfl
  rw [HT.sIx_nat, m2, e0, List.drop_zero, Nat.sub_zero, ← List.map_take]
theorem cut_0n {O : List Int} {i : Nat} (hi : i ≤ O.length) : cutV (IV O) (some (i : Int)) none = IV (O.drop i) := by
  unfold cutV
  have m1 : min i (IV O).length = i := by rw [iv_len]; omega
  have e0 : HT.sIx (IV O).length (IV O).length none = (IV O).length := rfl
  rw [HT.sIx_nat, m1, e0, ← List.map_drop, ← List.map_take, List.take_of_length_le (by rw [List.length_drop, iv_len]; exact Nat.le_refl _)]
/-- a page of a block, written -/
def wrote (os ws : List Int) (p : Nat) : List Int := os.take (31 * p) ++ (both Builtin.bitAnd ((os.drop (31 * p)).take 31) ws ++ os.drop (31 * p + 31))
def spWr (K : PySem.W.Frag) (CP : Addr) : Sp := fun vs H Q E => ∃ (a dx : Addr) (s : CS) (b p : Nat) (w : Addr) (ws : List Int) (t : Bool), vs = [.ref a, .int (b : Int), .int (p : Int), .ref w] ∧ ChipAt K H a dx s ∧ b < s.os.length ∧ (p : Int) < s.c.pages ∧ Sv t K H w (IV ws) ∧ Oct ws ∧ ws.length = 31 ∧ Plan s.kp ∧ Plan s.kq ∧
  Ends K CP a dx s b (wrote (s.os.getD b []) ws p) H Q E
theorem ok_write {CP : Addr} (T : Txt K mg) (TC : TxC K) (F : FnM K "write" "Chip.write" s_Chip__write f fd) (M_Chip___check_block : CalM P w K mg base CX0 3 (Ch K) "_check_block" ["self", "block"] (spChkB K))
    (M_Chip___check_page : CalM P w K mg base CX0 3 (Ch K) "_check_page" ["self", "page"] (spChkP K)) (C_is_octets_of : Cal P w K mg base CX0 4 "is_octets_of" ["value", "count"] (spOctOf K)) (M_Chip___do_op : CalM P w K mg base (CX P w) 7 (Ch K) "_do_op" ["self", "block", "new"] (spDo K CP)) :
    Fg P w K mg base (CX P w) 8 f fd ["self", "block", "page", "octets"] (spWr K CP) := by
  refine fg_of F sc_Chip__write (fun vs H Q E h => ?_) (fun cdv A outer s₀ H vs Q E hr h => ⟨_, ((pss_cons (ps_expr (pe_calM M_Chip___check_block hr.le pass0 (pv 0) (pa_cons (pv 1) pa_nil)))
  (pss_cons (ps_expr (pe_calM M_Chip___check_page hr.le pass0 (pv 0) (pa_cons (pv 2) pa_nil)))
  (pss_cons (ps_if (pt_not (pt_tru (K := K) (pe_cal C_is_octets_of hr.le pass0 (pa_cons (pv 3) (pa_cons (pe_globI rfl T.g_PAGE_OCTETS) pa_nil))) (by intro _; rfl)))
  (pss_one ps_never) pss_nil)
  (pss_cons (ps_set (i := 4) sc_Chip__write.nd rfl (by first | exact Or.inl rfl | exact Or.inr rfl) (pe_op (u_mul (K := K)) (pv 2) (pe_globI rfl T.g_PAGE_OCTETS)))
  (pss_cons (ps_set (i := 5) sc_Chip__write.nd rfl (by first | exact Or.inl rfl | exact Or.inr rfl) (pe_op (u_addA (K := K)) (pv 4) (pe_globI rfl T.g_PAGE_OCTETS)))
  (pss_cons (ps_set (i := 6) sc_Chip__write.nd rfl (by first | exact Or.inl rfl | exact Or.inr rfl) (pe_ix (u_ix (K := K)) (pe_fldU (K := K) (pv 0) rfl) (pv 1) (fun _ _ => rfl)))
  (pss_cons (ps_set (i := 7) sc_Chip__write.nd rfl (by first | exact Or.inl rfl | exact Or.inr rfl) (pe_callTy (u_tup (K := K)) (by rfl) T.f_tuple (by decide +kernel) (pa_cons (pe_lc (own := [("was", 8), ("octet", 9)]) rfl sc_Chip__write.nd (pi_zm (K := K) rfl T.f_zip (pa_cons (pe_slice (u_sl (K := K)) (pv 6) (po_some (pv 4)) (po_some (pv 5))) (pa_cons (pv 3) pa_nil))) (blkOk_by (own := [("was", 8), ("octet", 9)]) (N := ["self", "block", "page", "octets", "start", "end", "old", "written", "was", "octet"]) (sc := defScope s_Chip__write) (by decide +kernel)) (fun _ _ _ _ _ => (pg_tupU (K := K) (n := 2) rfl (pgs_cons (pg_name (i := 8) sc_Chip__write.nd rfl (by first | exact Or.inl rfl | exact Or.inr rfl)) (pgs_cons (pg_name (i := 9) sc_Chip__write.nd rfl (by first | exact Or.inl rfl | exact Or.inr rfl)) pgs_nil)))) (fun _ _ _ _ _ => pts_nil) (fun _ _ _ _ _ => (pe_op op_and (pv 8) (pv 9)))) pa_nil)))
  (pss_one (ps_ret (pe_calM M_Chip___do_op hr.le (passes_call (takes_of rfl rfl rfl rfl) (fun _ _ _ _ h => h)) (pv 0) (pa_cons (pv 1) (pa_cons (pe_op (u_addA (K := K)) (pe_op (u_addA (K := K)) (pe_slice (u_sl (K := K)) (pv 6) po_none (po_some (pv 4))) (pv 7)) (pe_slice (u_sl (K := K)) (pv 6) (po_some (pv 5)) po_none)) pa_nil))))))))))))), ?_⟩)
  · obtain ⟨a, dx, s, b, p, w, ws, t, rfl, _⟩ := h
    rfl
  · obtain ⟨a, dx, s, b, p, w, ws, t, rfl, hc, hb, hp, S, ow, lw, pl, ql, q⟩ := h
    have g8 := hc.g8
    have o31 := hc.oct b hb
    have br : b < s.rs.length := by rw [hc.nr]; exact hb
    refine ⟨_, rfl, a, dx, _, rfl, hc.ins, rfl, _, rfl, a, s.c, (b : Int), rfl, ⟨dx, hc.ins⟩, by omega, by rw [hc.nb]; omega, fun H1 e1 => ?_⟩
    refine ⟨_, rfl, a, dx, _, rfl, e1 _ _ hc.ins, rfl, _, rfl, a, s.c, (p : Int), rfl, ⟨dx, e1 _ _ hc.ins⟩, by omega, hp, fun H2 e2 => ?_⟩
    have E2 := e1.trans e2
    refine ⟨_, rfl, w, ws, t, 31, rfl, S.ex E2, ow, by omega, by omega, fun H3 e3 => ⟨true, rfl, iteF ?_⟩⟩
    have E3 := E2.trans e3
    have h3 := hc.ex E3
    have mx : CMulX (p : Int) 31 := mulx_ok (a := 30) (b := 30) (by show _ < 1073741824; omega) (by decide) (by decide)
    refine ⟨_, rfl, .inl ⟨_, _, rfl, rfl, mx, _, rfl, .inl (.inl ⟨_, _, rfl, rfl, ?_⟩)⟩⟩
    refine ⟨_, rfl, a, _, dx, _, _, rfl, h3.ins, TC.cls, TC.no _ (by simp), rfl, _, rfl, tup_ix h3.o br ?_⟩
    have ea : (p : Int) * 31 = ((31 * p : Nat) : Int) := by omega
    have eb : (p : Int) * 31 + 31 = ((31 * p + 31 : Nat) : Int) := by omega
    have L : (s.os.getD b []).length = 31 * s.c.pages.toNat := o31.2
    have hT := h3.tup b hb
    have hT : H3 (s.rs.getD b 0) = some (.tup (IV (s.os.getD b []))) := hT
    have oO := o31.1
    generalize hO : s.os.getD b [] = O at L hT oO
    generalize s.rs.getD b 0 = ro at hT
    have p1 : 31 * p + 31 ≤ O.length := by omega
    refine ⟨_, rfl, _, rfl, _, rfl, _, rfl, _, rfl, .inr (.inl ⟨ro, _, rfl, SqT.of hT, ?_, fun z nz => ?_⟩)⟩
    · rintro ⟨h0, h⟩
      rw [eb, HT.sIx_nat, iv_len] at h
      rw [ea, HT.sIx_nat, iv_len] at h0
      omega
    have ec : cutV (IV O) (some ((p : Int) * 31)) (some ((p : Int) * 31 + 31)) = IV ((O.drop (31 * p)).take 31) := by
      rw [eb, ea, cut_nn (by omega) p1]
      congr 2
      omega
    have xz := Evl.Ex.new (o := .tup (IV ((O.drop (31 * p)).take 31))) nz
    show tCons (tVar 3) tNil _ (upd H3 z (.tup (cutV (IV O) (some ((p : Int) * 31)) (some ((p : Int) * 31 + 31))))) _
    rw [ec]
    have lz : ((O.drop (31 * p)).take 31).length = 31 := by rw [List.length_take, List.length_drop]; omega
    have S3 := (S.ex E3).ex xz
    refine ⟨_, rfl, true, t, z, w, _, _, rfl, Sv.tup upd_same, S3, fun D hD => ?_⟩
    have wk := walk_zm (t := true) (u := t) (K := K) (a := z) (b := w) (xs := IV ((O.drop (31 * p)).take 31)) (ys := IV ws) (n := 31) (by rw [iv_len, iv_len, lz, lw]; rfl)
    have lB := both_len (f := Builtin.bitAnd) (xs := (O.drop (31 * p)).take 31) (ys := ws) (by rw [lz, lw])
    refine lc_pureVZ (us := IV (both Builtin.bitAnd ((O.drop (31 * p)).take 31) ws)) wk (fun H' ex => ⟨(Sv.tup upd_same).ex ex, S3.ex ex⟩) (by rw [iv_len, lB, lz]) (by omega) hD (fun _ _ => rfl) ?_ ?_
    · intro i x y v H' Q' hx hy hv ex k
      obtain ⟨m, n, rfl, rfl, rfl⟩ := both_at hx hy hv
      exact ⟨_, rfl, _, rfl, _, _, rfl, rfl, k H' (Evl.Ex.refl _)⟩
    intro H4 e4 h4
    refine ⟨D, _, rfl, .inl ⟨SqL.of h4, fun l nl => ?_⟩⟩
    have xl := Evl.Ex.new (o := .tup (IV (both Builtin.bitAnd ((O.drop (31 * p)).take 31) ws))) nl
    have hl := upd_same (H := H4) (a := l) (o := .tup (IV (both Builtin.bitAnd ((O.drop (31 * p)).take 31) ws)))
    have E5 := E3.trans ((xz.trans e4).trans xl)
    have hT5 := ((xz.trans e4).trans xl) _ _ hT
    generalize upd H4 l (.tup (IV (both Builtin.bitAnd ((O.drop (31 * p)).take 31) ws))) = H5 at hl E5 hT5 ⊢
    refine ⟨_, rfl, a, dx, _, rfl, E5 _ _ hc.ins, rfl, _, rfl, ?_⟩
    refine ⟨_, rfl, _, rfl, _, rfl, .inr (.inl ⟨ro, _, rfl, SqT.of hT5, ?_, fun z1 nz1 => ?_⟩)⟩
    · rintro ⟨_, h⟩
      rw [ea, HT.sIx_nat, iv_len] at h
      omega
    have x1 := Evl.Ex.new (o := .tup (cutV (IV O) none (some ((p : Int) * 31)))) nz1
    have c1 : cutV (IV O) none (some ((p : Int) * 31)) = IV (O.take (31 * p)) := by rw [ea, cut_n0 (by omega)]
    have h1 : upd H5 z1 (.tup (cutV (IV O) none (some ((p : Int) * 31)))) z1 = some (.tup (IV (O.take (31 * p)))) := by rw [upd_same, c1]
    refine ⟨_, rfl, catA h1 (x1 _ _ hl) (by rw [iv_len, iv_len, List.length_take, lB, lz]; omega) fun r1 H6 e6 h6 => ?_⟩
    have E6 := x1.trans e6
    refine ⟨_, rfl, _, rfl, _, rfl, .inr (.inl ⟨ro, _, rfl, SqT.of (E6 _ _ hT5), ?_, fun z2 nz2 => ?_⟩)⟩
    · rintro ⟨h0, _⟩
      rw [eb, HT.sIx_nat, iv_len] at h0
      omega
    have x2 := Evl.Ex.new (o := .tup (cutV (IV O) (some ((p : Int) * 31 + 31)) none)) nz2
    have c2 : cutV (IV O) (some ((p : Int) * 31 + 31)) none = IV (O.drop (31 * p + 31)) := by rw [eb, cut_0n p1]
    have h2 : upd H6 z2 (.tup (cutV (IV O) (some ((p : Int) * 31 + 31)) none)) z2 = some (.tup (IV (O.drop (31 * p + 31)))) := by rw [upd_same, c2]
    refine catA (x2 _ _ h6) h2 (by rw [List.length_append, iv_len, iv_len, iv_len, List.length_take, lB, lz, List.length_drop]; omega) fun r2 H7 e7 h7 => ?_
    have E7 := E5.trans (E6.trans (x2.trans e7))
    have ew : IV (O.take (31 * p)) ++ IV (both Builtin.bitAnd ((O.drop (31 * p)).take 31) ws) ++ IV (O.drop (31 * p + 31)) = IV (wrote O ws p) := by
      unfold wrote
      rw [List.append_assoc, ← List.map_append, ← List.map_append]
    rw [ew] at h7
    have q' : Ends K CP a dx s b (wrote O ws p) H Q E := by rw [← hO]; exact q
    exact Ends.op q' ((Fr.refl a s.c H).ex E7) (hc.ex E7) hb h7 (oct_app (fun x hx => oO x (List.mem_of_mem_take hx)) (oct_app (both_oct (fun x hx => oO x (List.mem_of_mem_drop (List.mem_of_mem_take hx))) ow fun _ _ => and_oct) (fun x hx => oO x (List.mem_of_mem_drop hx))))
      (by unfold wrote; rw [List.length_append, List.length_append, List.length_take, List.length_drop, lB, lz]; omega) pl ql
end
end K6
namespace K6
open PySem PySem.Spec PyProof.Rows L2 VB BM
section
variable {P : Program} {w : World} {K : PySem.W.Frag} {mg : Str → Option Value} {base : Heap} {f : Addr} {fd : FuncData}
theorem getD_oct {xs : List Int} (o : Oct xs) {j : Nat} (h : j < xs.length) : 0 ≤ xs.getD j 0 ∧ xs.getD j 0 ≤ 255 := o _ (List.mem_of_getElem? (getD_get h))
end
end K6
namespace K6
open PySem PySem.Spec PyProof.Rows L2 VB BM
theorem and_comm_o {x y : Int} (hx : 0 ≤ x) (hy : 0 ≤ y) : Builtin.bitAnd x y = Builtin.bitAnd y x := by
  rw [VB.bitAnd_pp hx hy, VB.bitAnd_pp hy hx, Nat.and_comm]
theorem inn_cons {x y : Int} {xs ys : List Int} (h : Inn (x :: xs) (y :: ys)) : Builtin.bitAnd x y = x ∧ Inn xs ys := by
  refine ⟨h 0 (by simp), fun j hj => ?_⟩
  have := h (j + 1) (by simp; omega)
  simpa using this
theorem cons_inn {x y : Int} {xs ys : List Int} (h1 : Builtin.bitAnd x y = x) (h2 : Inn xs ys) : Inn (x :: xs) (y :: ys) := by
  intro j hj
  cases j with
  | zero => simpa using h1
  | succ j =>
    have := h2 j (by simpa using hj)
    simpa using this
theorem le_zip : ∀ {as bs : List Int}, Bit as → Bit bs → Le as bs → List.zipWith (fun a b : Int => if a = 1 ∧ b = 1 then (1 : Int) else 0) as bs = as
  | [], [], _, _, _ => rfl
  | a :: as, b :: bs, ha, hb, h => by
    obtain ⟨h1, h2⟩ := (show a ≤ b ∧ Le as bs from h)
    rw [List.zipWith_cons_cons, le_zip (fun z hz => ha z (List.mem_cons_of_mem _ hz)) (fun z hz => hb z (List.mem_cons_of_mem _ hz)) h2]
    have a1 := ha a (List.mem_cons_self ..)
    have b1 := hb b (List.mem_cons_self ..)
    congr 1
    rcases a1 with rfl | rfl <;> rcases b1 with rfl | rfl <;> first | rfl | omega
  | [], _ :: _, _, _, h => by cases h
  | _ :: _, [], _, _, h => by cases h
theorem le_split : ∀ {as bs cs ds : List Int}, as.length = bs.length → Le (as ++ cs) (bs ++ ds) → Le as bs ∧ Le cs ds
  | [], [], cs, ds, _, h => ⟨trivial, h⟩
  | a :: as, b :: bs, cs, ds, l, h => by
    obtain ⟨h1, h2⟩ := (show a ≤ b ∧ Le (as ++ cs) (bs ++ ds) from h)
    obtain ⟨h3, h4⟩ := le_split (by simpa using l) h2
    exact ⟨⟨h1, h3⟩, h4⟩
  | [], _ :: _, _, _, l, _ => by cases l
  | _ :: _, [], _, _, l, _ => by cases l
theorem and_bitsO {x y : Int} (hx : 0 ≤ x ∧ x ≤ 255) (hy : 0 ≤ y ∧ y ≤ 255) : bitsOf (Builtin.bitAnd x y) = List.zipWith (fun a b => if a = 1 ∧ b = 1 then (1 : Int) else 0) (bitsOf x) (bitsOf y) := by
  obtain ⟨a, rfl⟩ := nat_of hx.1
  obtain ⟨b, rfl⟩ := nat_of hy.1
  rw [VB.bitAnd_nn, bitsOf_tb, bitsOf_tb, bitsOf_tb]
  simp only [List.zipWith, tb_and]
theorem le_oct {x y : Int} (hx : 0 ≤ x ∧ x ≤ 255) (hy : 0 ≤ y ∧ y ≤ 255) (h : Le (bitsOf x) (bitsOf y)) : Builtin.bitAnd x y = x := by
  have e := and_bitsO hx hy
  rw [le_zip (fun _ hb => bitsOf_bit hb) (fun _ hb => bitsOf_bit hb) h] at e
  have e2 := congrArg octOf e
  rw [octOf_bitsOf (and_oct hx hy), octOf_bitsOf hx] at e2
  exact e2
theorem oct_le {x y : Int} (hx : 0 ≤ x ∧ x ≤ 255) (hy : 0 ≤ y ∧ y ≤ 255) (h : Builtin.bitAnd x y = x) : Le (bitsOf x) (bitsOf y) := by
  have e := (oct_and hy hx).2
  rw [and_comm_o hy.1 hx.1, h] at e
  exact e
theorem oct_tail {x : Int} {xs : List Int} (h : Oct (x :: xs)) : (0 ≤ x ∧ x ≤ 255) ∧ Oct xs := ⟨h x (List.mem_cons_self ..), fun z hz => h z (List.mem_cons_of_mem _ hz)⟩
theorem inn_le : ∀ {xs ys : List Int}, Oct xs → Oct ys → xs.length = ys.length → Inn xs ys → Le (bitsL xs) (bitsL ys)
  | [], [], _, _, _, _ => Le.refl _
  | x :: xs, y :: ys, ox, oy, l, h => by
    obtain ⟨h1, h2⟩ := inn_cons h
    rw [bitsL_cons, bitsL_cons]
    exact le_app (oct_le (oct_tail ox).1 (oct_tail oy).1 h1) (inn_le (oct_tail ox).2 (oct_tail oy).2 (by simpa using l) h2)
  | [], _ :: _, _, _, l, _ => by cases l
  | _ :: _, [], _, _, l, _ => by cases l
theorem le_inn : ∀ {xs ys : List Int}, Oct xs → Oct ys → xs.length = ys.length → Le (bitsL xs) (bitsL ys) → Inn xs ys
  | [], [], _, _, _, _ => fun j hj => by cases hj
  | x :: xs, y :: ys, ox, oy, l, h => by
    rw [bitsL_cons, bitsL_cons] at h
    obtain ⟨h1, h2⟩ := le_split (as := bitsOf x) (bs := bitsOf y) rfl h
    exact cons_inn (le_oct (oct_tail ox).1 (oct_tail oy).1 h1) (le_inn (oct_tail ox).2 (oct_tail oy).2 (by simpa using l) h2)
  | [], _ :: _, _, _, l, _ => by cases l
  | _ :: _, [], _, _, l, _ => by cases l
theorem inn_anti {xs ys : List Int} (ox : Oct xs) (oy : Oct ys) (l : xs.length = ys.length) (h1 : Inn xs ys) (h2 : Inn ys xs) : xs = ys := by
  refine List.ext_getElem l fun j hj hj2 => ?_
  have a1 := h1 j hj
  have a2 := h2 j hj2
  have bx := getD_oct ox hj
  have by_ := getD_oct oy hj2
  have e1 : xs.getD j 0 = xs[j] := by rw [List.getD_eq_getElem?_getD, List.getElem?_eq_getElem hj]; rfl
  have e2 : ys.getD j 0 = ys[j] := by rw [List.getD_eq_getElem?_getD, List.getElem?_eq_getElem hj2]; rfl
  rw [← e1, ← e2, ← a1, and_comm_o bx.1 by_.1, a2]
/-- what comes of a mask -/
def mixL (X Y : List Int) (m : Int) : List Int := octetsL (turned (bitsL X) (bitsL Y) m)
theorem mixL_spec {X Y : List Int} (m : Int) (l : X.length = Y.length) : bitsL (mixL X Y m) = turned (bitsL X) (bitsL Y) m ∧ Oct (mixL X Y m) ∧ (mixL X Y m).length = X.length := by
  have lb : (bitsL X).length = (bitsL Y).length := by rw [bitsL_len, bitsL_len, l]
  exact octetsL_spec (n := X.length) (by rw [turned_len _ _ _ lb, bitsL_len]) (turned_bit _ _ _ (bitsL_bit _) (bitsL_bit _))
theorem mix_down {X Y : List Int} (m : Int) (ox : Oct X) (oy : Oct Y) (l : X.length = Y.length) (h : Inn Y X) : Inn Y (mixL X Y m) ∧ Inn (mixL X Y m) X := by
  obtain ⟨e, oz, lz⟩ := mixL_spec m l
  have t := turned_down m (inn_le oy ox l.symm h)
  rw [← e] at t
  exact ⟨le_inn oy oz (by omega) t.1, le_inn oz ox lz t.2⟩
theorem mix_up {X Y : List Int} (m : Int) (ox : Oct X) (oy : Oct Y) (l : X.length = Y.length) (h : Inn X Y) : Inn X (mixL X Y m) ∧ Inn (mixL X Y m) Y := by
  obtain ⟨e, oz, lz⟩ := mixL_spec m l
  have t := turned_up m (inn_le ox oy l h)
  rw [← e] at t
  exact ⟨le_inn ox oz (by omega) t.1, le_inn oz oy (by omega) t.2⟩
/-! ### pages of a block -/
def pg (X : List Int) (p : Nat) : List Int := (X.drop (31 * p)).take 31
theorem pg_len {X : List Int} {p : Nat} (l : X.length = 248) (h : p < 8) : (pg X p).length = 31 := by
  unfold pg
  rw [List.length_take, List.length_drop]
  omega
theorem pg_get {X : List Int} {p j : Nat} (h : j < 31) : (pg X p).getD j 0 = X.getD (31 * p + j) 0 := by
  unfold pg
  rw [List.getD_eq_getElem?_getD, List.getElem?_take, if_pos h, List.getElem?_drop, ← List.getD_eq_getElem?_getD]
theorem pg_oct {X : List Int} (o : Oct X) (p : Nat) : Oct (pg X p) := fun x hx => o x (List.mem_of_mem_drop (List.mem_of_mem_take hx))
theorem pg_inn {X Y : List Int} (l : X.length = 248) {p : Nat} (hp : p < 8) (h : Inn X Y) : Inn (pg X p) (pg Y p) := by
  intro j hj
  rw [pg_len l hp] at hj
  rw [pg_get hj, pg_get hj]
  exact h _ (by omega)
theorem wrote_len {X ws : List Int} {p : Nat} (l : X.length = 248) (lw : ws.length = 31) (hp : p < 8) : (wrote X ws p).length = 248 := by
  have l1 := pg_len l hp
  have b := both_len (f := Builtin.bitAnd) (xs := pg X p) (ys := ws) (by omega)
  unfold wrote
  rw [List.length_append, List.length_append, List.length_take, List.length_drop]
  show _ + ((both Builtin.bitAnd (pg X p) ws).length + _) = _
  omega
theorem wrote_get {X ws : List Int} {p i : Nat} (l : X.length = 248) (lw : ws.length = 31) (hp : p < 8) : (wrote X ws p).getD i 0 = if 31 * p ≤ i ∧ i < 31 * p + 31 then Builtin.bitAnd (X.getD i 0) (ws.getD (i - 31 * p) 0) else X.getD i 0 := by
  have l1 := pg_len l hp
  have b := both_len (f := Builtin.bitAnd) (xs := pg X p) (ys := ws) (by omega)
  have lt : (X.take (31 * p)).length = 31 * p := by rw [List.length_take]; omega
  unfold wrote
  show (X.take (31 * p) ++ (both Builtin.bitAnd (pg X p) ws ++ X.drop (31 * p + 31))).getD i 0 = _
  rw [List.getD_eq_getElem?_getD]
  by_cases h1 : i < 31 * p
  · rw [if_neg (by omega), List.getElem?_append_left (by omega), List.getElem?_take, if_pos h1, ← List.getD_eq_getElem?_getD]
  · rw [List.getElem?_append_right (by omega), lt]
    by_cases h2 : i < 31 * p + 31
    · rw [if_pos ⟨by omega, h2⟩, List.getElem?_append_left (by omega)]
      obtain ⟨y, hy⟩ := get_lt (l := both Builtin.bitAnd (pg X p) ws) (i := i - 31 * p) (by omega)
      obtain ⟨x1, w1, e1, e2, rfl⟩ := both_get hy
      have e3 := pg_get (X := X) (p := p) (j := i - 31 * p) (by omega)
      rw [List.getD_eq_getElem?_getD, e1] at e3
      have ei : 31 * p + (i - 31 * p) = i := by omega
      rw [ei] at e3
      rw [hy, ← e3, List.getD_eq_getElem?_getD, e2]
      rfl
    · rw [if_neg (by omega), List.getElem?_append_right (by omega), b, l1, List.getElem?_drop, ← List.getD_eq_getElem?_getD]
      congr 1
      omega
theorem and_self_o {x y : Int} (hx : 0 ≤ x ∧ x ≤ 255) (hy : 0 ≤ y ∧ y ≤ 255) : Builtin.bitAnd (Builtin.bitAnd x y) x = Builtin.bitAnd x y := by
  obtain ⟨a, rfl⟩ := nat_of hx.1
  obtain ⟨b, rfl⟩ := nat_of hy.1
  rw [VB.bitAnd_nn, VB.bitAnd_nn]
  congr 1
  rw [Nat.and_assoc, Nat.and_comm b a, ← Nat.and_assoc, Nat.and_self]
theorem and_same {x : Int} (hx : 0 ≤ x ∧ x ≤ 255) : Builtin.bitAnd x x = x := by
  obtain ⟨a, rfl⟩ := nat_of hx.1
  rw [VB.bitAnd_nn, Nat.and_self]
theorem wrote_inn {X ws : List Int} {p : Nat} (ox : Oct X) (ow : Oct ws) (l : X.length = 248) (lw : ws.length = 31) (hp : p < 8) : Inn (wrote X ws p) X := by
  intro i hi
  rw [wrote_len l lw hp] at hi
  rw [wrote_get l lw hp]
  have bx := getD_oct ox (j := i) (by omega)
  split
  · exact and_self_o bx (getD_oct ow (by omega))
  · exact and_same bx
theorem wrote_other {X ws : List Int} {p q : Nat} (l : X.length = 248) (lw : ws.length = 31) (hp : p < 8) (hq : q < 8) (n : q ≠ p) : pg (wrote X ws p) q = pg X q := by
  refine List.ext_getElem (by rw [pg_len (wrote_len l lw hp) hq, pg_len l hq]) fun j h1 h2 => ?_
  have hj : j < 31 := by rw [pg_len l hq] at h2; exact h2
  have e1 := pg_get (X := wrote X ws p) (p := q) hj
  have e2 := pg_get (X := X) (p := q) hj
  rw [wrote_get l lw hp, if_neg (by omega), ← e2, List.getD_eq_getElem?_getD, List.getD_eq_getElem?_getD, List.getElem?_eq_getElem h1, List.getElem?_eq_getElem h2] at e1
  exact e1
/-- on a rest: just what is written -/
theorem wrote_rest {X ws : List Int} {p : Nat} (ox : Oct X) (ow : Oct ws) (l : X.length = 248) (lw : ws.length = 31) (hp : p < 8) (h : Inn ws (pg X p)) : pg (wrote X ws p) p = ws := by
  refine List.ext_getElem (by rw [pg_len (wrote_len l lw hp) hp, lw]) fun j h1 h2 => ?_
  have hj : j < 31 := by omega
  have e1 := pg_get (X := wrote X ws p) (p := p) hj
  have h3 := h j h2
  rw [pg_get hj] at h3
  have bx := getD_oct ox (j := 31 * p + j) (by omega)
  have bw := getD_oct ow h2
  have e5 : 31 * p + j - 31 * p = j := by omega
  rw [wrote_get l lw hp, if_pos (by omega), e5, and_comm_o bx.1 bw.1, h3, List.getD_eq_getElem?_getD, List.getD_eq_getElem?_getD, List.getElem?_eq_getElem h1, List.getElem?_eq_getElem h2] at e1
  exact e1
end K6
namespace K6
open PySem PySem.Spec PyProof.Rows L2 VB BM
section
variable {K : PySem.W.Frag}
/-- what an op does to a chip, for what comes after -/
def Rs (s s' : CS) (b : Nat) (ns : List Int) (v : Bool) : Prop := (s'.c.pages = s.c.pages ∧ s'.c.o = s.c.o ∧ s'.c.e = s.c.e ∧ s'.c.t = s.c.t ∧ s'.c.p = s.c.p ∧ s'.c.q = s.c.q ∧ s'.c.r = s.c.r ∧ s'.os.length = s.os.length ∧ s'.kp = dropK s.kp (Sum.inl s.c.ops : Key) ∧ s'.kq = dropK s.kq (Sum.inl s.c.ops : Key)) ∧
  ((s'.os.getD b [] = s.os.getD b [] ∧ v = false) ∨ (∃ m, s'.os.getD b [] = mixL (s.os.getD b []) ns m ∧ v = false) ∨ s'.os.getD b [] = ns)
theorem ends_rs {CP a dx : Addr} {s : CS} {b : Nat} {ns : List Int} {H : Hp} {Q : VK} (hb : b < s.os.length)
    (q : ∀ (s' : CS) (r : V) (v : Bool) (H' : Hp), Fr a s.c H H' → ChipAt K H' a dx s' → Rs s s' b ns v → (r = .bl v ∨ (r = .non ∧ v = false)) → Q r H') : Ends K CP a dx s b ns H Q (fun _ _ H' => Q .non H') := by
  have g : ∀ (y : List Int), (s.os.set b y).getD b [] = y := fun y => by rw [getD_set _ _ _ _ _ hb, if_pos rfl]
  refine ⟨fun m s' d H' _ hf _ _ hc hs => ?_, fun s' v H' _ hf hc hs => ?_⟩
  · obtain ⟨r, rfl⟩ := hs
    refine q _ .non false H' hf hc ?_ (.inr ⟨rfl, rfl⟩)
    by_cases z : s.tb.getD b false = true
    · rw [if_pos z]
      exact ⟨⟨rfl, rfl, rfl, rfl, rfl, rfl, rfl, rfl, rfl, rfl⟩, .inl ⟨rfl, rfl⟩⟩
    · rw [if_neg z]
      exact ⟨⟨rfl, rfl, rfl, rfl, rfl, rfl, rfl, List.length_set, rfl, rfl⟩, .inr (.inl ⟨m, g _, rfl⟩)⟩
  · obtain ⟨nw, ⟨_, rfl, rfl⟩ | ⟨_, m, r, _, _, rfl, rfl⟩ | ⟨_, _, rfl, rfl⟩⟩ := hs
    · exact q _ _ _ H' hf hc ⟨⟨rfl, rfl, rfl, rfl, rfl, rfl, rfl, rfl, rfl, rfl⟩, .inl ⟨rfl, rfl⟩⟩ (.inl rfl)
    · exact q _ _ _ H' hf hc ⟨⟨rfl, rfl, rfl, rfl, rfl, rfl, rfl, List.length_set, rfl, rfl⟩, .inr (.inl ⟨m, g _, rfl⟩)⟩ (.inl rfl)
    · exact q _ _ _ H' hf hc ⟨⟨rfl, rfl, rfl, rfl, rfl, rfl, rfl, List.length_set, rfl, rfl⟩, .inr (.inr (g _))⟩ (.inl rfl)
def Own (ch : Addr) (c : Cp) (x : Addr) : Prop := x = ch ∨ x = c.o ∨ x = c.e ∨ x = c.t ∨ x = c.p ∨ x = c.q ∨ x = c.r
theorem Fr.out {ch x : Addr} {c : Cp} {H H' : Hp} {u : HO} (f : Fr ch c H H') (h : ¬ Own ch c x) (hx : H x = some u) : H' x = some u :=
  f x u (fun e => h (.inl e)) (fun e => h (.inr (.inl e))) (fun e => h (.inr (.inr (.inl e)))) (fun e => h (.inr (.inr (.inr (.inl e))))) (fun e => h (.inr (.inr (.inr (.inr (.inl e)))))) (fun e => h (.inr (.inr (.inr (.inr (.inr (.inl e))))))) (fun e => h (.inr (.inr (.inr (.inr (.inr (.inr e))))))) hx
/-- the box moves on -/
theorem ChipAt.exb {H H' : Hp} {bx ch dx : Addr} {s : CS} (h : ChipAt K H ch dx s) (o : ¬ Own ch s.c bx) (tb : ∀ i, i < s.os.length → s.rs.getD i 0 ≠ bx) (e : Exb bx H H') : ChipAt K H' ch dx s := by
  have n : ∀ {x : Addr}, Own ch s.c x → x ≠ bx := fun hx z => o (z ▸ hx)
  exact ⟨e _ _ (n (.inl rfl)) h.ins, e _ _ (n (.inr (.inl rfl))) h.o, e _ _ (n (.inr (.inr (.inl rfl)))) h.e, e _ _ (n (.inr (.inr (.inr (.inl rfl))))) h.t, e _ _ (n (.inr (.inr (.inr (.inr (.inl rfl)))))) h.p, e _ _ (n (.inr (.inr (.inr (.inr (.inr (.inl rfl))))))) h.q,
    fun i hi => e _ _ (tb i hi) (h.tup i hi), h.oe, h.ot, h.et, h.pq, h.nr, h.ne, h.nt, h.nb, h.b8, h.g8, h.oct, ⟨e _ _ (n (.inr (.inr (.inr (.inr (.inr (.inr rfl))))))) h.rr.1, h.rr.2⟩⟩
theorem Box.nt {H : Hp} {bx r : Addr} {n : Int} {xs : List V} (B : Box H bx n) (h : H r = some (.tup xs)) : r ≠ bx := by
  rintro rfl
  obtain ⟨_, _, _, _, hb, _⟩ := B
  rw [h] at hb
  cases hb
theorem Own.same {ch x : Addr} {c c' : Cp} (h1 : c'.o = c.o) (h2 : c'.e = c.e) (h3 : c'.t = c.t) (h4 : c'.p = c.p) (h5 : c'.q = c.q) (h6 : c'.r = c.r) (h : ¬ Own ch c x) : ¬ Own ch c' x := by
  unfold Own at *
  rw [h1, h2, h3, h4, h5, h6]
  exact h
end
end K6
namespace K6
open PySem PySem.Spec PyProof.Rows L2 VB BM
def partL (s : CS) (b : Nat) : List Int := oct4 (s.er.getD b 0).toNat ++ ([if s.tb.getD b false then 1 else 0] ++ s.os.getD b [])
def headL (s : CS) : List Int := [s.c.blocks, s.c.pages, s.c.bad] ++ (oct4 s.c.ops.toNat ++ oct4 s.c.cuts.toNat)
def imgL (s : CS) (n : Nat) : List Int := headL s ++ ((List.range n).map (partL s)).flatten
theorem imgL_succ (s : CS) (n : Nat) : imgL s (n + 1) = imgL s n ++ partL s n := by
  unfold imgL
  rw [List.range_succ, List.map_append, List.flatten_append, List.append_assoc]
  congr 2
  simp
theorem oct4_len (n : Nat) : (oct4 n).length = 4 := rfl
/-- what an image asks of a chip -/
structure Numb (s : CS) : Prop where
  ops : 0 ≤ s.c.ops ∧ s.c.ops < 4294967295
  cuts : 0 ≤ s.c.cuts ∧ s.c.cuts ≤ s.c.ops
  er : ∀ b, b < s.os.length → 0 ≤ s.er.getD b 0 ∧ s.er.getD b 0 ≤ s.c.ops
section
variable {P : Program} {w : World} {K : PySem.W.Frag} {mg : Str → Option Value} {base : Heap} {f : Addr} {fd : FuncData}
theorem partL_len {H : Hp} {a dx : Addr} {s : CS} (hc : ChipAt K H a dx s) {b : Nat} (hb : b < s.os.length) : (partL s b).length = 5 + 31 * s.c.pages.toNat := by
  have := (hc.oct b hb).2
  unfold partL
  rw [List.length_append, List.length_append, oct4_len, this]
  show 4 + (1 + _) = _
  omega
theorem imgL_len {H : Hp} {a dx : Addr} {s : CS} (hc : ChipAt K H a dx s) : ∀ n, n ≤ s.os.length → (imgL s n).length = 11 + n * (5 + 31 * s.c.pages.toNat)
  | 0, _ => by
    unfold imgL headL
    simp [oct4_len]
  | n + 1, h => by
    rw [imgL_succ, List.length_append, imgL_len hc n (by omega), partL_len hc (by omega), Nat.succ_mul n, Nat.add_assoc]
def spFour : Sp := fun vs H Q _ => ∃ n : Int, vs = [.int n] ∧ 0 ≤ n ∧ n < 4294967295 ∧ RT (IV (oct4 n.toNat)) H Q
theorem ok_four (T : Txt K mg) (F : FnP K "_four_octets" s__four_octets f fd) (C_in_octets : Cal P w K mg base CX0 3 "in_octets" ["number", "count"] spInO) : Fg P w K mg base CX0 4 f fd ["number"] spFour := by
  refine fg_of F sc__four_octets (fun vs H Q E h => ?_) (fun cdv A outer s H vs Q E hr h => ⟨_, (PSs.nox (pss_one (ps_ret (pe_cal C_in_octets hr.le pass0 (pa_cons (pe_callB (call_min2 rfl) (by rfl) T.f_min (by decide +kernel) (pa_cons (pv 0) (pa_cons (pe_op op_sub (pe_op op_pow pe_int pe_int) pe_int) pa_nil))) (pa_cons pe_int pa_nil)))))), ?_⟩)
  · obtain ⟨n, rfl, _⟩ := h
    rfl
  · obtain ⟨n, rfl, h0, h1, q⟩ := h
    have cp : CPow 2 32 := ⟨by decide, by decide, by decide⟩
    refine ⟨_, rfl, _, _, rfl, rfl, cp, _, _, rfl, rfl, _, _, rfl, ?_⟩
    have e : (2 : Int) ^ (32 : Int).toNat - 1 = 4294967295 := by decide
    rw [e, if_neg (by omega)]
    refine ⟨n.toNat, ?_, by omega, q⟩
    rw [show ((n.toNat : Nat) : Int) = n by omega]
    rfl
def spImage (K : PySem.W.Frag) : Sp := fun vs H Q _ => ∃ (a dx : Addr) (s : CS), vs = [.ref a] ∧ ChipAt K H a dx s ∧ Numb s ∧ RT (IV (imgL s s.os.length)) H Q
theorem ok_image (T : Txt K mg) (TC : TxC K) (TI : InsC K (Ch K)) (F : FnP K "image" s_image f fd) (C__four_octets : Cal P w K mg base CX0 4 "_four_octets" ["number"] spFour)
    (M_Chip__erases : CalM P w K mg base CX0 4 (Ch K) "erases" ["self", "block"] (spErases K)) (M_Chip__is_bad : CalM P w K mg base CX0 4 (Ch K) "is_bad" ["self", "block"] (spIsBad K)) : Fg P w K mg base CX0 5 f fd ["chip"] (spImage K) := by
  refine fg_of F sc_image (fun vs H Q E h => ?_) (fun cdv A outer s₀ H vs Q E hr h => ⟨_, (PSs.nox (pss_cons (ps_if (pt_not (pt_tru (K := K) (pe_callB (u_isi (K := K)) (by rfl) T.f_isinstance (by decide +kernel) (pa_cons (pv 0) (pa_cons (pe_glob (v := .ref (He.ga K "Chip")) rfl T.g_Chip rfl) pa_nil))) (by intro _; rfl)))
  (pss_one ps_never) pss_nil)
  (pss_cons (ps_set (i := 1) sc_image.nd rfl (by first | exact Or.inl rfl | exact Or.inr rfl) (pe_lst (pa_cons (pe_fldU (K := K) (pv 0) rfl) (pa_cons (pe_fldU (K := K) (pv 0) rfl) (pa_cons (pe_fldU (K := K) (pv 0) rfl) pa_nil)))))
  (pss_cons (ps_expr (pe_bm PySem.F.plainAttrs_list PySem.F.slot_list_extend PySem.F.type_list_extend (mt_extU (K := K)) (pv 1) (pa_cons (pe_cal C__four_octets hr.le pass0 (pa_cons (pe_fldU (K := K) (pv 0) rfl) pa_nil)) pa_nil)))
  (pss_cons (ps_expr (pe_bm PySem.F.plainAttrs_list PySem.F.slot_list_extend PySem.F.type_list_extend (mt_extU (K := K)) (pv 1) (pa_cons (pe_cal C__four_octets hr.le pass0 (pa_cons (pe_fldU (K := K) (pv 0) rfl) pa_nil)) pa_nil)))
  (pss_cons (ps_for PassesOwn.never rfl (pi_range1 rfl T.f_range (pa_cons (pe_fldU (K := K) (pv 0) rfl) pa_nil)) (pg_name (i := 2) sc_image.nd rfl (by first | exact Or.inl rfl | exact Or.inr rfl))
  (pss_cons (ps_expr (pe_bm PySem.F.plainAttrs_list PySem.F.slot_list_extend PySem.F.type_list_extend (mt_extU (K := K)) (pv 1) (pa_cons (pe_cal C__four_octets hr.le pass0 (pa_cons (pe_calM M_Chip__erases hr.le pass0 (pv 0) (pa_cons (pv 2) pa_nil)) pa_nil)) pa_nil)))
  (pss_cons (ps_expr (pe_bm PySem.F.plainAttrs_list PySem.F.slot_list_append PySem.F.type_list_append mt_append (pv 1) (pa_cons (pe_callTy call_int1 (by rfl) T.f_int (by decide +kernel) (pa_cons (pe_calM M_Chip__is_bad hr.le pass0 (pv 0) (pa_cons (pv 2) pa_nil)) pa_nil)) pa_nil)))
  (pss_one (ps_expr (pe_bm PySem.F.plainAttrs_list PySem.F.slot_list_extend PySem.F.type_list_extend (mt_extU (K := K)) (pv 1) (pa_cons (pe_ix (u_ix (K := K)) (pe_fldU (K := K) (pv 0) rfl) (pv 2) (fun _ _ => rfl)) pa_nil)))))))
  (pss_one (ps_ret (pe_callTy (u_tup (K := K)) (by rfl) T.f_tuple (by decide +kernel) (pa_cons (pv 1) pa_nil)))))))))), ?_⟩)
  · obtain ⟨a, dx, s, rfl, _⟩ := h
    rfl
  · obtain ⟨a, dx, s, rfl, hc, hN, q⟩ := h
    refine ⟨_, rfl, .ref a, .ref (Ch K), .ref (Ch K), .ref (Ch K), true, rfl, .own _, .base (.ins hc.ins TC.cls TI.ha TI.hn TI.htk TI.hm), TI.kit, true, rfl, iteF ?_⟩
    refine ⟨_, rfl, a, _, dx, _, _, rfl, hc.ins, TC.cls, TC.no _ (by simp), rfl, _, rfl, a, _, dx, _, _, rfl, hc.ins, TC.cls, TC.no _ (by simp), rfl, _, rfl, a, _, dx, _, _, rfl, hc.ins, TC.cls, TC.no _ (by simp), rfl, by show 3 ≤ sizeLine; decide, fun l nl => ?_⟩
    have b8 := hc.b8
    have g8 := hc.g8
    have nb := hc.nb
    -- a list, longer by a tuple
    have ext : ∀ {H1 : Hp} {r : Addr} {xs ys : List Int} {Q1 : VK}, H1 l = some (.lst (IV xs)) → H1 r = some (.tup (IV ys)) → xs.length + ys.length ≤ 20000 → Q1 .non (upd H1 l (.lst (IV (xs ++ ys)))) → rExtU K (.ref l) [.ref r] H1 Q1 := by
      intro H1 r xs ys Q1 h1 h2 hz q1
      refine .inr ⟨l, r, IV xs, IV ys, rfl, rfl, h1, SqT.of h2, by rw [iv_len, iv_len]; exact Evl.sz_of (by omega), ?_⟩
      have e : IV xs ++ IV ys = IV (xs ++ ys) := List.map_append.symm
      rw [e]
      exact q1
    have x0 := Evl.Ex.new (o := .lst [V.int s.c.blocks, V.int s.c.pages, V.int s.c.bad]) nl
    have t0 := upd_same (H := H) (a := l) (o := .lst (IV [s.c.blocks, s.c.pages, s.c.bad]))
    refine ⟨_, rfl, .inl ⟨rfl, _, SqL.of upd_same⟩, _, rfl, a, _, dx, _, _, rfl, x0 _ _ hc.ins, TC.cls, TC.no _ (by simp), rfl, s.c.ops, rfl, hN.ops.1, hN.ops.2, fun r2 H2 n2 e2 h2 => ext (e2 _ _ t0) h2 (by simp [oct4_len]) ?_⟩
    have E3 := Evl.Ex.mut (o := .lst (IV ([s.c.blocks, s.c.pages, s.c.bad] ++ oct4 s.c.ops.toNat))) (x0.trans e2) nl
    have t3 := upd_same (H := H2) (a := l) (o := .lst (IV ([s.c.blocks, s.c.pages, s.c.bad] ++ oct4 s.c.ops.toNat)))
    generalize upd H2 l (.lst (IV ([s.c.blocks, s.c.pages, s.c.bad] ++ oct4 s.c.ops.toNat))) = H3 at E3 t3 ⊢
    refine ⟨_, rfl, .inl ⟨rfl, _, SqL.of t3⟩, _, rfl, a, _, dx, _, _, rfl, E3 _ _ hc.ins, TC.cls, TC.no _ (by simp), rfl, s.c.cuts, rfl, hN.cuts.1, by have := hN.cuts.2; have := hN.ops.2; omega, fun r4 H4 n4 e4 h4 => ext (e4 _ _ t3) h4 (by simp [oct4_len]) ?_⟩
    have E5 := Evl.Ex.mut (o := .lst (IV ([s.c.blocks, s.c.pages, s.c.bad] ++ oct4 s.c.ops.toNat ++ oct4 s.c.cuts.toNat))) (E3.trans e4) nl
    have t5 := upd_same (H := H4) (a := l) (o := .lst (IV ([s.c.blocks, s.c.pages, s.c.bad] ++ oct4 s.c.ops.toNat ++ oct4 s.c.cuts.toNat)))
    have e0 : [s.c.blocks, s.c.pages, s.c.bad] ++ oct4 s.c.ops.toNat ++ oct4 s.c.cuts.toNat = imgL s 0 := by
      unfold imgL headL
      simp
    rw [e0] at E5 t5 ⊢
    generalize upd H4 l (.lst (IV (imgL s 0))) = H5 at E5 t5 ⊢
    refine ⟨_, rfl, a, _, dx, _, _, rfl, E5 _ _ hc.ins, TC.cls, TC.no _ (by simp), rfl, s.c.blocks, rfl, by omega, by omega, ?_⟩
    have nn : s.c.blocks.toNat = s.os.length := by omega
    rw [nn]
    refine for_range (lo := 0) (n := s.os.length) (fun i σ H' => i ≤ s.os.length ∧ Evl.Ex H H' ∧ H' l = some (.lst (IV (imgL s i))) ∧ ∃ v2 : Option V, σ = [some (.ref a), some (.ref l), v2]) ⟨by omega, E5, t5, _, rfl⟩ ?_ ?_
    · rintro i σ H6 hi ⟨_, E6, t6, v2, rfl⟩
      have ez : (0 : Int) + (i : Int) = (i : Int) := Int.zero_add _
      rw [ez]
      have ll := imgL_len hc i (by omega)
      have lm : i * (5 + 31 * s.c.pages.toNat) ≤ 24 * (5 + 31 * 16) := Nat.mul_le_mul (by omega) (by omega)
      have lp := (hc.oct i hi).2
      have er := hN.er i hi
      have oo := hN.ops.2
      refine ⟨_, rfl, .inl ⟨rfl, _, SqL.of t6⟩, _, rfl, a, dx, _, rfl, E6 _ _ hc.ins, rfl, _, rfl, a, s.c, i, s.er, rfl, ⟨dx, E6 _ _ hc.ins⟩, by omega, E6 _ _ hc.e, by rw [hc.ne]; exact hi, fun H7 e7 => ⟨s.er.getD i 0, rfl, er.1, by omega, fun r8 H8 n8 e8 h8 => ext (e8 _ _ (e7 _ _ t6)) h8 (by rw [oct4_len]; omega) ?_⟩⟩
      have E9 := Evl.Ex.mut (o := .lst (IV (imgL s i ++ oct4 (s.er.getD i 0).toNat))) ((E6.trans e7).trans e8) nl
      have t9 := upd_same (H := H8) (a := l) (o := .lst (IV (imgL s i ++ oct4 (s.er.getD i 0).toNat)))
      generalize upd H8 l (.lst (IV (imgL s i ++ oct4 (s.er.getD i 0).toNat))) = H9 at E9 t9 ⊢
      refine ⟨_, rfl, .inl ⟨rfl, _, SqL.of t9⟩, _, rfl, a, dx, _, rfl, E9 _ _ hc.ins, rfl, _, rfl, a, s.c, i, s.tb, rfl, ⟨dx, E9 _ _ hc.ins⟩, by omega, E9 _ _ hc.t, by rw [hc.nt]; exact hi, fun Ha ea => .inr ⟨_, rfl, ?_⟩⟩
      have ta := ea _ _ t9
      refine ⟨l, _, _, rfl, rfl, ta, by rw [iv_len, List.length_append, oct4_len]; exact Evl.sz_lt (by omega), ?_⟩
      rw [iv_snoc]
      have Eb := Evl.Ex.mut (o := .lst (IV (imgL s i ++ oct4 (s.er.getD i 0).toNat ++ [if s.tb.getD i false = true then 1 else 0]))) (E9.trans ea) nl
      have tb := upd_same (H := Ha) (a := l) (o := .lst (IV (imgL s i ++ oct4 (s.er.getD i 0).toNat ++ [if s.tb.getD i false = true then 1 else 0])))
      generalize upd Ha l (.lst (IV (imgL s i ++ oct4 (s.er.getD i 0).toNat ++ [if s.tb.getD i false = true then 1 else 0]))) = Hb at Eb tb ⊢
      refine ⟨_, rfl, .inl ⟨rfl, _, SqL.of tb⟩, _, rfl, a, _, dx, _, _, rfl, Eb _ _ hc.ins, TC.cls, TC.no _ (by simp), rfl, _, rfl, tup_ix (Eb _ _ hc.o) (by rw [hc.nr]; exact hi) (ext tb (Eb _ _ (hc.tup i hi)) (by rw [List.length_append, List.length_append, oct4_len, lp]; show _ + 1 + _ ≤ _; omega) ⟨by omega, Evl.Ex.mut Eb nl, ?_, _, rfl⟩)⟩
      rw [upd_same, imgL_succ]
      unfold partL
      rw [List.append_assoc, List.append_assoc]
    · rintro σ H6 ⟨_, E6, t6, v2, rfl⟩
      exact ⟨_, rfl, l, _, rfl, .inl ⟨SqL.of t6, fun r nr => q r _ (Evl.fresh_back E6 nr) (E6.trans (Evl.Ex.new nr)) upd_same⟩⟩
end
end K6
namespace K6
open PySem PySem.Spec PyProof.Rows L2 VB BM
/-- what an image tells, as it is to be -/
structure WfS (s : CS) : Prop where
  ne : s.er.length = s.os.length
  nt : s.tb.length = s.os.length
  nb : s.c.blocks = s.os.length
  b8 : 8 ≤ s.os.length ∧ s.os.length ≤ 24
  g8 : 8 ≤ s.c.pages ∧ s.c.pages ≤ 16
  bd : 0 ≤ s.c.bad ∧ s.c.bad ≤ (s.os.length : Int) - 7
  oct : ∀ i, i < s.os.length → Oct (s.os.getD i []) ∧ (s.os.getD i []).length = 31 * s.c.pages.toNat
  num : Numb s
  es : s.er.sum ≤ s.c.ops
  fl : (s.tb.map fun t => if t then (1 : Int) else 0).sum ≤ s.c.bad
def sizeP (s : CS) : Nat := 5 + 31 * s.c.pages.toNat
theorem WfS.part_len {s : CS} (h : WfS s) {b : Nat} (hb : b < s.os.length) : (partL s b).length = sizeP s := by
  have := (h.oct b hb).2
  unfold partL sizeP
  rw [List.length_append, List.length_append, oct4_len, this]
  show 4 + (1 + _) = _
  omega
theorem headL_len (s : CS) : (headL s).length = 11 := rfl
theorem WfS.img_len {s : CS} (h : WfS s) : ∀ n, n ≤ s.os.length → (imgL s n).length = 11 + n * sizeP s
  | 0, _ => by
    unfold imgL headL
    simp [oct4_len]
  | n + 1, hn => by
    rw [imgL_succ, List.length_append, h.img_len n (by omega), h.part_len (by omega), Nat.succ_mul n, Nat.add_assoc]
theorem oct4_oct (n : Nat) : Oct (oct4 n) := by
  intro o ho
  simp only [oct4, List.mem_cons, List.not_mem_nil, or_false] at ho
  rcases ho with rfl | rfl | rfl | rfl <;> omega
theorem WfS.part_oct {s : CS} (h : WfS s) {b : Nat} (hb : b < s.os.length) : Oct (partL s b) := by
  unfold partL
  refine oct_app (oct4_oct _) (oct_app ?_ (h.oct b hb).1)
  intro o ho
  simp only [List.mem_cons, List.not_mem_nil, or_false] at ho
  subst ho
  split <;> omega
theorem WfS.img_oct {s : CS} (h : WfS s) : ∀ n, n ≤ s.os.length → Oct (imgL s n)
  | 0, _ => by
    have e0 : imgL s 0 = [s.c.blocks, s.c.pages, s.c.bad] ++ (oct4 s.c.ops.toNat ++ oct4 s.c.cuts.toNat) := by
      unfold imgL headL
      simp
    rw [e0]
    refine oct_app ?_ (oct_app (oct4_oct _) (oct4_oct _))
    have := h.nb
    have := h.b8
    have := h.g8
    have := h.bd
    intro o ho
    simp only [List.mem_cons, List.not_mem_nil, or_false] at ho
    rcases ho with rfl | rfl | rfl <;> omega
  | n + 1, hn => by
    rw [imgL_succ]
    exact oct_app (h.img_oct n (by omega)) (h.part_oct (by omega))
/-- the parts, one behind the other -/
theorem WfS.img_part {s : CS} (h : WfS s) {b : Nat} : ∀ n, n ≤ s.os.length → b < n → ((imgL s n).drop (11 + b * sizeP s)).take (sizeP s) = partL s b
  | 0, _, hb => by omega
  | n + 1, hn, hb => by
    have ln := h.img_len n (by omega)
    have lp := h.part_len (b := n) (by omega)
    have lb := h.part_len (b := b) (by omega)
    rw [imgL_succ]
    by_cases e : b = n
    · subst e
      rw [List.drop_append_of_le_length (by omega), ← ln, List.drop_length, List.nil_append, ← lp, List.take_length]
    · have r := h.img_part n (by omega) (b := b) (by omega)
      have m : (b + 1) * sizeP s ≤ n * sizeP s := Nat.mul_le_mul_right _ (by omega)
      rw [Nat.succ_mul b] at m
      rw [List.drop_append_of_le_length (by omega), List.take_append_of_le_length (by rw [List.length_drop]; omega)]
      exact r
theorem numO_oct4 {n : Nat} (h : n < 4294967296) : numO (oct4 n) = n := by
  show ((((0 * 256 + ((n / 16777216 % 256 : Nat) : Int)) * 256 + ((n / 65536 % 256 : Nat) : Int)) * 256 + ((n / 256 % 256 : Nat) : Int)) * 256 + ((n % 256 : Nat) : Int)) = n
  omega
section
variable {P : Program} {w : World} {K : PySem.W.Frag} {mg : Str → Option Value} {base : Heap} {f : Addr} {fd : FuncData}
def spShape : Sp := fun vs H Q _ => ∃ (b g d : Int), vs = [.int b, .int g, .int d] ∧ 8 ≤ b ∧ b ≤ 24 ∧ 8 ≤ g ∧ g ≤ 16 ∧ 0 ≤ d ∧ d ≤ b - 7 ∧ Q (.bl true) H
theorem ok_shape (T : Txt K mg) (F : FnP K "_is_shape" s__is_shape f fd) (C_is_bad_count : Cal P w K mg base CX0 3 "is_bad_count" ["value", "blocks"] spBdC) (C_is_page_count : Cal P w K mg base CX0 3 "is_page_count" ["value"] spPC)
    (C_is_block_count : Cal P w K mg base CX0 3 "is_block_count" ["value"] spBC) : Fg P w K mg base CX0 4 f fd ["blocks", "pages", "bad"] spShape := by
  refine fg_of F sc__is_shape (fun vs H Q E h => ?_) (fun cdv A outer s₀ H vs Q E hr h => ⟨_, (PSs.nox (pss_one (ps_ret (pe_and (pe_cal C_is_block_count hr.le pass0 (pa_cons (pv 0) pa_nil)) (pe_and (pe_cal C_is_page_count hr.le pass0 (pa_cons (pv 1) pa_nil)) (pe_one (pe_cal C_is_bad_count hr.le pass0 (pa_cons (pv 2) (pa_cons (pv 0) pa_nil))))))))), ?_⟩)
  · obtain ⟨b, g, d, rfl, _⟩ := h
    rfl
  · obtain ⟨b, g, d, rfl, b0, b1, g0, g1, d0, d1, q⟩ := h
    exact ⟨_, rfl, b, rfl, b0, b1, true, rfl, iteT ⟨_, rfl, g, rfl, g0, g1, true, rfl, iteT ⟨_, rfl, _, rfl, d, b, rfl, d0, d1, q⟩⟩⟩
/-- an image at r -/
def ImgAt (K : PySem.W.Frag) (H : Hp) (r : Addr) (s : CS) : Prop := SqT K H r (IV (imgL s s.os.length))
def spSize (K : PySem.W.Frag) : Sp := fun vs H Q _ => ∃ (r : Addr) (s : CS), vs = [.ref r] ∧ ImgAt K H r s ∧ WfS s ∧ Q (.int (sizeP s : Int)) H
theorem img_get {s : CS} (n : Nat) : (imgL s n)[0]? = some s.c.blocks ∧ (imgL s n)[1]? = some s.c.pages ∧ (imgL s n)[2]? = some s.c.bad := ⟨rfl, rfl, rfl⟩
theorem ok_size (T : Txt K mg) (F : FnP K "_part_size" s__part_size f fd) : Fg P w K mg base CX0 1 f fd ["octets"] (spSize K) := by
  refine fg_of F sc__part_size (fun vs H Q E h => ?_) (fun cdv A outer s₀ H vs Q E hr h => ⟨_, (PSs.nox (pss_one (ps_ret (pe_op (u_add (K := K)) (pe_globI rfl T.g_BLOCK_HEAD) (pe_op (u_mul (K := K)) (pe_globI rfl T.g_PAGE_OCTETS) (pe_ix (u_ix (K := K)) (pv 0) pe_int (fun _ _ => rfl))))))), ?_⟩)
  · obtain ⟨r, s, rfl, _⟩ := h
    rfl
  · obtain ⟨r, s, rfl, hI, h, q⟩ := h
    have g := h.g8
    have mx : CMulX 31 s.c.pages := mulx_ok (a := 30) (b := 30) (by decide) (by show _ < 1073741824; omega) (by decide)
    refine ⟨_, rfl, Sv.ix (t := true) (x := .non) hI (i := 1) (iv_at (i := 1) (img_get _).2.1) (.inl ⟨_, _, rfl, rfl, mx, .inl ⟨_, _, rfl, rfl, ?_⟩⟩)⟩
    have e : (5 : Int) + 31 * s.c.pages = (sizeP s : Int) := by
      unfold sizeP
      omega
    show Q (.int (5 + 31 * s.c.pages)) H
    rw [e]
    exact q
def spParts (K : PySem.W.Frag) : Sp := fun vs H Q _ => ∃ (r : Addr) (s : CS), vs = [.ref r] ∧ ImgAt K H r s ∧ WfS s ∧
  ∀ (D : Addr) (rs : List Addr) (H' : Hp), H D = none → Evl.Ex H H' → rs.length = s.os.length → H' D = some (.lst (rs.map V.ref)) → (∀ i, i < s.os.length → H (rs.getD i 0) = none ∧ H' (rs.getD i 0) = some (.tup (IV (partL s i)))) → Q (.ref D) H'
theorem ok_parts (T : Txt K mg) (F : FnP K "_block_parts" s__block_parts f fd) (C__part_size : Cal P w K mg base CX0 1 "_part_size" ["octets"] (spSize K)) : Fg P w K mg base CX0 2 f fd ["octets"] (spParts K) := by
  refine fg_of F sc__block_parts (fun vs H Q E h => ?_) (fun cdv A outer s₀ H vs Q E hr h => ⟨_, (PSs.nox (pss_cons (ps_set (i := 1) sc__block_parts.nd rfl (by first | exact Or.inl rfl | exact Or.inr rfl) (pe_cal C__part_size hr.le pass0 (pa_cons (pv 0) pa_nil)))
  (pss_one (ps_ret (pe_lc (own := [("start", 2)]) rfl sc__block_parts.nd (pi_range3 rfl T.f_range (pa_cons (pe_globI rfl T.g_IMAGE_HEAD) (pa_cons (pe_callB (u_len (K := K)) (by rfl) T.f_len (by decide +kernel) (pa_cons (pv 0) pa_nil)) (pa_cons (pv 1) pa_nil)))) (blkOk_by (own := [("start", 2)]) (N := ["octets", "size", "start"]) (sc := defScope s__block_parts) (by decide +kernel)) (fun _ _ _ _ _ => (pg_name (i := 2) sc__block_parts.nd rfl (by first | exact Or.inl rfl | exact Or.inr rfl))) (fun _ _ _ _ _ => pts_nil) (fun _ _ _ _ _ => (pe_slice (u_sl (K := K)) (pv 0) (po_some (pv 2)) (po_some (pe_op (u_add (K := K)) (pv 2) (pv 1)))))))))), ?_⟩)
  · obtain ⟨r, s, rfl, _⟩ := h
    rfl
  · obtain ⟨r, s, rfl, hI, h, q⟩ := h
    have b8 := h.b8
    have g8 := h.g8
    have sz : 0 < sizeP s ∧ sizeP s ≤ 600 := by unfold sizeP; omega
    have ll := h.img_len s.os.length (Nat.le_refl _)
    have lm : s.os.length * sizeP s ≤ 24 * 600 := Nat.mul_le_mul b8.2 sz.2
    refine ⟨_, rfl, r, s, rfl, hI, h, ?_⟩
    refine ⟨_, rfl, _, _, rfl, Sv.len (t := true) hI, _, rfl, 11, _, (sizeP s : Int), s.os.length, rfl, ?_, fun D hD => ?_⟩
    · rw [iv_len, ll]
      have e : (((11 + s.os.length * sizeP s : Nat) : Int) - 11 - 1) / (sizeP s : Int) + 1 = (s.os.length : Int) := by
        have e1 : ((11 + s.os.length * sizeP s : Nat) : Int) - 11 - 1 = ((sizeP s - 1 : Nat) : Int) + ((s.os.length - 1 : Nat) : Int) * (sizeP s : Int) := by
          have m : s.os.length * sizeP s = (s.os.length - 1) * sizeP s + sizeP s := by
            rw [← Nat.succ_mul]
            congr 1
            omega
          rw [← Int.natCast_mul]
          omega
        have e2 : ((sizeP s - 1 : Nat) : Int) / (sizeP s : Int) = 0 := Int.ediv_eq_zero_of_lt (by omega) (by omega)
        rw [e1, Int.add_mul_ediv_right _ _ (by omega), e2]
        omega
      have rz : Builtin.Range.rangeSize 11 ((11 + s.os.length * sizeP s : Nat) : Int) (sizeP s : Int) = (s.os.length : Int) := by
        unfold Builtin.Range.rangeSize
        have m1 : 1 * 1 ≤ s.os.length * sizeP s := Nat.mul_le_mul (by omega) (by omega)
        rw [if_pos (by omega), if_pos (by omega)]
        exact e
      refine ⟨by omega, by omega, ?_, rz⟩
      unfold Builtin.Range.small
      rw [rz]
      simp only [Builtin.Range.rangeFitsLong, Bool.and_eq_true, Bool.or_eq_true, decide_eq_true_eq, beq_iff_eq]
      rw [if_pos (show ((sizeP s : Nat) : Int) > 0 by omega)]
      simp only [Bool.and_eq_true, decide_eq_true_eq]
      omega
    refine lc_it (walk_rangeC (lo := 11) (c := (sizeP s : Int)) (n := s.os.length)) (fun i H' => i ≤ s.os.length ∧ Evl.Ex H H' ∧ ∃ rs : List Addr, rs.length = i ∧ H' D = some (.lst (rs.map V.ref)) ∧ ∀ k, k < i → rs.getD k 0 ≠ D ∧ H (rs.getD k 0) = none ∧ H' (rs.getD k 0) = some (.tup (IV (partL s k)))) ⟨by omega, Evl.Ex.new hD, [], rfl, upd_same, fun k hk => by omega⟩ (fun _ _ _ _ => trivial) ?_ ?_
    · rintro i x H1 H1' hi ⟨_, e1, rs, lr, h1, ha⟩ ⟨rfl, hx⟩
      have hx : x = .int (11 + (i : Int) * (sizeP s : Int)) := hx
      have m1 : i * sizeP s + sizeP s ≤ s.os.length * sizeP s := by
        rw [← Nat.succ_mul]
        exact Nat.mul_le_mul_right _ (by omega)
      have ea : (11 : Int) + (i : Int) * (sizeP s : Int) = ((11 + i * sizeP s : Nat) : Int) := by
        rw [Int.natCast_add, Int.natCast_mul]
        rfl
      have eb : ((11 + i * sizeP s : Nat) : Int) + (sizeP s : Int) = ((11 + i * sizeP s + sizeP s : Nat) : Int) := by omega
      rw [ea] at hx
      subst hx
      refine ⟨rfl, ?_⟩
      refine ⟨_, rfl, _, rfl, _, rfl, _, rfl, _, rfl, .inl ⟨_, _, rfl, rfl, _, rfl, .inr (.inl ⟨_, _, rfl, Evl.ex_t e1 hI, ?_, fun z nz => ?_⟩)⟩⟩
      · rintro ⟨h0, _⟩
        rw [HT.sIx_nat, iv_len] at h0
        omega
      · rw [eb, cut_nn (by omega) (by omega)]
        have ep : ((imgL s s.os.length).drop (11 + i * sizeP s)).take (11 + i * sizeP s + sizeP s - (11 + i * sizeP s)) = partL s i := by
          rw [show 11 + i * sizeP s + sizeP s - (11 + i * sizeP s) = sizeP s by omega]
          exact h.img_part _ (Nat.le_refl _) hi
        rw [ep]
        have xz := Evl.Ex.new (o := .tup (IV (partL s i))) nz
        have zD : z ≠ D := fun e => by rw [e, h1] at nz; cases nz
        refine ⟨_, xz _ _ h1, by rw [List.length_map, lr]; exact Evl.sz_lt (by omega), by omega, Evl.Ex.mut (e1.trans xz) hD, rs ++ [z], by simp [lr], by rw [upd_same, List.map_append]; rfl, fun k hk => ?_⟩
        by_cases ck : k < i
        · have g1 : (rs ++ [z]).getD k 0 = rs.getD k 0 := by rw [List.getD_eq_getElem?_getD, List.getD_eq_getElem?_getD, List.getElem?_append_left (by omega)]
          obtain ⟨z1, z2, z3⟩ := ha k ck
          rw [g1]
          exact ⟨z1, z2, by rw [upd_ne z1]; exact xz _ _ z3⟩
        · have ek : k = i := by omega
          subst ek
          have g1 : (rs ++ [z]).getD k 0 = z := by
            rw [List.getD_eq_getElem?_getD, List.getElem?_append_right (by omega), lr, Nat.sub_self]
            rfl
          rw [g1]
          exact ⟨zD, Evl.fresh_back e1 nz, by rw [upd_ne zD, upd_same]⟩
    · rintro H1 ⟨_, e1, rs, lr, h1, ha⟩
      exact q D rs H1 hD e1 lr h1 fun i hi => (ha i hi).2
end
end K6
namespace K6
open PySem PySem.Spec PyProof.Rows L2 VB BM
theorem img_ops (s : CS) (n : Nat) : ((imgL s n).drop 3).take 4 = oct4 s.c.ops.toNat ∧ ((imgL s n).drop 7).take 4 = oct4 s.c.cuts.toNat := ⟨rfl, rfl⟩
theorem part_at (s : CS) (i : Nat) : (partL s i)[4]? = some (if s.tb.getD i false then 1 else 0) ∧ (partL s i).take 4 = oct4 (s.er.getD i 0).toNat ∧ (partL s i).drop 5 = s.os.getD i [] := ⟨rfl, rfl, rfl⟩
section
variable {P : Program} {w : World} {K : PySem.W.Frag} {mg : Str → Option Value} {base : Heap} {f : Addr} {fd : FuncData}
theorem tup_cut {H : Hp} {r : Addr} {O : List Int} {i j : Nat} {Q : VK} (S : SqT K H r (IV O)) (hi : 0 < i) (hij : i ≤ j) (hj : j ≤ O.length) (q : ∀ z, H z = none → Q (.ref z) (upd H z (.tup (IV ((O.drop i).take (j - i)))))) : rSlU K (.ref r) (some (i : Int)) (some (j : Int)) H Q := by
  refine .inr (.inl ⟨_, _, rfl, S, ?_, fun z nz => ?_⟩)
  · rintro ⟨h0, _⟩
    rw [HT.sIx_nat, iv_len] at h0
    omega
  · rw [cut_nn (by omega) hj]
    exact q z nz
theorem tup_cut0 {H : Hp} {r : Addr} {O : List Int} {j : Nat} {Q : VK} (S : SqT K H r (IV O)) (hj : j < O.length) (q : ∀ z, H z = none → Q (.ref z) (upd H z (.tup (IV (O.take j))))) : rSlU K (.ref r) none (some (j : Int)) H Q := by
  refine .inr (.inl ⟨_, _, rfl, S, ?_, fun z nz => ?_⟩)
  · rintro ⟨_, h0⟩
    rw [HT.sIx_nat, iv_len] at h0
    omega
  · rw [cut_n0 (by omega)]
    exact q z nz
theorem tup_cut1 {H : Hp} {r : Addr} {O : List Int} {i : Nat} {Q : VK} (S : SqT K H r (IV O)) (hi : 0 < i) (hj : i ≤ O.length) (q : ∀ z, H z = none → Q (.ref z) (upd H z (.tup (IV (O.drop i))))) : rSlU K (.ref r) (some (i : Int)) none H Q := by
  refine .inr (.inl ⟨_, _, rfl, S, ?_, fun z nz => ?_⟩)
  · rintro ⟨h0, _⟩
    rw [HT.sIx_nat, iv_len] at h0
    omega
  · rw [cut_0n hj]
    exact q z nz
def spIsImg (K : PySem.W.Frag) : Sp := fun vs H Q _ => ∃ (r : Addr) (s : CS), vs = [.ref r] ∧ ImgAt K H r s ∧ WfS s ∧ RV (.bl true) H Q
theorem ok_is_image (T : Txt K mg) (F : FnP K "_is_image" s__is_image f fd) (C__is_shape : Cal P w K mg base CX0 4 "_is_shape" ["blocks", "pages", "bad"] spShape) (C_is_octets : Cal P w K mg base CX0 3 "is_octets" ["value"] (spIsOct K))
    (C__part_size : Cal P w K mg base CX0 1 "_part_size" ["octets"] (spSize K)) (C__block_parts : Cal P w K mg base CX0 2 "_block_parts" ["octets"] (spParts K)) (C_number_in : Cal P w K mg base CX0 5 "number_in" ["octets"] (spNum K)) :
    Fg P w K mg base CX0 6 f fd ["value"] (spIsImg K) := by
  refine fg_of F sc__is_image (fun vs H Q E h => ?_) (fun cdv A outer s₀ H vs Q E hr h => ⟨_, (PSs.nox (pss_cons (ps_if (PW.pt (pw_or (pt_not (pt_tru (K := K) (pe_cal C_is_octets hr.le pass0 (pa_cons (pv 0) pa_nil)) (by intro _; rfl))) (pw_or (pt_cmpR op_lt (pe_callB (u_len (K := K)) (by rfl) T.f_len (by decide +kernel) (pa_cons (pv 0) pa_nil)) (pe_globI rfl T.g_IMAGE_HEAD) (nomark _)) (pw_or1 (pt_not (pt_tru (K := K) (pe_cal C__is_shape hr.le pass0 (pa_cons (pe_ix (u_ix (K := K)) (pv 0) pe_int (fun _ _ => rfl)) (pa_cons (pe_ix (u_ix (K := K)) (pv 0) pe_int (fun _ _ => rfl)) (pa_cons (pe_ix (u_ix (K := K)) (pv 0) pe_int (fun _ _ => rfl)) pa_nil)))) (by intro _; rfl)))))))
  (pss_one (ps_ret pe_bl)) pss_nil)
  (pss_cons (ps_if (pt_cmpR (u_ne (K := K) hr) (pe_callB (u_len (K := K)) (by rfl) T.f_len (by decide +kernel) (pa_cons (pv 0) pa_nil)) (pe_op (u_add (K := K)) (pe_globI rfl T.g_IMAGE_HEAD) (pe_op (u_mul (K := K)) (pe_ix (u_ix (K := K)) (pv 0) pe_int (fun _ _ => rfl)) (pe_cal C__part_size hr.le pass0 (pa_cons (pv 0) pa_nil)))) (nomark _))
  (pss_one (ps_ret pe_bl)) pss_nil)
  (pss_cons (ps_set (i := 1) sc__is_image.nd rfl (by first | exact Or.inl rfl | exact Or.inr rfl) (pe_cal C__block_parts hr.le pass0 (pa_cons (pv 0) pa_nil)))
  (pss_cons (ps_setLc (i := 2) (own := [("part", 4)]) rfl sc__is_image.nd rfl rfl (sw_true rfl rfl rfl (by decide +kernel)) (pi_seq (K := K) (pv 1)) (blkOk_by (own := [("part", 4)]) (N := ["value", "parts", "flags", "ops", "part"]) (sc := defScope s__is_image) (by decide +kernel)) (fun _ _ _ _ _ => (pg_name (i := 4) sc__is_image.nd rfl (by first | exact Or.inl rfl | exact Or.inr rfl))) (fun _ _ _ _ _ => pts_nil) (fun _ _ _ _ _ => (pe_ix (u_ix (K := K)) (pv 4) pe_int (fun _ _ => rfl))))
  (pss_cons (ps_if (PW.pt (pw_or (pt_cmpR op_gt (pe_callB (u_max1 (K := K) rfl) (by rfl) T.f_max (by decide +kernel) (pa_cons (pv 2) pa_nil)) pe_int (nomark _)) (pw_or1 (pt_cmpR op_gt (pe_callB (u_sum (K := K) rfl) (by rfl) T.f_sum (by decide +kernel) (pa_cons (pv 2) pa_nil)) (pe_ix (u_ix (K := K)) (pv 0) pe_int (fun _ _ => rfl)) (nomark _)))))
  (pss_one (ps_ret pe_bl)) pss_nil)
  (pss_cons (ps_set (i := 3) sc__is_image.nd rfl (by first | exact Or.inl rfl | exact Or.inr rfl) (pe_cal C_number_in hr.le pass0 (pa_cons (pe_slice (u_sl (K := K)) (pv 0) (po_some pe_int) (po_some pe_int)) pa_nil)))
  (pss_one (ps_ret (pe_and (pe_cmpR op_le (pe_cal C_number_in hr.le pass0 (pa_cons (pe_slice (u_sl (K := K)) (pv 0) (po_some pe_int) (po_some (pe_globI rfl T.g_IMAGE_HEAD))) pa_nil)) (pv 3) (nomark _)) (pe_one (pe_cmpR op_le (pe_callB (u_sum (K := K) rfl) (by rfl) T.f_sum (by decide +kernel) (pa_cons (pe_lc (own := [("part", 4)]) rfl sc__is_image.nd (pi_seq (K := K) (pv 1)) (blkOk_by (own := [("part", 4)]) (N := ["value", "parts", "flags", "ops", "part"]) (sc := defScope s__is_image) (by decide +kernel)) (fun _ _ _ _ _ => (pg_name (i := 4) sc__is_image.nd rfl (by first | exact Or.inl rfl | exact Or.inr rfl))) (fun _ _ _ _ _ => pts_nil) (fun _ _ _ _ _ => (pe_cal C_number_in hr.le pass0 (pa_cons (pe_slice (u_sl (K := K)) (pv 4) po_none (po_some pe_int)) pa_nil)))) pa_nil)) (pv 3) (nomark _))))))))))))), ?_⟩)
  · obtain ⟨r, s, rfl, _⟩ := h
    rfl
  · obtain ⟨r, s, rfl, hI, h, q⟩ := h
    have b8 := h.b8
    have g8 := h.g8
    have bd := h.bd
    have nb := h.nb
    have sz : 0 < sizeP s ∧ sizeP s ≤ 600 := by unfold sizeP; omega
    have ll := h.img_len s.os.length (Nat.le_refl _)
    have lm : s.os.length * sizeP s ≤ 24 * 600 := Nat.mul_le_mul b8.2 sz.2
    have hI : SqT K H r (IV (imgL s s.os.length)) := hI
    refine ⟨_, rfl, r, imgL s s.os.length, true, rfl, hI, h.img_oct _ (Nat.le_refl _), by omega, fun H1 e1 => ⟨true, rfl, iteF ?_⟩⟩
    have I1 := Evl.ex_t e1 hI
    have ix : ∀ {H' : Hp} {i : Nat} {v : Int} {Q' : VK}, Evl.Ex H1 H' → (imgL s s.os.length)[i]? = some v → Q' (.int v) H' → rIx K (.ref r) (.int (i : Int)) H' Q' := fun e hv q' => Sv.ix (t := true) (x := .non) (Evl.ex_t e I1) (iv_at hv) q'
    refine ⟨_, rfl, _, _, rfl, Sv.len (t := true) I1, _, _, rfl, rfl, _, rfl, ?_⟩
    rw [iv_len, decide_eq_false (by omega)]
    refine iteF ⟨_, rfl, ix (Evl.Ex.refl _) (i := 0) (img_get _).1 ⟨_, rfl, ix (Evl.Ex.refl _) (i := 1) (img_get _).2.1 ⟨_, rfl, ix (Evl.Ex.refl _) (i := 2) (img_get _).2.2 ⟨_, _, _, rfl, by omega, by omega, by omega, by omega, by omega, by omega, true, rfl, iteF ?_⟩⟩⟩⟩
    have mx : CMulX s.c.blocks (sizeP s : Int) := mulx_ok (a := 30) (b := 30) (by show _ < 1073741824; omega) (by show _ < 1073741824; omega) (by decide)
    refine ⟨_, rfl, _, _, rfl, Sv.len (t := true) I1, _, rfl, ix (Evl.Ex.refl _) (i := 0) (img_get _).1 ⟨_, rfl, r, s, rfl, I1, h, .inl ⟨_, _, rfl, rfl, mx, .inl ⟨_, _, rfl, rfl, .inl ⟨rfl, _, rfl, same_int ?_ ?_⟩⟩⟩⟩⟩
    · rw [iv_len, ll, nb]
      omega
    refine ⟨_, rfl, r, s, rfl, I1, h, fun D rs H2 nD e2 lr hD hrs => ?_⟩
    have hg : ∀ k, k < s.os.length → H2 (rs.getD k 0) = some (.tup (IV (partL s k))) := fun k hk => (hrs k hk).2
    have gx : ∀ {k : Nat} {x : V}, (rs.map V.ref)[k]? = some x → k < s.os.length ∧ x = .ref (rs.getD k 0) := by
      intro k x hx
      rw [List.getElem?_map] at hx
      obtain ⟨y, hy, rfl⟩ := Option.map_eq_some_iff.mp hx
      obtain ⟨hk, e⟩ := List.getElem?_eq_some_iff.mp hy
      exact ⟨by omega, by rw [List.getD_eq_getElem?_getD, hy]; rfl⟩
    have I2 : SqT K H2 r (IV (imgL s s.os.length)) := Evl.ex_t e2 I1
    refine seq_var (t := false) rfl (Sv.lst hD) fun J wk D2 hD2 => ?_
    rw [List.length_map, lr] at wk
    refine lc_pureVS (us := IV (s.tb.map fun t => if t then (1 : Int) else 0)) wk (fun H' ex => Sv.lst (ex _ _ hD)) (by rw [iv_len, List.length_map, h.nt]) (by omega) hD2 (fun _ => rfl) ?_ ?_
    · intro i x u H' Q' hx hu ex k
      obtain ⟨hi, rfl⟩ := gx hx
      have hb : i < s.tb.length := by rw [h.nt]; exact hi
      refine ⟨_, rfl, Sv.ix (t := true) (x := .non) (Sv.tup (ex _ _ (hg i hi))) (i := 4) (iv_at (i := 4) (part_at s i).1) ?_⟩
      have eu : u = V.int (if s.tb.getD i false = true then 1 else 0) := by
        rw [List.getElem?_map, List.getElem?_map, List.getElem?_eq_getElem hb] at hu
        rw [List.getD_eq_getElem?_getD, List.getElem?_eq_getElem hb]
        exact (Option.some.inj hu).symm
      rw [eu] at k
      exact k H' (Evl.Ex.refl _)
    intro H3 e3 h3
    have E3 := e2.trans e3
    refine ⟨_, rfl, D2, _, rfl, SqL.of h3, by rw [List.length_map, h.nt]; omega, fun m hm _ => ⟨_, _, rfl, rfl, _, rfl, ?_⟩⟩
    have m1 : m ≤ 1 := by
      obtain ⟨t, _, rfl⟩ := List.mem_map.mp hm
      split <;> omega
    rw [decide_eq_false (by omega)]
    have hfl := h.fl
    refine iteF ⟨_, rfl, D2, _, rfl, SqL.of h3, _, rfl, ix E3 (i := 2) (img_get _).2.2 ⟨_, _, rfl, rfl, _, rfl, ?_⟩⟩
    rw [decide_eq_false (by omega)]
    refine iteF ?_
    have oo := h.num.ops
    have oc := h.num.cuts
    refine ⟨_, rfl, _, rfl, _, rfl, tup_cut (i := 3) (j := 7) (Evl.ex_t e3 I2) (by omega) (by omega) (by omega) fun z nz => ⟨z, oct4 s.c.ops.toNat, true, rfl, Sv.tup upd_same, oct4_oct _, by rw [oct4_len]; omega, fun H4 e4 => ?_⟩⟩
    have n4 : numO (oct4 s.c.ops.toNat) = s.c.ops := by
      rw [numO_oct4 (by omega)]
      omega
    rw [n4]
    have E4 := e3.trans ((Evl.Ex.new (o := .tup (IV (oct4 s.c.ops.toNat))) nz).trans e4)
    refine ⟨_, rfl, _, rfl, _, rfl, tup_cut (i := 7) (j := 11) (Evl.ex_t E4 I2) (by omega) (by omega) (by omega) fun y ny => ⟨y, oct4 s.c.cuts.toNat, true, rfl, Sv.tup upd_same, oct4_oct _, by rw [oct4_len]; omega, fun H5 e5 => ?_⟩⟩
    have n5 : numO (oct4 s.c.cuts.toNat) = s.c.cuts := by
      rw [numO_oct4 (by omega)]
      omega
    rw [n5]
    have E5 := E4.trans ((Evl.Ex.new (o := .tup (IV (oct4 s.c.cuts.toNat))) ny).trans e5)
    refine ⟨_, rfl, _, _, rfl, rfl, true, ?_, iteT ?_⟩
    · show V.bl (decide (s.c.cuts ≤ s.c.ops)) = V.bl true
      rw [decide_eq_true oc.2]
    refine seq_var (t := false) rfl (Sv.lst (E5 _ _ hD)) fun J2 wk2 D3 hD3 => ?_
    rw [List.length_map, lr] at wk2
    refine lc_pureVS (us := IV s.er) wk2 (fun H' ex => Sv.lst (ex _ _ (E5 _ _ hD))) (by rw [iv_len, h.ne]) (by omega) hD3 (fun _ => rfl) ?_ ?_
    · intro i x u H' Q' hx hu ex k
      obtain ⟨hi, rfl⟩ := gx hx
      have hb : i < s.er.length := by rw [h.ne]; exact hi
      have lp := h.part_len hi
      have er := h.num.er i hi
      have l5 : 5 ≤ sizeP s := by unfold sizeP; omega
      refine ⟨_, rfl, _, rfl, tup_cut0 (j := 4) (SqT.of (ex _ _ (E5 _ _ (hg i hi)))) (by omega) fun v nv => ⟨v, oct4 (s.er.getD i 0).toNat, true, rfl, Sv.tup upd_same, oct4_oct _, by rw [oct4_len]; omega, fun H6 e6 => ?_⟩⟩
      have n6 : numO (oct4 (s.er.getD i 0).toNat) = s.er.getD i 0 := by
        rw [numO_oct4 (by omega)]
        omega
      rw [n6]
      have eu : u = V.int (s.er.getD i 0) := by
        rw [List.getElem?_map, getD_get hb] at hu
        exact (Option.some.inj hu).symm
      rw [eu] at k
      exact k H6 ((Evl.Ex.new (o := .tup (IV (oct4 (s.er.getD i 0).toNat))) nv).trans e6)
    intro H6 e6 h6
    refine ⟨D3, s.er, rfl, SqL.of h6, _, rfl, _, _, rfl, rfl, ?_⟩
    have es := h.es
    have := q H6 (e1.trans (e2.trans (E5.trans e6)))
    rw [← decide_eq_true es] at this
    exact this
end
end K6
namespace K6
open PySem PySem.Spec PyProof.Rows L2 VB BM
theorem rep_getD {α : Type} (n i : Nat) (x d : α) (h : i < n) : (List.replicate n x).getD i d = x := by
  rw [List.getD_eq_getElem?_getD, List.getElem?_replicate, if_pos h]
  rfl
theorem ext_getD {α : Type} {xs ys : List α} {d : α} (l : xs.length = ys.length) (h : ∀ i, i < ys.length → xs.getD i d = ys.getD i d) : xs = ys := by
  refine List.ext_getElem l fun i h1 h2 => ?_
  have e := h i h2
  rw [List.getD_eq_getElem?_getD, List.getD_eq_getElem?_getD, List.getElem?_eq_getElem h1, List.getElem?_eq_getElem h2] at e
  exact e
/-- a new chip -/
def newS (c : Cp) (rs : List Addr) (n g : Nat) : CS := ⟨c, rs, List.replicate n (List.replicate (31 * g) 255), List.replicate n 0, List.replicate n false, [], []⟩
section
variable {P : Program} {w : World} {K : PySem.W.Frag} {mg : Str → Option Value} {base : Heap} {f : Addr} {fd : FuncData}
theorem newChip {H : Hp} {x dx : Addr} {c : Cp} {rs : List Addr} {n g : Nat} (n0 : n ≤ 24) (g0 : 8 ≤ g ∧ g ≤ 16) (c1 : c.blocks = (n : Int)) (c2 : c.pages = (g : Int)) (h1 : H x = some (.ins (Ch K) dx c.fs)) (lr : rs.length = n) (ar : ∀ r ∈ rs, H r = some (.tup (IV (List.replicate (31 * g) 255))))
    (ho : H c.o = some (.lst (rs.map V.ref))) (he : H c.e = some (.lst (IV (List.replicate n 0)))) (ht : H c.t = some (.lst (BV (List.replicate n false)))) (hp : H c.p = some (.dK [])) (hq : H c.q = some (.dK [])) (hrr : H c.r = some (.dK [])) (n1 : c.o ≠ c.e) (n2 : c.o ≠ c.t) (n3 : c.e ≠ c.t) (n4 : c.p ≠ c.q) (n5 : c.p ≠ c.r) (n6 : c.q ≠ c.r) :
    ChipAt K H x dx (newS c rs n g) := by
  have ln : (newS c rs n g).os.length = n := List.length_replicate
  refine ⟨h1, ho, he, ht, hp, hq, fun i hi => ?_, n1, n2, n3, n4, ?_, ?_, ?_, ?_, ?_, ?_, fun i hi => ?_, hrr, n5, n6⟩
  · rw [ln] at hi
    show H (rs.getD i 0) = some (.tup (IV ((List.replicate n (List.replicate (31 * g) (255 : Int))).getD i [])))
    rw [rep_getD _ _ _ _ hi]
    refine ar _ ?_
    rw [List.getD_eq_getElem?_getD, List.getElem?_eq_getElem (by omega)]
    exact List.getElem_mem _
  · rw [ln]
    exact lr
  · rw [ln]
    exact List.length_replicate
  · rw [ln]
    exact List.length_replicate
  · rw [ln]
    exact c1
  · rw [ln]
    exact n0
  · show 8 ≤ c.pages ∧ c.pages ≤ 16
    omega
  · rw [ln] at hi
    show Oct ((List.replicate n (List.replicate (31 * g) (255 : Int))).getD i []) ∧ ((List.replicate n (List.replicate (31 * g) (255 : Int))).getD i []).length = 31 * c.pages.toNat
    rw [rep_getD _ _ _ _ hi]
    exact ⟨oct_255 _, by rw [List.length_replicate, c2]; rfl⟩
theorem ChipAt.own {H : Hp} {a dx x : Addr} {s : CS} (h : ChipAt K H a dx s) (o : Own a s.c x) : ∃ u, H x = some u := by
  rcases o with rfl | rfl | rfl | rfl | rfl | rfl | rfl
  · exact ⟨_, h.ins⟩
  · exact ⟨_, h.o⟩
  · exact ⟨_, h.e⟩
  · exact ⟨_, h.t⟩
  · exact ⟨_, h.p⟩
  · exact ⟨_, h.q⟩
  · exact ⟨_, h.rr.1⟩
/-- alike in what an image tells -/
def Alike (s s' : CS) : Prop := s'.os = s.os ∧ s'.er = s.er ∧ s'.tb = s.tb ∧ s'.c.blocks = s.c.blocks ∧ s'.c.pages = s.c.pages ∧ s'.c.bad = s.c.bad ∧ s'.c.ops = s.c.ops ∧ s'.c.cuts = s.c.cuts
def spReadI (K : PySem.W.Frag) : Sp := fun vs H Q _ => ∃ (r : Addr) (s : CS), vs = [.ref r] ∧ ImgAt K H r s ∧ WfS s ∧
  ∀ (x dx : Addr) (s' : CS) (H' : Hp), (∀ y, Own x s'.c y → H y = none) → Evl.Ex H H' → ChipAt K H' x dx s' → Alike s s' → s'.kp = [] → s'.kq = [] → Q (.ref x) H'
theorem ok_read_image (T : Txt K mg) (TC : TxC K) (F : FnP K "read_image" s_read_image f fd) (C__is_image : Cal P w K mg base CX0 6 "_is_image" ["value"] (spIsImg K)) (N_Chip : Mak P w K mg base CX0 4 "Chip" (Ch K) ["self", "blocks", "pages", "bad"] (spInitC K))
    (C_number_in : Cal P w K mg base CX0 5 "number_in" ["octets"] (spNum K)) (C__block_parts : Cal P w K mg base CX0 2 "_block_parts" ["octets"] (spParts K)) : Fg P w K mg base CX0 7 f fd ["octets"] (spReadI K) := by
  refine fg_of F sc_read_image (fun vs H Q E h => ?_) (fun cdv A outer s₀ H vs Q E hr h => ⟨_, (PSs.nox (pss_cons (ps_if (pt_not (pt_tru (K := K) (pe_cal C__is_image hr.le pass0 (pa_cons (pv 0) pa_nil)) (by intro _; rfl)))
  (pss_one ps_never) pss_nil)
  (pss_cons (ps_set (i := 1) sc_read_image.nd rfl (by first | exact Or.inl rfl | exact Or.inr rfl) (pe_mak N_Chip hr.le pass0 (pa_cons (pe_ix (u_ix (K := K)) (pv 0) pe_int (fun _ _ => rfl)) (pa_cons (pe_ix (u_ix (K := K)) (pv 0) pe_int (fun _ _ => rfl)) (pa_cons (pe_ix (u_ix (K := K)) (pv 0) pe_int (fun _ _ => rfl)) pa_nil)))))
  (pss_cons (ps_fldU (K := K) (pv 1) (pe_cal C_number_in hr.le pass0 (pa_cons (pe_slice (u_sl (K := K)) (pv 0) (po_some pe_int) (po_some pe_int)) pa_nil)) rfl)
  (pss_cons (ps_fldU (K := K) (pv 1) (pe_cal C_number_in hr.le pass0 (pa_cons (pe_slice (u_sl (K := K)) (pv 0) (po_some pe_int) (po_some (pe_globI rfl T.g_IMAGE_HEAD))) pa_nil)) rfl)
  (pss_cons (ps_for PassesOwn.never rfl (pi_enu (K := K) rfl T.f_enumerate (pa_cons (pe_cal C__block_parts hr.le pass0 (pa_cons (pv 0) pa_nil)) pa_nil)) (pg_tupU (K := K) (n := 2) rfl (pgs_cons (pg_name (i := 2) sc_read_image.nd rfl (by first | exact Or.inl rfl | exact Or.inr rfl)) (pgs_cons (pg_name (i := 3) sc_read_image.nd rfl (by first | exact Or.inl rfl | exact Or.inr rfl)) pgs_nil)))
  (pss_cons (ps_asg (pe_cal C_number_in hr.le pass0 (pa_cons (pe_slice (u_sl (K := K)) (pv 3) po_none (po_some pe_int)) pa_nil)) (pg_sub (pe_fldU (K := K) (pv 1) rfl) (pv 2) set_list))
  (pss_cons (ps_asg (pe_cmpR (u_eq (K := K) hr) (pe_ix (u_ix (K := K)) (pv 3) pe_int (fun _ _ => rfl)) pe_int (nomark _)) (pg_sub (pe_fldU (K := K) (pv 1) rfl) (pv 2) set_list))
  (pss_one (ps_asg (pe_callTy (u_tup (K := K)) (by rfl) T.f_tuple (by decide +kernel) (pa_cons (pe_slice (u_sl (K := K)) (pv 3) (po_some (pe_globI rfl T.g_BLOCK_HEAD)) po_none) pa_nil)) (pg_sub (pe_fldU (K := K) (pv 1) rfl) (pv 2) set_list))))))
  (pss_one (ps_ret (pv 1))))))))), ?_⟩)
  · obtain ⟨r, s, rfl, _⟩ := h
    rfl
  · obtain ⟨r, s, rfl, hI, h, q⟩ := h
    have b8 := h.b8
    have g8 := h.g8
    have bd := h.bd
    have nb := h.nb
    have oo := h.num.ops
    have oc := h.num.cuts
    have sz : 0 < sizeP s ∧ sizeP s ≤ 600 := by unfold sizeP; omega
    have ll := h.img_len s.os.length (Nat.le_refl _)
    have hI : SqT K H r (IV (imgL s s.os.length)) := hI
    refine ⟨_, rfl, r, s, rfl, hI, h, fun H1 e1 => ⟨true, rfl, iteF ?_⟩⟩
    have I1 := Evl.ex_t e1 hI
    have ix : ∀ {H' : Hp} {i : Nat} {v : Int} {Q' : VK}, Evl.Ex H1 H' → (imgL s s.os.length)[i]? = some v → Q' (.int v) H' → rIx K (.ref r) (.int (i : Int)) H' Q' := fun e hv q' => Sv.ix (t := true) (x := .non) (Evl.ex_t e I1) (iv_at hv) q'
    refine ⟨_, rfl, ix (Evl.Ex.refl _) (i := 0) (img_get _).1 ⟨_, rfl, ix (Evl.Ex.refl _) (i := 1) (img_get _).2.1 ⟨_, rfl, ix (Evl.Ex.refl _) (i := 2) (img_get _).2.2 ?_⟩⟩⟩
    refine fun x dx hx hdx ndx => ⟨x, dx, s.os.length, s.c.pages.toNat, s.c.bad.toNat, ?_, upd_same, by omega, by omega, by omega, by omega, by omega, fun c rs H2 c1 c2 c3 c4 c5 ke h1 lr ar ho he ht hp hq hrr n1 n2 n3 n4 n5 n6 fo fe ft fp fq frr => ⟨rfl, ?_⟩⟩
    · rw [show ((s.c.pages.toNat : Nat) : Int) = s.c.pages by omega, show ((s.c.bad.toNat : Nat) : Int) = s.c.bad by omega, ← nb]
      rfl
    have hC := newChip (K := K) b8.2 ⟨by omega, by omega⟩ c1 c2 h1 lr ar ho he ht hp hq hrr n1 n2 n3 n4 n5 n6
    have E2 : Evl.Ex H1 H2 := by
      intro y u hy
      have y1 : y ≠ x := fun z => by rw [z, hx] at hy; cases hy
      have y2 : y ≠ dx := fun z => by rw [z, hdx] at hy; cases hy
      exact ke y u y1 (by rw [upd_ne y1, upd_ne y2]; exact hy)
    have out : ∀ {y : Addr}, Own x c y → H1 y = none := by
      intro y o
      cases hy : H1 y with
      | none => rfl
      | some u =>
        have y1 : y ≠ x := fun z => by rw [z, hx] at hy; cases hy
        have y2 : y ≠ dx := fun z => by rw [z, hdx] at hy; cases hy
        have g : upd (upd H1 dx (.own x)) x (.ins (Ch K) dx []) y = some u := by rw [upd_ne y1, upd_ne y2]; exact hy
        rcases o with rfl | rfl | rfl | rfl | rfl | rfl | rfl
        · exact absurd rfl y1
        · rw [fo] at g; cases g
        · rw [fe] at g; cases g
        · rw [ft] at g; cases g
        · rw [fp] at g; cases g
        · rw [fq] at g; cases g
        · rw [frr] at g; cases g
    clear ke h1 ar ho he ht hp hq hrr fo fe ft fp fq frr
    have n4 : numO (oct4 s.c.ops.toNat) = s.c.ops := by
      rw [numO_oct4 (by omega)]
      omega
    have n5 : numO (oct4 s.c.cuts.toNat) = s.c.cuts := by
      rw [numO_oct4 (by omega)]
      omega
    refine ⟨_, rfl, _, rfl, _, rfl, tup_cut (i := 3) (j := 7) (Evl.ex_t E2 I1) (by omega) (by omega) (by omega) fun z nz => ⟨z, oct4 s.c.ops.toNat, true, rfl, Sv.tup upd_same, oct4_oct _, by rw [oct4_len]; omega, fun H3 e3 => ?_⟩⟩
    rw [n4]
    have x3 := (Evl.Ex.new (o := .tup (IV (oct4 s.c.ops.toNat))) nz).trans e3
    have C3 := hC.ex x3
    refine ⟨_, rfl, x, _, dx, _, rfl, C3.ins, TC.cls, TC.no _ (by simp), by show 11 < 1000; decide, ?_⟩
    rw [put_ops]
    have C4 := C3.setc { c with ops := s.c.ops } rfl rfl rfl rfl rfl rfl rfl rfl
    have E4 : Evl.Ex H1 (upd H3 x (.ins (Ch K) dx ({ c with ops := s.c.ops } : Cp).fs)) := Evl.Ex.mut (E2.trans x3) (out (.inl rfl))
    generalize hH4 : upd H3 x (.ins (Ch K) dx ({ c with ops := s.c.ops } : Cp).fs) = H4 at C4 E4
    have hH4' : upd H3 x (.ins (Ch K) dx ({ (newS c rs s.os.length s.c.pages.toNat).c with ops := s.c.ops } : Cp).fs) = H4 := hH4
    rw [hH4']
    refine ⟨_, rfl, _, rfl, _, rfl, tup_cut (i := 7) (j := 11) (Evl.ex_t E4 I1) (by omega) (by omega) (by omega) fun z nz => ⟨z, oct4 s.c.cuts.toNat, true, rfl, Sv.tup upd_same, oct4_oct _, by rw [oct4_len]; omega, fun H5 e5 => ?_⟩⟩
    rw [n5]
    have x5 := (Evl.Ex.new (o := .tup (IV (oct4 s.c.cuts.toNat))) nz).trans e5
    have C5 := C4.ex x5
    refine ⟨_, rfl, x, _, dx, _, rfl, C5.ins, TC.cls, TC.no _ (by simp), by show 11 < 1000; decide, ?_⟩
    rw [put_cuts]
    have C6 := C5.setc { c with ops := s.c.ops, cuts := s.c.cuts } rfl rfl rfl rfl rfl rfl rfl rfl
    have E6 : Evl.Ex H1 (upd H5 x (.ins (Ch K) dx ({ c with ops := s.c.ops, cuts := s.c.cuts } : Cp).fs)) := Evl.Ex.mut (E4.trans x5) (out (.inl rfl))
    show (tSeq _ _) _ _ (upd H5 x (.ins (Ch K) dx ({ c with ops := s.c.ops, cuts := s.c.cuts } : Cp).fs))
    generalize upd H5 x (.ins (Ch K) dx ({ c with ops := s.c.ops, cuts := s.c.cuts } : Cp).fs) = H6 at C6 E6 ⊢
    have out' : ∀ {y : Addr}, Own x ({ c with ops := s.c.ops, cuts := s.c.cuts } : Cp) y → H1 y = none := fun o => out o
    have cc : ({ c with ops := s.c.ops, cuts := s.c.cuts } : Cp).blocks = s.c.blocks ∧ ({ c with ops := s.c.ops, cuts := s.c.cuts } : Cp).pages = s.c.pages ∧ ({ c with ops := s.c.ops, cuts := s.c.cuts } : Cp).bad = s.c.bad ∧ ({ c with ops := s.c.ops, cuts := s.c.cuts } : Cp).ops = s.c.ops ∧ ({ c with ops := s.c.ops, cuts := s.c.cuts } : Cp).cuts = s.c.cuts :=
      ⟨by show c.blocks = _; omega, by show c.pages = _; omega, by show c.bad = _; omega, rfl, rfl⟩
    generalize ({ c with ops := s.c.ops, cuts := s.c.cuts } : Cp) = c' at C6 out' cc
    have C6 : ChipAt K H6 x dx ⟨c', rs, List.replicate s.os.length (List.replicate (31 * s.c.pages.toNat) 255), List.replicate s.os.length 0, List.replicate s.os.length false, [], []⟩ := C6
    refine ⟨_, rfl, r, s, rfl, Evl.ex_t E6 I1, h, fun D rp H7 nD e7 lp hD hrp => ⟨D, _, rfl, SqL.of hD, ?_⟩⟩
    have C7 := C6.ex e7
    have oD : ¬ Own x c' D := fun o => by
      obtain ⟨u, hu⟩ := C6.own o
      rw [nD] at hu
      cases hu
    have op : ∀ k, k < s.os.length → ¬ Own x c' (rp.getD k 0) := fun k hk o => by
      obtain ⟨u, hu⟩ := C6.own o
      rw [(hrp k hk).1] at hu
      cases hu
    refine for_it (walk_enum (K := K) (a := D) (xs := rp.map V.ref)) (fun i σ H' => ∃ (v2 v3 : Option V) (u : CS), σ = [some (.ref r), some (.ref x), v2, v3] ∧ Evl.Ex H1 H' ∧ Fr x c' H7 H' ∧ ChipAt K H' x dx u ∧ u.c = c' ∧ u.kp = [] ∧ u.kq = [] ∧ u.os.length = s.os.length ∧
      ∀ k, k < i → u.os.getD k [] = s.os.getD k [] ∧ u.er.getD k 0 = s.er.getD k 0 ∧ u.tb.getD k false = s.tb.getD k false)
      ⟨_, _, _, rfl, E6.trans e7, Fr.refl _ _ _, C7, rfl, rfl, rfl, List.length_replicate, fun k hk => by omega⟩ ?_ ?_ ?_
    · rintro i σ H' _ ⟨v2, v3, u, rfl, _, fr, _⟩
      exact SqL.of (fr.out oD hD)
    · rintro i x' σ Ha Hb hi ⟨v2, v3, u, rfl, ea, fr, hu, uc, kp, kq, lu, al⟩ ⟨Tp, x1, y1, rfl, nT, rfl, hx1, hy1⟩
      rw [List.length_map, lp] at hi
      cases hx1
      obtain ⟨hpi, er5⟩ := hrp i hi
      have ey : y1 = .ref (rp.getD i 0) := by
        have hy1 : (rp.map V.ref)[i]? = some y1 := hy1
        rw [List.getElem?_map, List.getElem?_eq_getElem (by omega)] at hy1
        rw [List.getD_eq_getElem?_getD, List.getElem?_eq_getElem (by omega)]
        exact (Option.some.inj hy1).symm
      subst ey
      have xT := Evl.Ex.new (o := .tup [V.int (i : Int), V.ref (rp.getD i 0)]) nT
      refine ⟨Tp, _, rfl, SqT.of upd_same, rfl, _, _, rfl, _, _, rfl, rfl, ?_⟩
      have fb := fr.ex xT
      have hub := hu.ex xT
      have eb := ea.trans xT
      generalize upd Ha Tp (.tup [V.int (i : Int), V.ref (rp.getD i 0)]) = Hb at fb hub eb ⊢
      clear xT nT hu fr ea
      have len5 := h.part_len hi
      have l5 : 5 ≤ sizeP s := by unfold sizeP; omega
      have er := h.num.er i hi
      have pt := fun {H' : Hp} (f : Fr x c' H7 H') => f.out (op i hi) er5
      have ie : i < u.er.length := by rw [hub.ne, lu]; exact hi
      have it : i < u.tb.length := by rw [hub.nt, lu]; exact hi
      have ir : i < u.rs.length := by rw [hub.nr, lu]; exact hi
      have io : i < u.os.length := by rw [lu]; exact hi
      have n6 : numO (oct4 (s.er.getD i 0).toNat) = s.er.getD i 0 := by
        rw [numO_oct4 (by omega)]
        omega
      -- the erases
      refine ⟨_, rfl, _, rfl, tup_cut0 (j := 4) (SqT.of (pt fb)) (by omega) fun v nv => ⟨v, oct4 (s.er.getD i 0).toNat, true, rfl, Sv.tup upd_same, oct4_oct _, by rw [oct4_len]; omega, fun Hc ec => ?_⟩⟩
      have xc := (Evl.Ex.new (o := .tup (IV (oct4 (s.er.getD i 0).toNat))) nv).trans ec
      have huc := hub.ex xc
      rw [n6]
      refine ⟨_, rfl, x, _, dx, _, _, rfl, huc.ins, TC.cls, TC.no _ (by simp), rfl, _, rfl, u.c.e, _, _, i, rfl, rfl, huc.e, Evl.ixN_nat (by rw [iv_len]; exact ie), ?_⟩
      have es : (IV u.er).set i (V.int (s.er.getD i 0)) = IV (u.er.set i (s.er.getD i 0)) := List.map_set.symm
      rw [es]
      have hud := huc.sete i (s.er.getD i 0)
      have fd : Fr x c' H7 (upd Hc u.c.e (.lst (IV (u.er.set i (s.er.getD i 0))))) := (fb.ex xc).at (.inr (.inr (.inl (by rw [uc]))))
      have ed : Evl.Ex H1 (upd Hc u.c.e (.lst (IV (u.er.set i (s.er.getD i 0))))) := Evl.Ex.mut (eb.trans xc) (out' (.inr (.inr (.inl (by rw [uc])))))
      generalize upd Hc u.c.e (.lst (IV (u.er.set i (s.er.getD i 0)))) = Hd at hud fd ed ⊢
      -- the flag
      refine ⟨_, rfl, Sv.ix (t := true) (x := .non) (Sv.tup (pt fd)) (i := 4) (iv_at (i := 4) (part_at s i).1) (.inl ⟨rfl, ?_⟩)⟩
      have ef : decide (V.int (if s.tb.getD i false = true then 1 else 0) = V.int 1) = s.tb.getD i false := by
        cases s.tb.getD i false <;> rfl
      rw [ef]
      refine ⟨_, rfl, x, _, dx, _, _, rfl, hud.ins, TC.cls, TC.no _ (by simp), rfl, _, rfl, u.c.t, _, _, i, rfl, rfl, hud.t, Evl.ixN_nat (by rw [List.length_map]; exact it), ?_⟩
      have hue := hud.sett i (s.tb.getD i false)
      have fe : Fr x c' H7 (upd Hd u.c.t (.lst ((BV u.tb).set i (.bl (s.tb.getD i false))))) := fd.at (.inr (.inr (.inr (.inl (by rw [uc])))))
      have ee : Evl.Ex H1 (upd Hd u.c.t (.lst ((BV u.tb).set i (.bl (s.tb.getD i false))))) := Evl.Ex.mut ed (out' (.inr (.inr (.inr (.inl (by rw [uc]))))))
      have hue : ChipAt K (upd Hd u.c.t (.lst ((BV u.tb).set i (.bl (s.tb.getD i false))))) x dx { u with er := u.er.set i (s.er.getD i 0), tb := u.tb.set i (s.tb.getD i false) } := hue
      generalize upd Hd u.c.t (.lst ((BV u.tb).set i (.bl (s.tb.getD i false)))) = He at hue fe ee ⊢
      -- the octets
      refine ⟨_, rfl, _, rfl, tup_cut1 (i := 5) (SqT.of (pt fe)) (by omega) (by omega) fun w nw => ⟨w, _, rfl, .inr ⟨SqT.of upd_same, ?_⟩⟩⟩
      rw [(part_at s i).2.2]
      have xw := Evl.Ex.new (o := .tup (IV (s.os.getD i []))) nw
      have huf := hue.ex xw
      have ow := h.oct i hi
      refine ⟨_, rfl, x, _, dx, _, _, rfl, huf.ins, TC.cls, TC.no _ (by simp), rfl, _, rfl, u.c.o, _, _, i, rfl, rfl, huf.o, Evl.ixN_nat (by rw [List.length_map]; exact ir), ?_⟩
      have hug := huf.seto (b := i) io (r := w) (ys := s.os.getD i []) upd_same ow.1 (by rw [ow.2]; show _ = 31 * u.c.pages.toNat; rw [uc, cc.2.1])
      refine ⟨_, _, _, rfl, Evl.Ex.mut (ee.trans xw) (out' (.inr (.inl (by rw [uc])))), (fe.ex xw).at (.inr (.inl (by rw [uc]))), hug, uc, kp, kq, by show (u.os.set i _).length = _; rw [List.length_set]; exact lu, fun k hk => ?_⟩
      show (u.os.set i _).getD k [] = _ ∧ (u.er.set i _).getD k 0 = _ ∧ (u.tb.set i _).getD k false = _
      rw [getD_set _ _ _ _ _ io, getD_set _ _ _ _ _ ie, getD_set _ _ _ _ _ it]
      by_cases e : k = i
      · rw [if_pos e, if_pos e, if_pos e, e]
        exact ⟨rfl, rfl, rfl⟩
      · rw [if_neg e, if_neg e, if_neg e]
        exact al k (by omega)
    · rintro σ Ha ⟨v2, v3, u, rfl, ea, fr, hu, uc, kp, kq, lu, al⟩
      rw [List.length_map, lp] at al
      refine ⟨_, rfl, q x dx u Ha (fun y o => ?_) (e1.trans ea) hu ⟨ext_getD lu fun k hk => (al k hk).1, ext_getD (by rw [hu.ne, lu, h.ne]) fun k hk => (al k (by rw [← h.ne]; exact hk)).2.1, ext_getD (by rw [hu.nt, lu, h.nt]) fun k hk => (al k (by rw [← h.nt]; exact hk)).2.2, ?_, ?_, ?_, ?_, ?_⟩ kp kq⟩
      · rw [uc] at o
        exact Evl.fresh_back e1 (out' o)
      · rw [uc]; exact cc.1
      · rw [uc]; exact cc.2.1
      · rw [uc]; exact cc.2.2.1
      · rw [uc]; exact cc.2.2.2.1
      · rw [uc]; exact cc.2.2.2.2
end
end K6
/-! powers of wide numbers -/
namespace VB
open PySem PySem.Spec PyProof.Rows L2
section
variable {X : Cx}
def CPowW (i j : Int) : Prop := 0 ≤ j ∧ (Builtin.Int.intBits i : Int) * j ≤ 2 ^ 27
theorem op_powW : OpR X (binaryOp .Pow) (rI CPowW fun i j => .int (i ^ j.toNat)) := opI fun _ _ _ _ _ _ _ hc q => pow_int hc.1 hc.2 q
end
end VB
namespace K6
open PySem PySem.Spec PyProof.Rows L2 VB BM
theorem most_eq : ((2 : Int) ^ (64 : Int).toNat) ^ (64 : Int).toNat - 1 = MM - 1 := by
  have e : (64 : Int).toNat = 64 := rfl
  rw [e, ← Int.pow_mul]
  rfl
theorem wide_word {x w : Int} {n : Nat} (h0 : 0 ≤ x) (h : x < 2 ^ n) (w0 : 0 ≤ w) (w1 : w < 2305843009213693952) : 0 ≤ x * 2305843009213693952 + w ∧ x * 2305843009213693952 + w < 2 ^ (n + 61) := by
  have e : (2305843009213693952 : Int) = 2 ^ 61 := by decide
  rw [Int.pow_add, ← e]
  have m : (x + 1) * 2305843009213693952 ≤ 2 ^ n * 2305843009213693952 := Int.mul_le_mul_of_nonneg_right (by omega) (by decide)
  rw [Int.add_mul, Int.one_mul] at m
  have m0 : 0 ≤ x * 2305843009213693952 := Int.mul_nonneg h0 (by decide)
  omega
section
variable {P : Program} {w : World} {K : PySem.W.Frag} {mg : Str → Option Value} {base : Heap} {f : Addr} {fd : FuncData}
def spMask : Sp := fun vs H Q _ => ∃ (a : Addr) (n : Int), vs = [.ref a] ∧ Box H a n ∧ n < 80000000 ∧ ∀ (v : Int) (H' : Hp), 0 ≤ v → v < MM → Exb a H H' → Box H' a (n + 6) → Q (.int v) H'
theorem ok_mask (T : Txt K mg) (F : FnP K "_law_mask" s__law_mask f fd) (C__law_take : Cal P w K mg base CX0 1 "_law_take" ["_law_box_here", "_law_many"] spTake) : Fg P w K mg base CX0 2 f fd ["_law_box_here"] spMask := by
  refine fg_of F sc__law_mask (fun vs H Q E h => ?_) (fun cdv A outer s H vs Q E hr h => ⟨_, (PSs.nox (pss_cons (ps_par (i := 1) (j := 2) rfl sc__law_mask.nd rfl rfl (by decide) rfl rfl (pa_cons (pe_cal C__law_take hr.le pass0 (pa_cons (pv 0) (pa_cons pe_int pa_nil))) (pa_cons (pe_op op_sub (pe_op op_powW (pe_op op_powW pe_int pe_int) pe_int) pe_int) pa_nil)) (by rfl))
  (pss_cons (ps_if (pt_cmpR op_lt (pv 1) pe_int (nomark _))
  (pss_one (ps_ret (pe_ix (u_ix (K := K)) (pe_lst (pa_cons pe_int (pa_cons (pv 2) pa_nil))) (pv 1) (fun _ _ => rfl)))) pss_nil)
  (pss_cons (ps_if (pt_cmpR op_lt (pv 1) pe_int (nomark _))
  (pss_one (ps_ret (pe_op op_sub (pe_op (op_oneShl.or op_shl) pe_int (pe_ix (u_ix (K := K)) (pe_lst (pa_cons (pe_cal C__law_take hr.le pass0 (pa_cons (pv 0) (pa_cons pe_int pa_nil))) (pa_cons (pe_cal C__law_take hr.le pass0 (pa_cons (pv 0) (pa_cons pe_int pa_nil))) (pa_cons (pe_cal C__law_take hr.le pass0 (pa_cons (pv 0) (pa_cons pe_int pa_nil))) pa_nil)))) (pe_op op_sub (pv 1) pe_int) (fun _ _ => rfl))) pe_int))) pss_nil)
  (pss_cons (ps_par (i := 3) (j := 4) rfl sc__law_mask.nd rfl rfl (by decide) rfl rfl (pa_cons (pe_cal C__law_take hr.le pass0 (pa_cons (pv 0) (pa_cons (pe_op op_powW pe_int pe_int) pa_nil))) (pa_cons pe_int pa_nil)) (by rfl))
  (pss_cons (ps_for PassesOwn.never rfl (pi_range1 rfl T.f_range (pa_cons pe_int pa_nil)) (pg_name (i := 5) sc__law_mask.nd rfl (by first | exact Or.inl rfl | exact Or.inr rfl))
  (pss_one (ps_set (i := 4) sc__law_mask.nd rfl (by first | exact Or.inl rfl | exact Or.inr rfl) (pe_op (u_add (K := K)) (pe_op (u_mul (K := K)) (pv 4) (pe_op op_powW pe_int pe_int)) (pv 3)))))
  (pss_one (ps_ret (pv 4))))))))), ?_⟩)
  · obtain ⟨a, n, rfl, _⟩ := h
    rfl
  · obtain ⟨a, n, rfl, B, hn, q⟩ := h
    have w1 : CPowW 2 64 := ⟨by decide, by decide +kernel⟩
    have w2 : CPowW (2 ^ (64 : Int).toNat) 64 := ⟨by decide, by decide +kernel⟩
    have w3 : CPowW 2 61 := ⟨by decide, by decide +kernel⟩
    have e61 : (2 : Int) ^ (61 : Int).toNat = 2305843009213693952 := by decide
    have mp : (1 : Int) < MM := by
      have := MM_half (k := 0) (by omega)
      rw [Int.pow_zero] at this
      omega
    refine ⟨_, rfl, a, 8, n, rfl, B, by omega, by omega, by omega, fun way H1 w0 w1' e1 B1 => ⟨_, _, rfl, rfl, w1, _, _, rfl, rfl, w2, _, _, rfl, rfl, ?_⟩⟩
    dsimp only
    rw [most_eq]
    refine ⟨_, _, rfl, ?_⟩
    refine ⟨_, rfl, _, _, rfl, rfl, _, rfl, if_dec (fun c => ?_) (fun c => ?_)⟩
    · refine ⟨_, rfl, by show 2 ≤ sizeLine; decide, fun t nt => ⟨_, rfl, ?_⟩⟩
      obtain ⟨j, rfl⟩ : ∃ j : Nat, way = j := ⟨way.toNat, by omega⟩
      obtain ⟨v, hv⟩ := get_lt (l := [0, MM - 1]) (i := j) (by show j < 2; omega)
      have vb : 0 ≤ v ∧ v < MM := by
        have m := List.mem_of_getElem? hv
        simp only [List.mem_cons, List.not_mem_nil, or_false] at m
        omega
      exact .inl ⟨t, _, _, _, rfl, rfl, SqL.of upd_same, iv_at hv, q v _ vb.1 vb.2 (e1.trans (Exb.of (Evl.Ex.new nt))) ((B1.ex (Evl.Ex.new nt)).le (by omega))⟩
    refine ⟨_, rfl, _, _, rfl, rfl, _, rfl, if_dec (fun c5 => ?_) (fun c5 => ?_)⟩
    · refine ⟨_, rfl, a, 240, n + 1, rfl, B1, by omega, by omega, by omega, fun x1 H2 x10 x11 e2 B2 => ⟨_, rfl, a, 1984, n + 1 + 1, rfl, B2, by omega, by omega, by omega, fun x2 H3 x20 x21 e3 B3 => ⟨_, rfl, a, 30, n + 1 + 1 + 1, rfl, B3, by omega, by omega, by omega, fun x3 H4 x30 x31 e4 B4 => ⟨by show 3 ≤ sizeLine; decide, fun t nt => ⟨_, rfl, _, _, rfl, rfl, ?_⟩⟩⟩⟩⟩
      obtain ⟨j, hj⟩ : ∃ j : Nat, way - 2 = j := ⟨(way - 2).toNat, by omega⟩
      obtain ⟨v, hv⟩ := get_lt (l := [x1, x2, x3]) (i := j) (by show j < 3; omega)
      have vb : 0 ≤ v ∧ v < 1984 := by
        have m := List.mem_of_getElem? hv
        simp only [List.mem_cons, List.not_mem_nil, or_false] at m
        omega
      obtain ⟨k, rfl⟩ : ∃ k : Nat, v = k := ⟨v.toNat, by omega⟩
      dsimp only
      rw [hj]
      have kp : 0 < (2 : Int) ^ k := Int.pow_pos (by decide)
      have km := MM_half (k := k) (by omega)
      refine .inl ⟨t, _, _, _, rfl, rfl, SqL.of upd_same, iv_at hv, .inl ⟨k, rfl, rfl, by omega, _, _, rfl, rfl, q _ _ (by omega) (by omega) ((((e1.trans e2).trans e3).trans e4).trans (Exb.of (Evl.Ex.new nt))) ((B4.ex (Evl.Ex.new nt)).le (by omega))⟩⟩
    · refine ⟨_, rfl, _, _, rfl, rfl, w3, a, _, n + 1, rfl, B1, by rw [e61]; decide, by rw [e61]; decide, by omega, fun word H2 d0 d1 e2 B2 => ⟨_, _, rfl, ?_⟩⟩
      rw [e61] at d1
      refine ⟨67, rfl, by omega, by omega, ?_⟩
      refine for_range (lo := 0) (n := 67) (fun i σ H' => i ≤ 67 ∧ H' = H2 ∧ ∃ (v5 : Option V) (fd' : Int), σ = [some (.ref a), some (.int way), some (.int (MM - 1)), some (.int word), some (.int fd'), v5] ∧ 0 ≤ fd' ∧ fd' < 2 ^ (61 * i)) ⟨by omega, rfl, _, 0, rfl, by decide, by decide⟩ ?_ ?_
      · rintro i σ H' hi ⟨_, rfl, v5, fd', rfl, f0, f1⟩
        have wl := wide_word f0 f1 d0 d1
        refine ⟨_, rfl, _, _, rfl, rfl, w3, .inl ⟨_, _, rfl, rfl, mulx_ok (a := 61 * i) (b := 62) (lt_natAbs f0 f1) (by rw [e61]; decide) (by omega), _, rfl, .inl ⟨_, _, rfl, rfl, by omega, rfl, some (.int (0 + (i : Int))), fd' * 2305843009213693952 + word, ?_, wl.1, ?_⟩⟩⟩
        · rw [e61]
          rfl
        · rw [show 61 * (i + 1) = 61 * i + 61 by omega]
          exact wl.2
      · rintro σ H' ⟨_, rfl, v5, fd', rfl, f0, f1⟩
        have lt : (2 : Int) ^ (61 * 67) ≤ MM := pow_mono (by omega)
        exact ⟨_, rfl, q _ _ f0 (by omega) (e1.trans e2) (B2.le (by omega))⟩
end
end K6
namespace K6
open PySem PySem.Spec PyProof.Rows L2 VB BM
/-- eight pages at r, all of it at places N -/
def Row (N : Addr → Prop) (H : Hp) (r : Addr) (X : List Int) : Prop := N r ∧ ∃ ps : List Addr, ps.length = 8 ∧ H r = some (.lst (ps.map V.ref)) ∧ ∀ p, p < 8 → N (ps.getD p 0) ∧ H (ps.getD p 0) = some (.lst (IV (pg X p)))
def Grid (N : Addr → Prop) (H : Hp) (D : Addr) (oss : List (List Int)) : Prop := N D ∧ ∃ rows : List Addr, rows.length = oss.length ∧ H D = some (.lst (rows.map V.ref)) ∧ ∀ b, b < oss.length → Row N H (rows.getD b 0) (oss.getD b [])
theorem Row.keep {N N' : Addr → Prop} {H H' : Hp} {r : Addr} {X : List Int} (h : Row N H r X) (n : ∀ y, N y → N' y) (k : ∀ y u, N y → H y = some u → H' y = some u) : Row N' H' r X := by
  obtain ⟨h1, ps, h2, h3, h4⟩ := h
  exact ⟨n _ h1, ps, h2, k _ _ h1 h3, fun p hp => ⟨n _ (h4 p hp).1, k _ _ (h4 p hp).1 (h4 p hp).2⟩⟩
theorem Grid.keep {N N' : Addr → Prop} {H H' : Hp} {r : Addr} {oss : List (List Int)} (h : Grid N H r oss) (n : ∀ y, N y → N' y) (k : ∀ y u, N y → H y = some u → H' y = some u) : Grid N' H' r oss := by
  obtain ⟨h1, ps, h2, h3, h4⟩ := h
  exact ⟨n _ h1, ps, h2, k _ _ h1 h3, fun p hp => (h4 p hp).keep n k⟩
theorem Row.ex {N : Addr → Prop} {H H' : Hp} {r : Addr} {X : List Int} (h : Row N H r X) (e : Evl.Ex H H') : Row N H' r X := h.keep (fun _ z => z) (fun y u _ z => e y u z)
theorem Grid.ex {N : Addr → Prop} {H H' : Hp} {r : Addr} {X : List (List Int)} (h : Grid N H r X) (e : Evl.Ex H H') : Grid N H' r X := h.keep (fun _ z => z) (fun y u _ z => e y u z)
/-! as data -/
abbrev DR (X : List Int) : PyData := .list ((List.range 8).map fun p => DL (pg X p))
abbrev DG (oss : List (List Int)) : PyData := .list (oss.map DR)
section
variable {P : Program} {w : World} {K : PySem.W.Frag} {mg : Str → Option Value} {base : Heap} {f : Addr} {fd : FuncData}
theorem dpAll_of {H : Hp} : ∀ {rs : List Addr} {ds : List PyData}, rs.length = ds.length → (∀ i d, ds[i]? = some d → Dp K H (.ref (rs.getD i 0)) d) → DpAll K H (rs.map V.ref) ds
  | [], [], _, _ => .nil
  | r :: rs, d :: ds, l, h => .cons (h 0 d rfl) (dpAll_of (by simpa using l) fun i d' hd => by
      have := h (i + 1) d' (by simpa using hd)
      simpa using this)
  | [], _ :: _, l, _ => by cases l
  | _ :: _, [], l, _ => by cases l
theorem Row.dp {N : Addr → Prop} {H : Hp} {r : Addr} {X : List Int} (h : Row N H r X) : Dp K H (.ref r) (DR X) := by
  obtain ⟨_, ps, h2, h3, h4⟩ := h
  refine .lst (SqL.of h3) (dpAll_of (by rw [List.length_map, List.length_range, h2]) fun i d hd => ?_)
  rw [List.getElem?_map] at hd
  obtain ⟨j, hj, rfl⟩ := Option.map_eq_some_iff.mp hd
  obtain ⟨hi, e⟩ := List.getElem?_eq_some_iff.mp hj
  rw [List.length_range] at hi
  rw [List.getElem_range] at e
  subst e
  exact dp_l (SqL.of (h4 i hi).2)
theorem Grid.dp {N : Addr → Prop} {H : Hp} {r : Addr} {oss : List (List Int)} (h : Grid N H r oss) : Dp K H (.ref r) (DG oss) := by
  obtain ⟨_, ps, h2, h3, h4⟩ := h
  refine .lst (SqL.of h3) (dpAll_of (by rw [List.length_map, h2]) fun i d hd => ?_)
  rw [List.getElem?_map] at hd
  obtain ⟨X, hX, rfl⟩ := Option.map_eq_some_iff.mp hd
  obtain ⟨hi, e⟩ := List.getElem?_eq_some_iff.mp hX
  have := (h4 i hi).dp (K := K)
  rw [List.getD_eq_getElem?_getD (l := oss), hX] at this
  exact this
theorem canAll_of : ∀ {ds : List PyData}, (∀ d ∈ ds, d.canLay0 = true) → PyData.canLayAll0 ds = true
  | [], _ => rfl
  | d :: ds, h => by
    rw [PyData.canLayAll0, h d (List.mem_cons_self ..), canAll_of fun e he => h e (List.mem_cons_of_mem _ he)]
    rfl
theorem can_l (ns : List Int) : (DL ns).canLay0 = true := by
  simp [PyData.canLay0, canAll]
theorem dep_l (ns : List Int) : (DL ns).depth ≤ 1 := by
  simp [PyData.depth, depInts]
theorem can_r (X : List Int) : (DR X).canLay0 = true := by
  show PyData.canLayAll0 _ = true
  refine canAll_of fun d hd => ?_
  obtain ⟨p, _, rfl⟩ := List.mem_map.mp hd
  exact can_l _
theorem dep_r (X : List Int) : (DR X).depth ≤ 2 := by
  simp only [DR, PyData.depth]
  refine Nat.succ_le_succ (depAll fun d hd => ?_)
  obtain ⟨p, _, rfl⟩ := List.mem_map.mp hd
  exact dep_l _
theorem can_g (oss : List (List Int)) : (DG oss).canLay0 = true := by
  show PyData.canLayAll0 _ = true
  refine canAll_of fun d hd => ?_
  obtain ⟨p, _, rfl⟩ := List.mem_map.mp hd
  exact can_r _
theorem dep_g (oss : List (List Int)) : (DG oss).depth ≤ 3 := by
  simp only [DG, PyData.depth]
  refine Nat.succ_le_succ (depAll fun d hd => ?_)
  obtain ⟨p, _, rfl⟩ := List.mem_map.mp hd
  exact dep_r _
theorem shp_of {d : PyData} (c : d.canLay0 = true) (h : d.depth ≤ 60) : SeqAt.shaped d = true := by
  unfold SeqAt.shaped
  rw [c, decide_eq_true (by omega)]
  rfl
theorem ne_row {N N' : Addr → Prop} {H : Hp} {a b : Addr} {X : List Int} {Q : VK} (h1 : Row N H a X) (h2 : Row N' H b X) (q : Q (.bl false) H) : rNeU K (.ref a) (.ref b) H Q := by
  refine .inr ⟨DR X, DR X, h1.dp, h2.dp, shp_of (can_r X) (Nat.le_trans (dep_r X) (by decide)), shp_of (can_r X) (Nat.le_trans (dep_r X) (by decide)), ?_⟩
  rw [SeqAt.eqv_refl _ (can_r X)]
  exact q
theorem ne_grid {N N' : Addr → Prop} {H : Hp} {a b : Addr} {oss : List (List Int)} {Q : VK} (h1 : Grid N H a oss) (h2 : Grid N' H b oss) (q : Q (.bl false) H) : rNeU K (.ref a) (.ref b) H Q := by
  refine .inr ⟨DG oss, DG oss, h1.dp, h2.dp, shp_of (can_g oss) (Nat.le_trans (dep_g oss) (by decide)), shp_of (can_g oss) (Nat.le_trans (dep_g oss) (by decide)), ?_⟩
  rw [SeqAt.eqv_refl _ (can_g oss)]
  exact q
def osc : Scope := { kind := ScopeKind.function, names := [(Str.ofString ".0", NameKind.local), (Str.ofString "_law_block", NameKind.cell), (Str.ofString "range", NameKind.globalImplicit), (Str.ofString "_law_chip", NameKind.cell)], isGenerator := false, isCoroutine := false }
def New (H : Hp) : Addr → Prop := fun y => H y = none
def spPages (K : PySem.W.Frag) : Sp := fun vs H Q _ => ∃ (a dx : Addr) (s : CS), vs = [.ref a, .int (s.os.length : Int)] ∧ ChipAt K H a dx s ∧ s.c.pages = 8 ∧ ∀ (D : Addr) (H' : Hp), Evl.Ex H H' → Grid (New H) H' D s.os → Q (.ref D) H'
theorem ok_pages (T : Txt K mg) (F : FnP K "_law_pages" s__law_pages f fd) (M_Chip__read : CalM P w K mg base CX0 4 (Ch K) "read" ["self", "block", "page"] (spRead K)) : Fg P w K mg base CX0 5 f fd ["_law_chip", "_law_blocks"] (spPages K) := by
  refine fg_of F sc__law_pages (fun vs H Q E h => ?_) (fun cdv A outer s₀ H vs Q E hr h => ⟨_, (PSs.nox (pss_one (ps_ret (pe_lc (own := [("_law_block", 2)]) rfl sc__law_pages.nd (pi_range1 rfl T.f_range (pa_cons (pv 1) pa_nil)) (blkOk_by (own := [("_law_block", 2)]) (N := ["_law_chip", "_law_blocks", "_law_block", "_law_page"]) (sc := defScope s__law_pages) (by decide +kernel)) (fun _ _ _ _ _ => (pg_name (i := 2) sc__law_pages.nd rfl (by first | exact Or.inl rfl | exact Or.inr rfl))) (fun _ _ _ _ _ => pts_nil) (fun _ _ _ _ _ => (pe_lc (own := [("_law_page", 3)]) rfl sc__law_pages.nd (pi_range1 rfl T.f_range (pa_cons pe_int pa_nil)) (blkOk_by (own := [("_law_page", 3)]) (N := ["_law_chip", "_law_blocks", "_law_block", "_law_page"]) (sc := osc) (by decide +kernel)) (fun _ _ _ _ _ => (pg_name (i := 3) sc__law_pages.nd rfl (by first | exact Or.inl rfl | exact Or.inr rfl))) (fun _ _ _ _ _ => pts_nil) (fun _ _ _ _ _ => (pe_callTy (u_list (K := K)) (by rfl) T.f_list (by decide +kernel) (pa_cons (pe_calM M_Chip__read hr.le pass0 (pv 0) (pa_cons (pv 2) (pa_cons (pv 3) pa_nil))) pa_nil))))))))), ?_⟩)
  · obtain ⟨a, dx, s, rfl, _⟩ := h
    rfl
  · obtain ⟨a, dx, s, rfl, hc, g, q⟩ := h
    have b8 := hc.b8
    have nb := hc.nb
    refine ⟨_, rfl, (s.os.length : Int), rfl, by omega, by omega, fun D hD => ?_⟩
    have nn : ((s.os.length : Int)).toNat = s.os.length := by omega
    rw [nn]
    refine lc_range (lo := 0) (n := s.os.length) (fun i H' => i ≤ s.os.length ∧ Evl.Ex H H' ∧ ∃ rows : List Addr, rows.length = i ∧ H' D = some (.lst (rows.map V.ref)) ∧ ∀ b, b < i → Row (fun y => New H y ∧ y ≠ D) H' (rows.getD b 0) (s.os.getD b []))
      ⟨by omega, Evl.Ex.new hD, [], rfl, upd_same, fun b hb => by omega⟩ ?_ ?_
    · rintro i H1 hi ⟨_, e1, rows, lr, h1, ha⟩
      have ez : (0 : Int) + (i : Int) = (i : Int) := Int.zero_add _
      rw [ez]
      refine ⟨rfl, 8, rfl, by omega, by omega, fun R hR => ?_⟩
      have RD : R ≠ D := fun e => by rw [e, h1] at hR; cases hR
      have nR := Evl.fresh_back e1 hR
      refine lc_range (lo := 0) (n := 8) (fun j H' => j ≤ 8 ∧ Evl.Ex H1 H' ∧ ∃ ps : List Addr, ps.length = j ∧ H' R = some (.lst (ps.map V.ref)) ∧ ∀ p, p < j → (New H1 (ps.getD p 0) ∧ ps.getD p 0 ≠ R) ∧ H' (ps.getD p 0) = some (.lst (IV (pg (s.os.getD i []) p))))
        ⟨by omega, Evl.Ex.new hR, [], rfl, upd_same, fun b hb => by omega⟩ ?_ ?_
      · rintro j H2 hj ⟨_, e2, ps, lp, h2, hp⟩
        have ey : (0 : Int) + (j : Int) = (j : Int) := Int.zero_add _
        rw [ey]
        have E2 := e1.trans e2
        have o31 := hc.oct i hi
        refine ⟨rfl, _, rfl, a, dx, _, rfl, E2 _ _ hc.ins, rfl, _, rfl, _, rfl, a, s.c, i, j, s.rs, s.os.getD i [], rfl, ⟨dx, E2 _ _ hc.ins⟩, by omega, by omega, E2 _ _ hc.o, by rw [hc.nr]; exact hi, SqT.of (E2 _ _ (hc.tup i hi)), o31.2, by omega, by omega, fun t H3 nt e3 ht => ⟨t, _, rfl, .inr (SqT.of ht), fun l nl => ?_⟩⟩
        have x3 := e3.trans (Evl.Ex.new (o := .lst (IV (((s.os.getD i []).drop (31 * j)).take 31))) nl)
        have lR : l ≠ R := fun e => by rw [e, e3 _ _ h2] at nl; cases nl
        have nl1 := Evl.fresh_back (e2.trans e3) nl
        refine ⟨_, x3 _ _ h2, by rw [List.length_map, lp]; exact Evl.sz_lt (by omega), by omega, Evl.Ex.mut (e2.trans x3) hR, ps ++ [l], by simp [lp], by rw [upd_same, List.map_append]; rfl, fun p hp' => ?_⟩
        by_cases ck : p < j
        · have g1 : (ps ++ [l]).getD p 0 = ps.getD p 0 := by rw [List.getD_eq_getElem?_getD, List.getD_eq_getElem?_getD, List.getElem?_append_left (by omega)]
          obtain ⟨⟨z1, z2⟩, z3⟩ := hp p ck
          rw [g1]
          exact ⟨⟨z1, z2⟩, by rw [upd_ne z2]; exact x3 _ _ z3⟩
        · have ek : p = j := by omega
          subst ek
          have g1 : (ps ++ [l]).getD p 0 = l := by
            rw [List.getD_eq_getElem?_getD, List.getElem?_append_right (by omega), lp, Nat.sub_self]
            rfl
          rw [g1]
          exact ⟨⟨nl1, lR⟩, by rw [upd_ne lR, upd_same]; rfl⟩
      · rintro H2 ⟨_, e2, ps, lp, h2, hp⟩
        have E2 := e1.trans e2
        refine ⟨_, e2 _ _ h1, by rw [List.length_map, lr]; exact Evl.sz_lt (by omega), by omega, Evl.Ex.mut E2 hD, rows ++ [R], by simp [lr], by rw [upd_same, List.map_append]; rfl, fun b hb => ?_⟩
        have kp : ∀ (y : Addr) (u : HO), (New H y ∧ y ≠ D) → H1 y = some u → upd H2 D (.lst (rows.map V.ref ++ [V.ref R])) y = some u := fun y u n z => by rw [upd_ne n.2]; exact e2 _ _ z
        by_cases ck : b < i
        · have g1 : (rows ++ [R]).getD b 0 = rows.getD b 0 := by rw [List.getD_eq_getElem?_getD, List.getD_eq_getElem?_getD, List.getElem?_append_left (by omega)]
          rw [g1]
          exact (ha b ck).keep (fun _ z => z) kp
        · have ek : b = i := by omega
          subst ek
          have g1 : (rows ++ [R]).getD b 0 = R := by
            rw [List.getD_eq_getElem?_getD, List.getElem?_append_right (by omega), lr, Nat.sub_self]
            rfl
          rw [g1]
          refine ⟨⟨nR, RD⟩, ps, lp, by rw [upd_ne RD]; exact h2, fun p hp' => ?_⟩
          obtain ⟨⟨z1, z2⟩, z3⟩ := hp p hp'
          have zD : ps.getD p 0 ≠ D := fun e => by rw [e] at z1; rw [z1] at h1; cases h1
          exact ⟨⟨Evl.fresh_back e1 z1, zD⟩, by rw [upd_ne zD]; exact z3⟩
    · rintro H1 ⟨_, e1, rows, lr, h1, ha⟩
      exact q D H1 e1 ⟨hD, rows, lr, h1, fun b hb => (ha b hb).keep (fun _ z => z.1) (fun _ _ _ z => z)⟩
/-- the counts -/
def cntL (s : CS) : List Int := [s.c.ops, s.c.cuts] ++ s.er
def spCounts (K : PySem.W.Frag) : Sp := fun vs H Q _ => ∃ (a dx : Addr) (s : CS), vs = [.ref a, .int (s.os.length : Int)] ∧ ChipAt K H a dx s ∧ RL (IV (cntL s)) H Q
theorem ok_counts (T : Txt K mg) (TC : TxC K) (F : FnP K "_law_counts" s__law_counts f fd) (M_Chip__erases : CalM P w K mg base CX0 4 (Ch K) "erases" ["self", "block"] (spErases K)) : Fg P w K mg base CX0 5 f fd ["_law_chip", "_law_blocks"] (spCounts K) := by
  refine fg_of F sc__law_counts (fun vs H Q E h => ?_) (fun cdv A outer s₀ H vs Q E hr h => ⟨_, (PSs.nox (pss_one (ps_ret (pe_op (u_add (K := K)) (pe_lst (pa_cons (pe_fldU (K := K) (pv 0) rfl) (pa_cons (pe_fldU (K := K) (pv 0) rfl) pa_nil))) (pe_lc (own := [("_law_block", 2)]) rfl sc__law_counts.nd (pi_range1 rfl T.f_range (pa_cons (pv 1) pa_nil)) (blkOk_by (own := [("_law_block", 2)]) (N := ["_law_chip", "_law_blocks", "_law_block"]) (sc := defScope s__law_counts) (by decide +kernel)) (fun _ _ _ _ _ => (pg_name (i := 2) sc__law_counts.nd rfl (by first | exact Or.inl rfl | exact Or.inr rfl))) (fun _ _ _ _ _ => pts_nil) (fun _ _ _ _ _ => (pe_calM M_Chip__erases hr.le pass0 (pv 0) (pa_cons (pv 2) pa_nil)))))))), ?_⟩)
  · obtain ⟨a, dx, s, rfl, _⟩ := h
    rfl
  · obtain ⟨a, dx, s, rfl, hc, q⟩ := h
    have b8 := hc.b8
    have nb := hc.nb
    have ne := hc.ne
    refine ⟨_, rfl, a, _, dx, _, _, rfl, hc.ins, TC.cls, TC.no _ (by simp), rfl, _, rfl, a, _, dx, _, _, rfl, hc.ins, TC.cls, TC.no _ (by simp), rfl, by show 2 ≤ sizeLine; decide, fun l nl => ?_⟩
    have x0 := Evl.Ex.new (o := .lst (IV [s.c.ops, s.c.cuts])) nl
    have h0 := upd_same (H := H) (a := l) (o := .lst (IV [s.c.ops, s.c.cuts]))
    show tLc _ _ _ _ _ _ (upd H l (.lst (IV [s.c.ops, s.c.cuts]))) _
    generalize upd H l (.lst (IV [s.c.ops, s.c.cuts])) = H1 at x0 h0 ⊢
    refine ⟨_, rfl, (s.os.length : Int), rfl, by omega, by omega, fun D hD => ?_⟩
    have nn : ((s.os.length : Int)).toNat = s.os.length := by omega
    rw [nn]
    refine lc_range (lo := 0) (n := s.os.length) (fun i H' => i ≤ s.os.length ∧ Evl.Ex H1 H' ∧ H' D = some (.lst (IV (s.er.take i)))) ⟨by omega, Evl.Ex.new hD, upd_same⟩ ?_ ?_
    · rintro i H2 hi ⟨_, e2, h2⟩
      have ez : (0 : Int) + (i : Int) = (i : Int) := Int.zero_add _
      rw [ez]
      have E2 := x0.trans e2
      have ie : i < s.er.length := by omega
      refine ⟨rfl, _, rfl, a, dx, _, rfl, E2 _ _ hc.ins, rfl, _, rfl, a, s.c, i, s.er, rfl, ⟨dx, E2 _ _ hc.ins⟩, by omega, E2 _ _ hc.e, ie, fun H3 e3 => ⟨_, e3 _ _ h2, by rw [iv_len, List.length_take]; exact Evl.sz_lt (by omega), by omega, Evl.Ex.mut (e2.trans e3) hD, ?_⟩⟩
      rw [upd_same, iv_snoc, take_snoc (getD_get ie)]
    · rintro H2 ⟨_, e2, h2⟩
      rw [← ne, List.take_length] at h2
      refine cat_l (e2 _ _ h0) h2 (by show 2 + _ ≤ _; omega) fun t nt => q t _ (Evl.fresh_back (x0.trans e2) nt) ((x0.trans e2).trans (Evl.Ex.new nt)) upd_same
end
end K6
namespace K6
open PySem PySem.Spec PyProof.Rows L2 VB BM
def BtL : List Int → List Int → List Int → Prop
  | [], [], [] => True
  | a :: as, z :: zs, b :: bs => (z = a ∨ z = b) ∧ BtL as zs bs
  | _, _, _ => False
theorem turned_btl : ∀ (as bs : List Int) (m : Int), as.length = bs.length → BtL as (turned as bs m) bs
  | [], [], _, _ => trivial
  | a :: as, b :: bs, m, l => by
    have l' : as.length = bs.length := by simpa using l
    rw [turned_cons]
    by_cases e : a = b
    · rw [if_pos e]
      exact ⟨.inl rfl, turned_btl as bs m l'⟩
    · rw [if_neg e]
      refine ⟨?_, turned_btl as bs (m / 2) l'⟩
      split
      · exact .inr rfl
      · exact .inl rfl
  | [], _ :: _, _, l => by cases l
  | _ :: _, [], _, l => by cases l
theorem btl_split : ∀ {a z b as zs bs : List Int}, a.length = z.length → a.length = b.length → BtL (a ++ as) (z ++ zs) (b ++ bs) → BtL a z b ∧ BtL as zs bs
  | [], [], [], _, _, _, _, _, h => ⟨trivial, h⟩
  | x :: a, y :: z, w :: b, _, _, _, l1, l2, h => by
    obtain ⟨h1, h2⟩ := h
    obtain ⟨h3, h4⟩ := btl_split (by simpa using l1) (by simpa using l2) h2
    exact ⟨⟨h1, h3⟩, h4⟩
  | [], _ :: _, _, _, _, _, l, _, _ => by cases l
  | _ :: _, [], _, _, _, _, l, _, _ => by cases l
  | [], [], _ :: _, _, _, _, _, l, _ => by cases l
  | _ :: _, _ :: _, [], _, _, _, _, l, _ => by cases l
theorem btl_le : ∀ {as zs bs : List Int}, BtL as zs bs → Le (List.zipWith (fun a b : Int => if a = b then (0 : Int) else 1) as zs) (List.zipWith (fun a b : Int => if a = b then (0 : Int) else 1) as bs)
  | [], [], [], _ => trivial
  | a :: as, z :: zs, b :: bs, h => by
    obtain ⟨h1, h2⟩ := h
    refine ⟨?_, btl_le h2⟩
    rcases h1 with rfl | rfl
    · show (if z = z then (0 : Int) else 1) ≤ (if z = b then (0 : Int) else 1)
      rw [if_pos rfl]
      split <;> decide
    · exact Int.le_refl _
  | [], [], _ :: _, h => h.elim
  | [], _ :: _, _, h => h.elim
  | _ :: _, [], _, h => h.elim
  | _ :: _, _ :: _, [], h => h.elim
theorem btl_oct {x z y : Int} (hx : 0 ≤ x ∧ x ≤ 255) (hz : 0 ≤ z ∧ z ≤ 255) (hy : 0 ≤ y ∧ y ≤ 255) (h : BtL (bitsOf x) (bitsOf z) (bitsOf y)) : Builtin.bitAnd (Builtin.bitXor x z) (Builtin.bitXor x y) = Builtin.bitXor x z := by
  refine le_oct (xor_range hx hz) (xor_range hx hy) ?_
  rw [xor_bits hx hz, xor_bits hx hy]
  exact btl_le h
/-- octet by octet: only what is due has turned -/
def Btw (X Z Y : List Int) : Prop := ∀ i, i < X.length → Builtin.bitAnd (Builtin.bitXor (X.getD i 0) (Z.getD i 0)) (Builtin.bitXor (X.getD i 0) (Y.getD i 0)) = Builtin.bitXor (X.getD i 0) (Z.getD i 0)
theorem btw_of : ∀ {X Z Y : List Int}, Oct X → Oct Z → Oct Y → X.length = Z.length → X.length = Y.length → BtL (bitsL X) (bitsL Z) (bitsL Y) → Btw X Z Y
  | [], _, _, _, _, _, _, _, _ => fun i hi => by cases hi
  | x :: X, z :: Z, y :: Y, ox, oz, oy, l1, l2, h => by
    rw [bitsL_cons, bitsL_cons, bitsL_cons] at h
    obtain ⟨h1, h2⟩ := btl_split (a := bitsOf x) (z := bitsOf z) (b := bitsOf y) rfl rfl h
    intro i hi
    cases i with
    | zero => exact btl_oct (oct_tail ox).1 (oct_tail oz).1 (oct_tail oy).1 h1
    | succ i =>
      have := btw_of (oct_tail ox).2 (oct_tail oz).2 (oct_tail oy).2 (by simpa using l1) (by simpa using l2) h2 i (by simpa using hi)
      simpa using this
  | _ :: _, [], _, _, _, _, l, _, _ => by cases l
  | _ :: _, _ :: _, [], _, _, _, _, l, _ => by cases l
theorem mix_btw {X Y : List Int} (m : Int) (ox : Oct X) (oy : Oct Y) (l : X.length = Y.length) : Btw X (mixL X Y m) Y := by
  obtain ⟨e, oz, lz⟩ := mixL_spec m l
  refine btw_of ox oz oy lz.symm l ?_
  rw [e]
  exact turned_btl _ _ _ (by rw [bitsL_len, bitsL_len, l])
theorem xor_self_o {x : Int} (hx : 0 ≤ x ∧ x ≤ 255) : Builtin.bitXor x x = 0 := by
  obtain ⟨a, rfl⟩ := nat_of hx.1
  rw [bitXor_nn, Nat.xor_self]
  rfl
theorem btw_old {X Y : List Int} (ox : Oct X) (oy : Oct Y) (l : X.length = Y.length) : Btw X X Y := by
  intro i hi
  rw [xor_self_o (getD_oct ox hi)]
  obtain ⟨a, ha⟩ := nat_of (xor_range (getD_oct ox hi) (getD_oct oy (by omega : i < Y.length))).1
  rw [ha]
  show Builtin.bitAnd ((0 : Nat) : Int) (a : Int) = 0
  rw [VB.bitAnd_nn, Nat.zero_and]
  rfl
theorem btw_new {X Y : List Int} (ox : Oct X) (oy : Oct Y) (l : X.length = Y.length) : Btw X Y Y := by
  intro i hi
  exact and_same (xor_range (getD_oct ox hi) (getD_oct oy (by omega : i < Y.length)))
theorem unlike_le : ∀ as bs : List Int, unlike as bs ≤ as.length
  | [], _ => by unfold unlike; exact Nat.le_refl _
  | a :: as, [] => by unfold unlike; exact Nat.zero_le _
  | a :: as, b :: bs => by
    have := unlike_le as bs
    unfold unlike
    rw [List.length_cons]
    split <;> omega
theorem bits_back {X Y : List Int} (ox : Oct X) (oy : Oct Y) (l : X.length = Y.length) (h : bitsL X = bitsL Y) : X = Y := by
  have r : Le (bitsL X) (bitsL Y) := by rw [h]; exact Le.refl _
  have r2 : Le (bitsL Y) (bitsL X) := by rw [h]; exact Le.refl _
  exact inn_anti ox oy l (le_inn ox oy l r) (le_inn oy ox l.symm r2)
theorem mix_none {X Y : List Int} (ox : Oct X) (l : X.length = Y.length) : mixL X Y 0 = X := by
  obtain ⟨e, oz, lz⟩ := mixL_spec (X := X) (Y := Y) 0 l
  refine bits_back oz ox lz ?_
  rw [e, turned_zero _ _ (by rw [bitsL_len, bitsL_len, l])]
theorem mix_all {X Y : List Int} (oy : Oct Y) (l : X.length = Y.length) (h : X.length ≤ 512) : mixL X Y (MM - 1) = Y := by
  obtain ⟨e, oz, lz⟩ := mixL_spec (X := X) (Y := Y) (MM - 1) l
  refine bits_back oz oy (by omega) ?_
  rw [e]
  have lb : (bitsL X).length = 8 * X.length := bitsL_len X
  exact turned_ones _ _ 4096 (by rw [bitsL_len, bitsL_len, l]) (Nat.le_trans (unlike_le _ _) (by omega))
end K6
namespace K6
open PySem PySem.Spec PyProof.Rows L2 VB BM
theorem pg_rep {p : Nat} (h : p < 8) : pg (List.replicate 248 255) p = List.replicate 31 255 := by
  unfold pg
  rw [List.drop_replicate, List.take_replicate]
  congr 1
  omega
theorem pg_wrote {X ws : List Int} {p : Nat} (l : X.length = 248) (lw : ws.length = 31) (hp : p < 8) : pg (wrote X ws p) p = both Builtin.bitAnd (pg X p) ws := by
  have l1 := pg_len l hp
  have b := both_len (f := Builtin.bitAnd) (xs := pg X p) (ys := ws) (by omega)
  have lt : (X.take (31 * p)).length = 31 * p := by rw [List.length_take]; omega
  show ((X.take (31 * p) ++ (both Builtin.bitAnd (pg X p) ws ++ X.drop (31 * p + 31))).drop (31 * p)).take 31 = _
  rw [List.drop_left' lt, List.take_left' (by omega)]
theorem both_take {f : Int → Int → Int} {xs ys : List Int} {i : Nat} {x y : Int} (hx : xs[i]? = some x) (hy : ys[i]? = some y) : (both f xs ys).take (i + 1) = (both f xs ys).take i ++ [f x y] := by
  refine take_snoc ?_
  unfold both
  rw [List.getElem?_map, (List.getElem?_zip_eq_some (z := (x, y))).mpr ⟨hx, hy⟩]
  rfl
section
variable {P : Program} {w : World} {K : PySem.W.Frag} {mg : Str → Option Value} {base : Heap} {f : Addr} {fd : FuncData}
theorem Row.page {N : Addr → Prop} {H : Hp} {r : Addr} {X : List Int} {p : Nat} {Q : VK} (h : Row N H r X) (hp : p < 8) (q : ∀ y, N y → H y = some (.lst (IV (pg X p))) → Q (.ref y) H) : rIx K (.ref r) (.int (p : Int)) H Q := by
  obtain ⟨h1, ps, h2, h3, h4⟩ := h
  exact tup_ix h3 (by omega) (q _ (h4 p hp).1 (h4 p hp).2)
theorem Grid.row {N : Addr → Prop} {H : Hp} {r : Addr} {oss : List (List Int)} {b : Nat} {Q : VK} (h : Grid N H r oss) (hb : b < oss.length) (q : ∀ y, Row N H y (oss.getD b []) → Q (.ref y) H) : rIx K (.ref r) (.int (b : Int)) H Q := by
  obtain ⟨h1, ps, h2, h3, h4⟩ := h
  exact tup_ix h3 (by omega) (q _ (h4 b hb))
/-- what an op is to make of a block -/
def due (X : List Int) (pv : Option Nat) (ws : List Int) : List Int := match pv with
  | none => List.replicate 248 255
  | some p => wrote X ws p
def pvV (pv : Option Nat) : V := match pv with
  | none => .non
  | some p => .int (p : Int)
/-- an op at L -/
def DeedAt (H : Hp) (L : Addr) (b : Nat) (pv : Option Nat) (wv : Addr) (ws : List Int) : Prop := H L = some (.lst [.int (b : Int), pvV pv, .ref wv]) ∧ H wv = some (.lst (IV ws)) ∧ Oct ws ∧ ws.length = 31 ∧ ∀ p, pv = some p → p < 8
theorem DeedAt.ex {H H' : Hp} {L wv : Addr} {b : Nat} {pv : Option Nat} {ws : List Int} (h : DeedAt H L b pv wv ws) (e : Evl.Ex H H') : DeedAt H' L b pv wv ws := ⟨e _ _ h.1, e _ _ h.2.1, h.2.2⟩
theorem DeedAt.ix {H : Hp} {L wv : Addr} {b : Nat} {pv : Option Nat} {ws : List Int} {Q : VK} (h : DeedAt H L b pv wv ws) : (Q (.int (b : Int)) H → rIx K (.ref L) (.int 0) H Q) ∧ (Q (pvV pv) H → rIx K (.ref L) (.int 1) H Q) ∧ (Q (.ref wv) H → rIx K (.ref L) (.int 2) H Q) :=
  ⟨fun q => Sv.ix (x := .non) (Sv.lst h.1) (i := 0) rfl q, fun q => Sv.ix (x := .non) (Sv.lst h.1) (i := 1) rfl q, fun q => Sv.ix (x := .non) (Sv.lst h.1) (i := 2) rfl q⟩
def spDue (K : PySem.W.Frag) : Sp := fun vs H Q _ => ∃ (N : Addr → Prop) (D L : Addr) (oss : List (List Int)) (b : Nat) (pv : Option Nat) (wv : Addr) (ws : List Int), vs = [.ref D, .ref L] ∧ Grid N H D oss ∧ DeedAt H L b pv wv ws ∧ b < oss.length ∧ (oss.getD b []).length = 248 ∧
  ∀ (r : Addr) (H' : Hp), Evl.Ex H H' → Row (fun y => N y ∨ H y = none) H' r (due (oss.getD b []) pv ws) → Q (.ref r) H'
theorem ok_due (T : Txt K mg) (F : FnP K "_law_due" s__law_due f fd) : Fg P w K mg base CX0 1 f fd ["_law_pages_here", "_law_deed_here"] (spDue K) := by
  refine fg_of F sc__law_due (fun vs H Q E h => ?_) (fun cdv A outer s₀ H vs Q E hr h => ⟨_, (PSs.nox (pss_cons (ps_asg (pv 1) (pg_lst (n := 3) rfl (pgs_cons (pg_name (i := 2) sc__law_due.nd rfl (by first | exact Or.inl rfl | exact Or.inr rfl)) (pgs_cons (pg_name (i := 3) sc__law_due.nd rfl (by first | exact Or.inl rfl | exact Or.inr rfl)) (pgs_cons (pg_name (i := 4) sc__law_due.nd rfl (by first | exact Or.inl rfl | exact Or.inr rfl)) pgs_nil)))))
  (pss_cons (ps_if (pt_cmpR op_isN (pv 3) pe_non (nomark _))
  (pss_one (ps_ret (pe_op (u_mul (K := K)) (pe_lst (pa_cons (pe_op (u_mul (K := K)) (pe_lst (pa_cons pe_int pa_nil)) pe_int) pa_nil)) pe_int))) pss_nil)
  (pss_cons (ps_set (i := 5) sc__law_due.nd rfl (by first | exact Or.inl rfl | exact Or.inr rfl) (pe_callTy (u_list (K := K)) (by rfl) T.f_list (by decide +kernel) (pa_cons (pe_ix (u_ix (K := K)) (pv 0) (pv 2) (fun _ _ => rfl)) pa_nil)))
  (pss_cons (ps_asg (pe_lc (own := [("_law_k", 6)]) rfl sc__law_due.nd (pi_range1 rfl T.f_range (pa_cons pe_int pa_nil)) (blkOk_by (own := [("_law_k", 6)]) (N := ["_law_pages_here", "_law_deed_here", "_law_block", "_law_page", "_law_octets", "_law_fresh", "_law_k"]) (sc := defScope s__law_due) (by decide +kernel)) (fun _ _ _ _ _ => (pg_name (i := 6) sc__law_due.nd rfl (by first | exact Or.inl rfl | exact Or.inr rfl))) (fun _ _ _ _ _ => pts_nil) (fun _ _ _ _ _ => (pe_op op_and (pe_ix (u_ix (K := K)) (pe_ix (u_ix (K := K)) (pv 5) (pv 3) (fun _ _ => rfl)) (pv 6) (fun _ _ => rfl)) (pe_ix (u_ix (K := K)) (pv 4) (pv 6) (fun _ _ => rfl))))) (pg_sub (pv 5) (pv 3) set_list))
  (pss_one (ps_ret (pv 5)))))))), ?_⟩)
  · obtain ⟨N, D, L, oss, b, pv, wv, ws, rfl, _⟩ := h
    rfl
  · obtain ⟨N, D, L, oss, b, pv, wv, ws, rfl, hG, hL, hb, lX, q⟩ := h
    refine ⟨_, rfl, L, _, rfl, SqL.of hL.1, rfl, _, _, rfl, _, _, rfl, _, _, rfl, rfl, ?_⟩
    refine ⟨_, rfl, rfl, _, rfl, ?_⟩
    cases pv with
    | none =>
      rw [decide_eq_true (show pvV none = V.non from rfl)]
      refine iteT ⟨by show 1 ≤ sizeLine; decide, fun l0 n0 => rep_l (k := 31) upd_same (by omega) (by omega) fun l1 n1 => ⟨by show 1 ≤ sizeLine; decide, fun l2 n2 => ?_⟩⟩
      have x0 := Evl.Ex.new (o := .lst [V.int 255]) n0
      have x1 := Evl.Ex.new (o := .lst (IV (List.replicate (31 : Int).toNat 255))) n1
      have x2 := Evl.Ex.new (o := .lst [V.ref l1]) n2
      refine .inr (.inl ⟨l2, 8, [V.ref l1], rfl, rfl, upd_same, by omega, by omega, by show 1 * 8 ≤ sizeLine; decide, fun p np => ?_⟩)
      have x3 := Evl.Ex.new (o := .lst (List.replicate (8 : Int).toNat [V.ref l1]).flatten) np
      refine q p _ (((x0.trans x1).trans x2).trans x3) ⟨.inr (Evl.fresh_back ((x0.trans x1).trans x2) np), List.replicate 8 l1, rfl, upd_same, fun k hk => ?_⟩
      have g : (List.replicate 8 l1).getD k 0 = l1 := rep_getD _ _ _ _ hk
      rw [g]
      refine ⟨.inr (Evl.fresh_back x0 n1), ?_⟩
      show _ = some (HO.lst (IV (pg (List.replicate 248 255) k)))
      rw [pg_rep hk]
      exact x3 _ _ (x2 _ _ upd_same)
    | some p =>
      have hp := hL.2.2.2.2 p rfl
      have lw := hL.2.2.2.1
      rw [decide_eq_false (show ¬ pvV (some p) = V.non from fun z => by cases z)]
      refine iteF ⟨_, rfl, _, rfl, hG.row hb fun row hrow => ?_⟩
      obtain ⟨r1, ps, r2, r3, r4⟩ := hrow
      refine ⟨row, _, rfl, .inl (SqL.of r3), fun l nl => ?_⟩
      have xl := Evl.Ex.new (o := .lst (ps.map V.ref)) nl
      have hl := upd_same (H := H) (a := l) (o := .lst (ps.map V.ref))
      have hw := xl _ _ hL.2.1
      have hpg := xl _ _ (r4 p hp).2
      generalize upd H l (.lst (ps.map V.ref)) = H1 at xl hl hw hpg ⊢
      have lp := pg_len lX hp
      have lB := both_len (f := Builtin.bitAnd) (xs := pg (oss.getD b []) p) (ys := ws) (by omega)
      refine ⟨31, rfl, by omega, by omega, fun C hC => ?_⟩
      refine lc_range (lo := 0) (n := 31) (fun i H' => i ≤ 31 ∧ Evl.Ex H1 H' ∧ H' C = some (.lst (IV ((both Builtin.bitAnd (pg (oss.getD b []) p) ws).take i)))) ⟨by omega, Evl.Ex.new hC, upd_same⟩ ?_ ?_
      · rintro i H2 hi ⟨_, e2, h2⟩
        have ez : (0 : Int) + (i : Int) = (i : Int) := Int.zero_add _
        rw [ez]
        obtain ⟨x, hx⟩ := get_lt (l := pg (oss.getD b []) p) (i := i) (by omega)
        obtain ⟨y, hy⟩ := get_lt (l := ws) (i := i) (by omega)
        refine ⟨rfl, _, rfl, _, rfl, tup_ix (e2 _ _ hl) (by omega) ⟨_, rfl, Sv.ix (x := .non) (Sv.lst (e2 _ _ hpg)) (i := (i : Int)) (iv_at hx) ⟨_, rfl, _, rfl, Sv.ix (x := .non) (Sv.lst (e2 _ _ hw)) (i := (i : Int)) (iv_at hy) ⟨_, _, rfl, rfl, ?_⟩⟩⟩⟩
        refine ⟨_, h2, by rw [iv_len, List.length_take]; exact Evl.sz_lt (by omega), by omega, Evl.Ex.mut e2 hC, ?_⟩
        rw [upd_same, both_take hx hy, iv_snoc]
      · rintro H2 ⟨_, e2, h2⟩
        rw [show (31 : Nat) = (both Builtin.bitAnd (pg (oss.getD b []) p) ws).length by omega, List.take_length] at h2
        refine ⟨_, rfl, _, rfl, l, _, _, p, rfl, rfl, e2 _ _ hl, Evl.ixN_nat (by rw [List.length_map]; omega), ?_⟩
        have lC : l ≠ C := fun e => by rw [← e, hl] at hC; cases hC
        have E2 := Evl.Ex.mut (o := .lst ((ps.map V.ref).set p (V.ref C))) (xl.trans e2) nl
        refine ⟨_, rfl, q l _ E2 ⟨.inr nl, ps.set p C, by rw [List.length_set]; exact r2, by rw [upd_same, List.map_set], fun k hk => ?_⟩⟩
        show _ ∧ _ = some (HO.lst (IV (pg (wrote (oss.getD b []) ws p) k)))
        rw [getD_set _ _ _ _ _ (by omega)]
        by_cases e : k = p
        · rw [if_pos e, e, pg_wrote lX lw hp]
          exact ⟨.inr (Evl.fresh_back xl hC), by rw [upd_ne (Ne.symm lC)]; exact h2⟩
        · rw [if_neg e, wrote_other lX lw hp hk e]
          exact ⟨.inl (r4 k hk).1, E2 _ _ (r4 k hk).2⟩
def spBtw (K : PySem.W.Frag) : Sp := fun vs H Q _ => ∃ (N1 N2 N3 : Addr → Prop) (a b c : Addr) (X Z Y : List Int), vs = [.ref a, .ref b, .ref c] ∧ Row N1 H a X ∧ Row N2 H b Z ∧ Row N3 H c Y ∧ X.length = 248 ∧ Z.length = 248 ∧ Y.length = 248 ∧ Btw X Z Y ∧ Q (.bl true) H
theorem ok_between (T : Txt K mg) (F : FnP K "_law_is_between" s__law_is_between f fd) : Fg P w K mg base CX0 1 f fd ["_law_old", "_law_now", "_law_due_here"] (spBtw K) := by
  refine fg_of F sc__law_is_between (fun vs H Q E h => ?_) (fun cdv A outer s₀ H vs Q E hr h => ⟨_, (PSs.nox (pss_cons (ps_for PassesOwn.never rfl (pi_range1 rfl T.f_range (pa_cons pe_int pa_nil)) (pg_name (i := 3) sc__law_is_between.nd rfl (by first | exact Or.inl rfl | exact Or.inr rfl))
  (pss_one (ps_for PassesOwn.never rfl (pi_range1 rfl T.f_range (pa_cons pe_int pa_nil)) (pg_name (i := 4) sc__law_is_between.nd rfl (by first | exact Or.inl rfl | exact Or.inr rfl))
  (pss_cons (ps_par3 (i := 5) (j := 6) (l := 7) rfl sc__law_is_between.nd rfl rfl rfl (by decide) (by decide) (by decide) rfl rfl rfl (pa_cons (pe_ix (u_ix (K := K)) (pe_ix (u_ix (K := K)) (pv 0) (pv 3) (fun _ _ => rfl)) (pv 4) (fun _ _ => rfl)) (pa_cons (pe_ix (u_ix (K := K)) (pe_ix (u_ix (K := K)) (pv 1) (pv 3) (fun _ _ => rfl)) (pv 4) (fun _ _ => rfl)) (pa_cons (pe_ix (u_ix (K := K)) (pe_ix (u_ix (K := K)) (pv 2) (pv 3) (fun _ _ => rfl)) (pv 4) (fun _ _ => rfl)) pa_nil))) (by rfl))
  (pss_one (ps_if (pt_cmpR (u_ne (K := K) hr) (pe_op op_and (pe_op op_xor (pv 5) (pv 6)) (pe_op op_xor (pv 5) (pv 7))) (pe_op op_xor (pv 5) (pv 6)) (nomark _))
  (pss_one (ps_ret pe_bl)) pss_nil))))))
  (pss_one (ps_ret pe_bl)))), ?_⟩)
  · obtain ⟨N1, N2, N3, a, b, c, X, Z, Y, rfl, _⟩ := h
    rfl
  · obtain ⟨N1, N2, N3, a, b, c, X, Z, Y, rfl, hX, hZ, hY, lX, lZ, lY, bt, q⟩ := h
    refine ⟨8, rfl, by omega, by omega, ?_⟩
    refine for_range (lo := 0) (n := 8) (fun i σ H' => i ≤ 8 ∧ H' = H ∧ ∃ v3 v4 v5 v6 v7 : Option V, σ = [some (.ref a), some (.ref b), some (.ref c), v3, v4, v5, v6, v7]) ⟨by omega, rfl, _, _, _, _, _, rfl⟩ ?_ ?_
    · rintro p σ H' hp ⟨_, rfl, v3, v4, v5, v6, v7, rfl⟩
      have ez : (0 : Int) + (p : Int) = (p : Int) := Int.zero_add _
      rw [ez]
      refine ⟨31, rfl, by omega, by omega, ?_⟩
      refine for_range (lo := 0) (n := 31) (fun i σ H2 => i ≤ 31 ∧ H2 = H' ∧ ∃ v4 v5 v6 v7 : Option V, σ = [some (.ref a), some (.ref b), some (.ref c), some (.int (p : Int)), v4, v5, v6, v7]) ⟨by omega, rfl, _, _, _, _, rfl⟩ ?_ ?_
      · rintro j σ H2 hj ⟨_, rfl, v4, v5, v6, v7, rfl⟩
        have ey : (0 : Int) + (j : Int) = (j : Int) := Int.zero_add _
        rw [ey]
        obtain ⟨x, hx⟩ := get_lt (l := pg X p) (i := j) (by rw [pg_len lX hp]; omega)
        obtain ⟨z, hz⟩ := get_lt (l := pg Z p) (i := j) (by rw [pg_len lZ hp]; omega)
        obtain ⟨y, hy⟩ := get_lt (l := pg Y p) (i := j) (by rw [pg_len lY hp]; omega)
        have gx : X.getD (31 * p + j) 0 = x := by rw [← pg_get hj, List.getD_eq_getElem?_getD, hx]; rfl
        have gz : Z.getD (31 * p + j) 0 = z := by rw [← pg_get hj, List.getD_eq_getElem?_getD, hz]; rfl
        have gy : Y.getD (31 * p + j) 0 = y := by rw [← pg_get hj, List.getD_eq_getElem?_getD, hy]; rfl
        have bj := bt (31 * p + j) (by omega)
        rw [gx, gz, gy] at bj
        refine ⟨_, rfl, _, rfl, hX.page hp fun a1 _ h1 => ⟨_, rfl, Sv.ix (x := .non) (Sv.lst h1) (i := (j : Int)) (iv_at hx) ?_⟩⟩
        refine ⟨_, rfl, _, rfl, hZ.page hp fun b1 _ h2 => ⟨_, rfl, Sv.ix (x := .non) (Sv.lst h2) (i := (j : Int)) (iv_at hz) ?_⟩⟩
        refine ⟨_, rfl, _, rfl, hY.page hp fun c1 _ h3 => ⟨_, rfl, Sv.ix (x := .non) (Sv.lst h3) (i := (j : Int)) (iv_at hy) ?_⟩⟩
        refine ⟨_, _, _, rfl, ?_⟩
        refine ⟨_, rfl, _, rfl, _, _, rfl, rfl, _, rfl, _, rfl, _, _, rfl, rfl, _, _, rfl, rfl, _, rfl, _, rfl, _, _, rfl, rfl, .inl ⟨rfl, _, rfl, ?_⟩⟩
        exact same_int bj ⟨by omega, rfl, _, _, _, _, rfl⟩
      · rintro σ H2 ⟨_, rfl, v4, v5, v6, v7, rfl⟩
        exact ⟨by omega, rfl, _, _, _, _, _, rfl⟩
    · rintro σ H' ⟨_, rfl, v3, v4, v5, v6, v7, rfl⟩
      exact q
end
end K6
namespace K6
open PySem PySem.Spec PyProof.Rows L2 VB BM
section
variable {P : Program} {w : World} {K : PySem.W.Frag} {mg : Str → Option Value} {base : Heap} {f : Addr} {fd : FuncData}
def toldL (v : V) : List V := [.str "told", v]
def cutL (n : Int) : List V := [.str "cut", .int n]
def s0Of (s : CS) (b : Nat) (pv : Option Nat) : CS := match pv with
  | none => s.erased b
  | some _ => s
/-- an op, what it tells in a list -/
def spDone (K : PySem.W.Frag) (CP : Addr) : Sp := fun vs H Q _ => ∃ (a dx L : Addr) (s : CS) (b : Nat) (pv : Option Nat) (wv : Addr) (ws : List Int), vs = [.ref a, .ref L] ∧ ChipAt K H a dx s ∧ DeedAt H L b pv wv ws ∧ b < s.os.length ∧ s.c.pages = 8 ∧ Plan s.kp ∧ Plan s.kq ∧
  Ends K CP a dx (s0Of s b pv) b (due (s.os.getD b []) pv ws) H (fun v H' => ∀ l, H' l = none → Q (.ref l) (upd H' l (.lst (toldL v)))) (fun _ _ H' => ∀ l, H' l = none → Q (.ref l) (upd H' l (.lst (cutL s.c.ops))))
theorem ok_done {CP fI : Addr} (T : Txt K mg) (xm : PySem.W.exmOne K (.ref CP) (.ref CP) = some true) (F : FnP K "_law_done" s__law_done f fd) (E_PowerCut : MkE P w K mg base "PowerCut" "op" CP fI)
    (M_Chip__erase : CalM P w K mg base (CX P w) 8 (Ch K) "erase" ["self", "block"] (spEr K CP)) (M_Chip__write : CalM P w K mg base (CX P w) 8 (Ch K) "write" ["self", "block", "page", "octets"] (spWr K CP)) :
    Fg P w K mg base CX0 9 f fd ["_law_chip", "_law_deed_here"] (spDone K CP) := by
  refine fg_of F sc__law_done (fun vs H Q E h => ?_) (fun cdv A outer s₀ H vs Q E hr h => ⟨_, (pss_one (ps_try_manyAs (i := 2) rfl rfl sc__law_done.nd rfl rfl takes_no
    (fun W pn xe tk pa => pss_one (ps_ret (pe_lst (pa_cons pe_str (pa_cons (pe_ifExp (pt_cmpR op_isN (pe_ix (u_ix (K := K)) (pv 1) pe_int (fun _ _ => rfl)) pe_non (nomark _)) (pe_calMS M_Chip__erase hr.le (passAt tk) (pv 0) (pa_cons (pe_ix (u_ix (K := K)) (pv 1) pe_int (fun _ _ => rfl)) pa_nil)) (pe_calMS M_Chip__write hr.le (passAt tk) (pv 0) (pa_cons (pe_ix (u_ix (K := K)) (pv 1) pe_int (fun _ _ => rfl)) (pa_cons (pe_ix (u_ix (K := K)) (pv 1) pe_int (fun _ _ => rfl)) (pa_cons (pe_ix (u_ix (K := K)) (pv 1) pe_int (fun _ _ => rfl)) pa_nil))))) pa_nil)))))
    (.cons (c := .ref CP) ⟨rfl, by decide, .inl E_PowerCut.err.gC⟩ (fun a oe cls d pn hz hv => pss_one (ps_ret (pe_lst (pa_cons pe_str (pa_cons (pe_xf E_PowerCut.err.xf E_PowerCut.err.noG hz hv (pv 2)) pa_nil))))) .nil))), ?_⟩)
  · obtain ⟨a, dx, L, s, b, pv, wv, ws, rfl, _⟩ := h
    rfl
  · obtain ⟨a, dx, L, s, b, pv, wv, ws, rfl, hc, hL, hb, pg8, pl, ql, q⟩ := h
    cases pv with
    | none =>
      refine ⟨_, rfl, hL.ix.2.1 ⟨rfl, _, rfl, ?_⟩⟩
      rw [decide_eq_true (show pvV none = V.non from rfl)]
      have er : List.replicate (31 * s.c.pages.toNat) (255 : Int) = due (s.os.getD b []) none ws := by
        rw [pg8]
        rfl
      refine iteT ⟨_, rfl, a, dx, _, rfl, hc.ins, rfl, _, rfl, hL.ix.1 ⟨a, dx, s, b, rfl, hc, hb, pl, ql, ?_⟩⟩
      rw [er]
      refine ⟨fun m s' d H' h1 h2 h3 h4 h5 h6 => ⟨true, xm, fun _ e0 ne0 => ⟨_, rfl, rfl, rfl, d, _, _, rfl, h4, rfl, by show 2 ≤ sizeLine; decide, fun l nl => ?_⟩, fun z => by cases z⟩, fun s' v H' h1 h2 h3 h4 => ⟨by show 2 ≤ sizeLine; decide, fun l nl => q.2 s' v H' h1 h2 h3 h4 l nl⟩⟩
      have z := q.1 m s' d H' h1 h2 h3 h4 h5 h6 l nl
      have eo : (s.erased b).c.ops = s.c.ops := by
        unfold CS.erased
        split <;> rfl
      rw [eo]
      exact z
    | some p =>
      have hp := hL.2.2.2.2 p rfl
      refine ⟨_, rfl, hL.ix.2.1 ⟨rfl, _, rfl, ?_⟩⟩
      rw [decide_eq_false (show ¬ pvV (some p) = V.non from fun z => by cases z)]
      refine iteF ⟨_, rfl, a, dx, _, rfl, hc.ins, rfl, _, rfl, hL.ix.1 ⟨_, rfl, hL.ix.2.1 ⟨_, rfl, hL.ix.2.2 ⟨a, dx, s, b, p, wv, ws, false, rfl, hc, hb, by omega, Sv.lst hL.2.1, hL.2.2.1, hL.2.2.2.1, pl, ql, ?_⟩⟩⟩⟩
      exact ⟨fun m s' d H' h1 h2 h3 h4 h5 h6 => ⟨true, xm, fun _ e0 ne0 => ⟨_, rfl, rfl, rfl, d, _, _, rfl, h4, rfl, by show 2 ≤ sizeLine; decide, fun l nl => q.1 m s' d H' h1 h2 h3 h4 h5 h6 l nl⟩, fun z => by cases z⟩, fun s' v H' h1 h2 h3 h4 => ⟨by show 2 ≤ sizeLine; decide, fun l nl => q.2 s' v H' h1 h2 h3 h4 l nl⟩⟩
end
end K6
namespace K6
open PySem PySem.Spec PyProof.Rows L2 VB BM
inductive Kd where
  | cut
  | fail
  | well
def Kd.s : Kd → Str
  | .cut => "cut"
  | .fail => "fail"
  | .well => "well"
def Kd.isCut : Kd → Bool
  | .cut => true
  | _ => false
def Kd.isWell : Kd → Bool
  | .well => true
  | _ => false
def Kd.isFail : Kd → Bool
  | .fail => true
  | _ => false
theorem Kd.eqs (k : Kd) : decide (V.str k.s = V.str "cut") = k.isCut ∧ decide (V.str k.s = V.str "fail") = k.isFail ∧ decide (V.str k.s = V.str "well") = k.isWell := by
  cases k <;> exact ⟨by decide, by decide, by decide⟩
def resL (k : Kd) (bad : Bool) (n : Int) : List V := match k with
  | .cut => cutL n
  | .fail => toldL (.bl false)
  | .well => toldL (.bl (!bad))
/-- the erases behind an op -/
def er' (s : CS) (b : Nat) (pv : Option Nat) (bad : Bool) : List Int := match pv, bad with
  | none, false => s.er.set b (s.er.getD b 0 + 1)
  | _, _ => s.er
structure Aft (k : Kd) (bad : Bool) (pv : Option Nat) (m : Int) (Y : List Int) (s s' : CS) (b : Nat) : Prop where
  blocks : s'.c.blocks = s.c.blocks
  pages : s'.c.pages = s.c.pages
  bd : s'.c.bad = s.c.bad
  own : s'.c.o = s.c.o ∧ s'.c.e = s.c.e ∧ s'.c.t = s.c.t ∧ s'.c.p = s.c.p ∧ s'.c.q = s.c.q ∧ s'.c.r = s.c.r
  ops : s'.c.ops = s.c.ops + 1
  cuts : s'.c.cuts = s.c.cuts + (if k.isCut then 1 else 0)
  er : s'.er = er' s b pv bad
  tb : s'.tb = (if k.isFail && !bad then s.tb.set b true else s.tb)
  kp : s'.kp = []
  kq : s'.kq = []
  os : ∃ Z, s'.os = s.os.set b Z ∧ (bad = true → Z = s.os.getD b []) ∧ (bad = false → k.isWell = true → Z = Y) ∧ (bad = false → k.isWell = false → Z = mixL (s.os.getD b []) Y m)
theorem set_self {α : Type} {xs : List α} {b : Nat} {d : α} (h : b < xs.length) : xs.set b (xs.getD b d) = xs := by
  rw [List.getD_eq_getElem?_getD, List.getElem?_eq_getElem h]
  exact List.set_getElem_self h
section
variable {K : PySem.W.Frag}
theorem ends_aft {CP ch dx : Addr} {s s0 : CS} {b : Nat} {k : Kd} {bad : Bool} {pv : Option Nat} {m : Int} {Y : List Int} {H : Hp} {R : List V → Hp → Prop} (hb : b < s.os.length) (hbad : bad = s.tb.getD b false) (hfl : bad = false → k.isFail = true → ((badL s.tb).length : Int) < s.c.bad)
    (e1 : s0.os = s.os) (e2 : s0.tb = s.tb) (e3 : s0.c = s.c) (e4 : s0.er = er' s b pv bad) (p1 : valV s0.kp (Sum.inl s.c.ops : Key) = if k.isCut then some (.int m) else none) (p2 : valV s0.kq (Sum.inl s.c.ops : Key) = if k.isFail then some (.int m) else none)
    (d1 : dropK s0.kp (Sum.inl s.c.ops : Key) = []) (d2 : dropK s0.kq (Sum.inl s.c.ops : Key) = [])
    (q : ∀ (s' : CS) (H' : Hp), Fr ch s.c H H' → ChipAt K H' ch dx s' → Aft k bad pv m Y s s' b → R (resL k bad s.c.ops) H') :
    Ends K CP ch dx s0 b Y H (fun v H' => R (toldL v) H') (fun _ _ H' => R (cutL s.c.ops) H') := by
  obtain ⟨c0, rs0, os0, er0, tb0, kp0, kq0⟩ := s0
  simp only at e1 e2 e3 e4 p1 p2 d1 d2
  subst e1 e2 e3
  refine ⟨fun m' s' d H' h1 hf _ _ hc hs => ?_, fun s' v H' h1 hf hc hs => ?_⟩
  · obtain ⟨r, rfl⟩ := hs
    have h1 : valV kp0 (Sum.inl s.c.ops : Key) = some (.int m') := h1
    rw [p1] at h1
    cases k with
    | fail => cases h1
    | well => cases h1
    | cut =>
      cases h1
      refine q _ H' hf hc ?_
      by_cases z : s.tb.getD b false = true
      · rw [if_pos z]
        have zb : bad = true := hbad.trans z
        refine ⟨rfl, rfl, rfl, ⟨rfl, rfl, rfl, rfl, rfl, rfl⟩, rfl, rfl, e4, rfl, d1, d2, s.os.getD b [], (set_self hb).symm, fun _ => rfl, fun y => ?_, fun y => ?_⟩
        · rw [zb] at y; cases y
        · rw [zb] at y; cases y
      · rw [if_neg z]
        have zb : bad = false := by rw [hbad]; simpa using z
        refine ⟨rfl, rfl, rfl, ⟨rfl, rfl, rfl, rfl, rfl, rfl⟩, rfl, rfl, e4, rfl, d1, d2, _, rfl, fun y => ?_, fun _ y => ?_, fun _ _ => rfl⟩
        · rw [zb] at y; cases y
        · cases y
  · have h1 : valV kp0 (Sum.inl s.c.ops : Key) = none := h1
    rw [p1] at h1
    cases k with
    | cut => cases h1
    | fail =>
      obtain ⟨nw, ⟨z, rfl, rfl⟩ | ⟨z, m', r, g1, g2, rfl, rfl⟩ | ⟨z, g1, rfl, rfl⟩⟩ := hs
      · have zb : bad = true := hbad.trans z
        refine q _ H' hf hc ⟨rfl, rfl, rfl, ⟨rfl, rfl, rfl, rfl, rfl, rfl⟩, rfl, (Int.add_zero _).symm, e4, ?_, d1, d2, s.os.getD b [], (set_self hb).symm, fun _ => rfl, fun y => ?_, fun y => ?_⟩
        · rw [zb]
          rfl
        · rw [zb] at y; cases y
        · rw [zb] at y; cases y
      · have g1 : valV kq0 (Sum.inl s.c.ops : Key) = some (.int m') := g1
        rw [p2] at g1
        cases g1
        have zb : bad = false := hbad.trans z
        refine q _ H' hf hc ⟨rfl, rfl, rfl, ⟨rfl, rfl, rfl, rfl, rfl, rfl⟩, rfl, (Int.add_zero _).symm, e4, ?_, d1, d2, _, rfl, fun y => ?_, fun _ y => ?_, fun _ _ => rfl⟩
        · rw [zb]
          rfl
        · rw [zb] at y; cases y
        · cases y
      · have zb : bad = false := hbad.trans z
        refine absurd ⟨?_, hfl zb rfl⟩ g1
        show valV kq0 (Sum.inl s.c.ops : Key) ≠ none
        rw [p2]
        exact fun y => by cases y
    | well =>
      obtain ⟨nw, ⟨z, rfl, rfl⟩ | ⟨z, m', r, g1, g2, rfl, rfl⟩ | ⟨z, g1, rfl, rfl⟩⟩ := hs
      · have zb : bad = true := hbad.trans z
        subst zb
        exact q _ H' hf hc ⟨rfl, rfl, rfl, ⟨rfl, rfl, rfl, rfl, rfl, rfl⟩, rfl, (Int.add_zero _).symm, e4, rfl, d1, d2, s.os.getD b [], (set_self hb).symm, fun _ => rfl, fun y => (by cases y), fun y => (by cases y)⟩
      · have g1 : valV kq0 (Sum.inl s.c.ops : Key) = some (.int m') := g1
        rw [p2] at g1
        cases g1
      · have zb : bad = false := hbad.trans z
        subst zb
        exact q _ H' hf hc ⟨rfl, rfl, rfl, ⟨rfl, rfl, rfl, rfl, rfl, rfl⟩, rfl, (Int.add_zero _).symm, e4, rfl, d1, d2, _, rfl, fun y => (by cases y), fun _ _ => rfl, fun _ y => (by cases y)⟩
end
end K6
namespace K6
open PySem PySem.Spec PyProof.Rows L2 VB BM
abbrev st3 (K : PySem.W.Frag) : TS := (tSeq (tAsg (tTup (tCons (tOp (rAddU K) (tOp (rIx K) (tVar 7) (tC (V.int 0))) (tC (V.int 1))) (tCons (tOp (rAddU K) (tOp (rIx K) (tVar 7) (tC (V.int 1))) (tCB (fun xs H Q => (∃ i, xs = [V.int i] ∧ Q (V.int i) H) ∨ ∃ k, xs = [V.bl k] ∧ Q (V.int (if k = true then 1 else 0)) H) (tCons (tOp (rEqU K) (tVar 4) (tC (V.str ("cut")))) tNil))) tNil))) (gTup K 2 (gCons (gSub (tVar 7) (tC (V.int 0)) rSetL) (gCons (gSub (tVar 7) (tC (V.int 1)) rSetL) gNil)))) (tSeq (tIfS (tAnd (tTest (tOp (fun x y H Q => y = V.non ∧ Q (V.bl (decide (x = V.non))) H) (tOp (rIx K) (tVar 2) (tC (V.int 1))) (tC V.non))) (tNot (tTru K (tVar 5)))) (tAsg (tOp (rAddU K) (tOp (rIx K) (tVar 7) (tOp (rAddU K) (tC (V.int 2)) (tOp (rIx K) (tVar 2) (tC (V.int 0))))) (tC (V.int 1))) (gSub (tVar 7) (tOp (rAddU K) (tC (V.int 2)) (tOp (rIx K) (tVar 2) (tC (V.int 0)))) rSetL)) tNext) (tRet (tOp (rEqU K) (tCB (rRepr K) (tCons (tCall (spCounts K) [] E0 (tCons (tVar 0) (tCons (tVar 1) tNil))) tNil)) (tCB (rRepr K) (tCons (tVar 7) tNil))))))
abbrev st2 (K : PySem.W.Frag) : TS := (tSeq (tAsg (tIf (tTru K (tVar 5)) (tOp (rIx K) (tVar 6) (tOp (rIx K) (tVar 2) (tC (V.int 0)))) (tCall (spDue K) [] E0 (tCons (tVar 6) (tCons (tVar 2) tNil)))) (gName 10)) (tSeq (tFor (iRng1 (tCons (tVar 1) tNil)) (gName 11) (tIfS (tAnd (tTest (tOp (rNeU K) (tVar 11) (tOp (rIx K) (tVar 2) (tC (V.int 0))))) (tTest (tOp (rNeU K) (tOp (rIx K) (tVar 9) (tVar 11)) (tOp (rIx K) (tVar 6) (tVar 11))))) (tRet (tC (V.bl false))) tNext)) (tSeq (tIfS (tNot (tTru K (tCall (spBtw K) [] E0 (tCons (tOp (rIx K) (tVar 6) (tOp (rIx K) (tVar 2) (tC (V.int 0)))) (tCons (tOp (rIx K) (tVar 9) (tOp (rIx K) (tVar 2) (tC (V.int 0)))) (tCons (tVar 10) tNil)))))) (tRet (tC (V.bl false))) tNext) (tSeq (tIfS (tAnd (tOr (tTest (tOp (rEqU K) (tVar 4) (tC (V.str ("well"))))) (tTest (tOp (rEqU K) (tVar 3) (tOp (rI0 fun i j => V.int (i - j)) (tOp (rI CPowW fun i j => V.int (i ^ j.toNat)) (tOp (rI CPowW fun i j => V.int (i ^ j.toNat)) (tC (V.int 2)) (tC (V.int 64))) (tC (V.int 64))) (tC (V.int 1)))))) (tTest (tOp (rNeU K) (tOp (rIx K) (tVar 9) (tOp (rIx K) (tVar 2) (tC (V.int 0)))) (tVar 10)))) (tRet (tC (V.bl false))) tNext) (tSeq (tIfS (tAnd (tTest (tOp (rNeU K) (tVar 4) (tC (V.str ("well"))))) (tAnd (tTest (tOp (rEqU K) (tVar 3) (tC (V.int 0)))) (tTest (tOp (rNeU K) (tVar 9) (tVar 6))))) (tRet (tC (V.bl false))) tNext) (st3 K))))))
abbrev stR (K : PySem.W.Frag) (CP : Addr) : TS := (tSeq (tPar 8 9 (tCons (tCall (spDone K CP) [] E0 (tCons (tVar 0) (tCons (tVar 2) tNil))) (tCons (tCall (spPages K) [] E0 (tCons (tVar 0) (tCons (tVar 1) tNil))) tNil))) (tSeq (tIfS (tTest (tOp (rNeU K) (tCB (rRepr K) (tCons (tVar 8) tNil)) (tCB (rRepr K) (tCons (tIf (tTest (tOp (rEqU K) (tVar 4) (tC (V.str ("cut"))))) (tLst (tCons (tC (V.str ("cut"))) (tCons (tOp (rIx K) (tVar 7) (tC (V.int 0))) tNil))) (tLst (tCons (tC (V.str ("told"))) (tCons (tAndV (tOp (rEqU K) (tVar 4) (tC (V.str ("well")))) (tNotV (tVar 5))) tNil)))) tNil)))) (tRet (tC (V.bl false))) tNext) (st2 K)))
section
variable {K : PySem.W.Frag}
theorem ChipAt.off {H : Hp} {ch dx y : Addr} {s : CS} {xs ys : List V} (h : ChipAt K H ch dx s) (o : ¬ Own ch s.c y) (hy : H y = some (.lst xs)) : ChipAt K (upd H y (.lst ys)) ch dx s := by
  have n : ∀ {x : Addr}, Own ch s.c x → x ≠ y := fun hx z => o (z ▸ hx)
  exact ⟨by rw [upd_ne (n (.inl rfl))]; exact h.ins, by rw [upd_ne (n (.inr (.inl rfl)))]; exact h.o, by rw [upd_ne (n (.inr (.inr (.inl rfl))))]; exact h.e, by rw [upd_ne (n (.inr (.inr (.inr (.inl rfl)))))]; exact h.t, by rw [upd_ne (n (.inr (.inr (.inr (.inr (.inl rfl))))))]; exact h.p, by rw [upd_ne (n (.inr (.inr (.inr (.inr (.inr (.inl rfl)))))))]; exact h.q,
    fun i hi => by rw [upd_ne (ne_of (h.tup i hi) hy (fun z => by cases z))]; exact h.tup i hi, h.oe, h.ot, h.et, h.pq, h.nr, h.ne, h.nt, h.nb, h.b8, h.g8, h.oct, ⟨by rw [upd_ne (n (.inr (.inr (.inr (.inr (.inr (.inr rfl)))))))]; exact h.rr.1, h.rr.2⟩⟩
/-- the counts, told and reckoned -/
theorem step_counts {ch dx L wv C1 : Addr} {s s' : CS} {b : Nat} {pv : Option Nat} {ws : List Int} {m : Int} {k : Kd} {bad : Bool} {Y : List Int} {Q : VK} {v6 v8 v9 v10 v11 : Option V} {H0 H : Hp} (A : Aft k bad pv m Y s s' b) (hb : b < s.os.length) (hne : s.er.length = s.os.length) (hc : ChipAt K H ch dx s') (f : Fr ch s.c H0 H) (hL : DeedAt H L b pv wv ws) (LC : L ≠ C1) (WC : wv ≠ C1) (oC : ¬ Own ch s.c C1) (nC : H0 C1 = none)
    (hC : H C1 = some (.lst (IV (cntL s)))) (sm : Sm (cntL s)) (small : ∀ x ∈ cntL s, x < 9000)
    (q : ∀ H' : Hp, Fr ch s.c H0 H' → ChipAt K H' ch dx s' → Q (.bl true) H') :
    st3 K { nx := fun x H' => Q V.non H', rt := Q } [some (.ref ch), some (.int (s.os.length : Int)), some (.ref L), some (.int m), some (.str k.s), some (.bl bad), v6, some (.ref C1), v8, v9, v10, v11] H := by
  have ow' : ¬ Own ch s'.c C1 := Own.same A.own.1 A.own.2.1 A.own.2.2.1 A.own.2.2.2.1 A.own.2.2.2.2.1 A.own.2.2.2.2.2 oC
  have b24 := hc.b8
  have le' := hc.ne
  obtain ⟨Z, oZ, _⟩ := A.os
  have lo : s'.os.length = s.os.length := by rw [oZ, List.length_set]
  have ec : cntL s = s.c.ops :: s.c.cuts :: s.er := rfl
  refine ⟨_, rfl, Sv.ix (x := .non) (Sv.lst hC) (i := 0) (iv_at (i := 0) (show (cntL s)[0]? = some s.c.ops from rfl)) (.inl ⟨_, _, rfl, rfl, _, rfl, Sv.ix (x := .non) (Sv.lst hC) (i := 1) (iv_at (i := 1) (show (cntL s)[1]? = some s.c.cuts from rfl)) ⟨_, rfl, .inl ⟨rfl, .inr ⟨_, rfl, .inl ⟨_, _, rfl, rfl, by show 2 ≤ sizeLine; decide, fun t nt => ?_⟩⟩⟩⟩⟩)⟩
  have xt := Evl.Ex.new (o := .tup [V.int (s.c.ops + 1), V.int (s.c.cuts + (if decide (V.str k.s = V.str "cut") = true then 1 else 0))]) nt
  have hC1 := xt _ _ hC
  have hc1 := hc.ex xt
  have f1 := f.ex xt
  have hL1 := hL.ex xt
  refine ⟨t, _, rfl, SqT.of upd_same, rfl, _, _, rfl, _, rfl, C1, _, _, 0, rfl, rfl, hC1, Evl.ixN_nat (by rw [iv_len]; show 0 < s.er.length + 1 + 1; omega), _, _, rfl, _, rfl, C1, _, _, 1, rfl, rfl, upd_same, Evl.ixN_nat (by rw [List.length_set, iv_len]; show 1 < s.er.length + 1 + 1; omega), rfl, ?_⟩
  rw [(Kd.eqs k).1]
  generalize hcn : (if k.isCut = true then (1 : Int) else 0) = cn
  have cn1 : 0 ≤ cn ∧ cn ≤ 1 := by
    rw [← hcn]
    split <;> omega
  have ec' : cntL s' = [s.c.ops + 1, s.c.cuts + cn] ++ er' s b pv bad := by
    unfold cntL
    rw [A.ops, A.cuts, A.er, hcn]
  have fm : ∀ {H' : Hp} {o : HO}, Fr ch s.c H0 H' → Fr ch s.c H0 (upd H' C1 o) := fun fr x u n1 n2 n3 n4 n5 n6 n7 hx => by
    rw [upd_ne (fun z => by rw [z, nC] at hx; cases hx)]
    exact fr x u n1 n2 n3 n4 n5 n6 n7 hx
  have fin : ∀ (H3 : Hp) (v11 : Option V), H3 C1 = some (.lst (IV (cntL s'))) → ChipAt K H3 ch dx s' → Fr ch s.c H0 H3 → Sm (cntL s') →
      tRet (tOp (rEqU K) (tCB (rRepr K) (tCons (tCall (spCounts K) [] E0 (tCons (tVar 0) (tCons (tVar 1) tNil))) tNil)) (tCB (rRepr K) (tCons (tVar 7) tNil))) { nx := fun x H' => Q V.non H', rt := Q } [some (.ref ch), some (.int (s.os.length : Int)), some (.ref L), some (.int m), some (.str k.s), some (.bl bad), v6, some (.ref C1), v8, v9, v10, v11] H3 := by
    intro H3 v11 h3 c3 f3 sm3
    have ln : (cntL s').length ≤ 6000 := by
      show s'.er.length + 1 + 1 ≤ 6000
      omega
    refine ⟨_, rfl, _, rfl, ch, dx, s', ?_, c3, fun p H4 np e4 h4 => rp_l (SqL.of h4) sm3 ln ⟨_, rfl, rp_l (SqL.of (e4 _ _ h3)) sm3 ln (.inl ⟨rfl, ?_⟩)⟩⟩
    · rw [lo]
      rfl
    · rw [decide_eq_true rfl]
      exact q H4 (f3.ex e4) (c3.ex e4)
  have hC2 : (upd (upd (upd H t (.tup [V.int (s.c.ops + 1), V.int (s.c.cuts + cn)])) C1 (.lst ((IV (cntL s)).set 0 (.int (s.c.ops + 1))))) C1 (.lst (((IV (cntL s)).set 0 (.int (s.c.ops + 1))).set 1 (.int (s.c.cuts + cn))))) C1 = some (.lst (IV ([s.c.ops + 1, s.c.cuts + cn] ++ s.er))) := by
    rw [upd_same]
    rfl
  rw [(Kd.eqs k).1, hcn] at hC1 hc1 f1 hL1
  have hc2 := (hc1.off (ys := (IV (cntL s)).set 0 (.int (s.c.ops + 1))) ow' hC1).off (ys := ((IV (cntL s)).set 0 (.int (s.c.ops + 1))).set 1 (.int (s.c.cuts + cn))) ow' upd_same
  have f2 := fm (o := .lst (((IV (cntL s)).set 0 (.int (s.c.ops + 1))).set 1 (.int (s.c.cuts + cn)))) (fm (o := .lst ((IV (cntL s)).set 0 (.int (s.c.ops + 1)))) f1)
  have hL2 : DeedAt (upd (upd (upd H t (.tup [V.int (s.c.ops + 1), V.int (s.c.cuts + cn)])) C1 (.lst ((IV (cntL s)).set 0 (.int (s.c.ops + 1))))) C1 (.lst (((IV (cntL s)).set 0 (.int (s.c.ops + 1))).set 1 (.int (s.c.cuts + cn))))) L b pv wv ws :=
    ⟨by rw [upd_ne LC, upd_ne LC]; exact hL1.1, by rw [upd_ne WC, upd_ne WC]; exact hL1.2.1, hL1.2.2⟩
  have sm2 : ∀ (es : List Int), (∀ x ∈ es, 0 ≤ x ∧ x < 10000) → Sm ([s.c.ops + 1, s.c.cuts + cn] ++ es) := by
    intro es he x hx
    have o1 := sm s.c.ops (by rw [ec]; simp)
    have o2 := small s.c.ops (by rw [ec]; simp)
    have c1 := sm s.c.cuts (by rw [ec]; simp)
    have c2 := small s.c.cuts (by rw [ec]; simp)
    rcases List.mem_append.mp hx with y | y
    · simp only [List.mem_cons, List.not_mem_nil, or_false] at y
      rcases y with rfl | rfl <;> omega
    · exact he x y
  have se : ∀ x ∈ s.er, 0 ≤ x ∧ x < 9000 := fun x hx => ⟨(sm x (by rw [ec]; simp [hx])).1, small x (by rw [ec]; simp [hx])⟩
  show (tSeq (tIfS (tAnd (tTest (tOp (fun x y H Q => y = V.non ∧ Q (V.bl (decide (x = V.non))) H) (tOp (rIx K) (tVar 2) (tC (V.int 1))) (tC V.non))) (tNot (tTru K (tVar 5)))) _ tNext) _) _ _ (upd (upd (upd H t (.tup [V.int (s.c.ops + 1), V.int (s.c.cuts + cn)])) C1 (.lst ((IV (cntL s)).set 0 (.int (s.c.ops + 1))))) C1 (.lst (((IV (cntL s)).set 0 (.int (s.c.ops + 1))).set 1 (.int (s.c.cuts + cn)))))
  generalize upd (upd (upd H t (.tup [V.int (s.c.ops + 1), V.int (s.c.cuts + cn)])) C1 (.lst ((IV (cntL s)).set 0 (.int (s.c.ops + 1))))) C1 (.lst (((IV (cntL s)).set 0 (.int (s.c.ops + 1))).set 1 (.int (s.c.cuts + cn)))) = H2 at hC2 hc2 f2 hL2 ⊢
  refine ⟨_, rfl, hL2.ix.2.1 ⟨rfl, _, rfl, ?_⟩⟩
  have plain : er' s b pv bad = s.er → cntL s' = [s.c.ops + 1, s.c.cuts + cn] ++ s.er := fun e => by rw [ec', e]
  cases pv with
  | some p =>
    rw [decide_eq_false (show ¬ pvV (some p) = V.non from fun z => by cases z)]
    have e := plain rfl
    exact iteF (iteF (fin H2 v11 (by rw [e]; exact hC2) hc2 f2 (by rw [e]; exact sm2 _ fun x hx => ⟨(se x hx).1, by have := se x hx; omega⟩)))
  | none =>
    rw [decide_eq_true (show pvV none = V.non from rfl)]
    cases bad with
    | true =>
      have e := plain rfl
      exact iteT ⟨_, rfl, true, rfl, iteF (fin H2 v11 (by rw [e]; exact hC2) hc2 f2 (by rw [e]; exact sm2 _ fun x hx => ⟨(se x hx).1, by have := se x hx; omega⟩))⟩
    | false =>
      have be : b < s.er.length := by omega
      have e2 : (2 : Int) + (b : Int) = ((2 + b : Nat) : Int) := by omega
      have gb : ([s.c.ops + 1, s.c.cuts + cn] ++ s.er)[2 + b]? = some (s.er.getD b 0) := by
        rw [Nat.add_comm]
        show s.er[b]? = some (s.er.getD b 0)
        exact getD_get be
      have e' : cntL s' = [s.c.ops + 1, s.c.cuts + cn] ++ s.er.set b (s.er.getD b 0 + 1) := ec'
      have es : (IV ([s.c.ops + 1, s.c.cuts + cn] ++ s.er)).set (2 + b) (.int (s.er.getD b 0 + 1)) = IV (cntL s') := by
        rw [e', ← List.map_set, Nat.add_comm]
        rfl
      refine iteT ⟨_, rfl, false, rfl, iteT ⟨_, rfl, _, rfl, hL2.ix.1 (.inl ⟨_, _, rfl, rfl, ?_⟩)⟩⟩
      dsimp only
      rw [e2]
      refine Sv.ix (x := .non) (Sv.lst hC2) (i := ((2 + b : Nat) : Int)) (iv_at gb) (.inl ⟨_, _, rfl, rfl, _, rfl, _, rfl, hL2.ix.1 (.inl ⟨_, _, rfl, rfl, ?_⟩)⟩)
      dsimp only
      rw [e2]
      refine ⟨C1, _, _, 2 + b, rfl, rfl, hC2, Evl.ixN_nat (by rw [iv_len]; show 2 + b < s.er.length + 1 + 1; omega), ?_⟩
      rw [es]
      have gm : 0 ≤ s.er.getD b 0 ∧ s.er.getD b 0 < 9000 := se _ (List.mem_of_getElem? (getD_get be))
      refine fin _ v11 upd_same (hc2.off ow' hC2) (fm f2) ?_
      rw [e']
      refine sm2 _ fun x hx => ?_
      rcases List.mem_or_eq_of_mem_set hx with y | y
      · have := se x y
        omega
      · omega
end
end K6
namespace K6
open PySem PySem.Spec PyProof.Rows L2 VB BM
theorem due_ok {X ws : List Int} {pv : Option Nat} (oX : Oct X) (lX : X.length = 248) (ow : Oct ws) (lw : ws.length = 31) (p8 : ∀ p, pv = some p → p < 8) : Oct (due X pv ws) ∧ (due X pv ws).length = 248 := by
  cases pv with
  | none => exact ⟨oct_255 _, List.length_replicate⟩
  | some p =>
    have hp := p8 p rfl
    refine ⟨show Oct (wrote X ws p) from fun o ho => ?_, wrote_len lX lw hp⟩
    obtain ⟨i, hi, rfl⟩ := List.mem_iff_getElem.mp ho
    have lN := wrote_len lX lw hp
    have g := wrote_get (X := X) (ws := ws) (p := p) (i := i) lX lw hp
    rw [List.getD_eq_getElem?_getD, List.getElem?_eq_getElem hi] at g
    have g' : (wrote X ws p)[i] = _ := g
    rw [g']
    split
    · exact and_oct (getD_oct oX (by omega)) (getD_oct ow (by omega))
    · exact getD_oct oX (by omega)
section
variable {K : PySem.W.Frag}
theorem step_two {ch dx L wv C1 D1 D2 : Addr} {s s' : CS} {b : Nat} {pv : Option Nat} {ws : List Int} {m : Int} {k : Kd} {bad : Bool} {Q : VK} {v8 : Option V} {H0 H : Hp} {N1 N2 : Addr → Prop} (A : Aft k bad pv m (due (s.os.getD b []) pv ws) s s' b) (hb : b < s.os.length) (hne : s.er.length = s.os.length) (b24 : s.os.length ≤ 24) (hoct : ∀ i, i < s.os.length → Oct (s.os.getD i []) ∧ (s.os.getD i []).length = 248)
    (hc : ChipAt K H ch dx s') (f : Fr ch s.c H0 H) (hL : DeedAt H L b pv wv ws) (LC : L ≠ C1) (WC : wv ≠ C1) (oC : ¬ Own ch s.c C1) (nC : H0 C1 = none)
    (hC : H C1 = some (.lst (IV (cntL s)))) (sm : Sm (cntL s)) (small : ∀ x ∈ cntL s, x < 9000) (hG1 : Grid N1 H D1 s.os) (hG2 : Grid N2 H D2 s'.os)
    (q : ∀ H' : Hp, Fr ch s.c H0 H' → ChipAt K H' ch dx s' → Q (.bl true) H') :
    st2 K { nx := fun x H' => Q V.non H', rt := Q } [some (.ref ch), some (.int (s.os.length : Int)), some (.ref L), some (.int m), some (.str k.s), some (.bl bad), some (.ref D1), some (.ref C1), v8, some (.ref D2), none, none] H := by
  obtain ⟨oX, lX⟩ := hoct b hb
  obtain ⟨Z, oZ, z1, z2, z3⟩ := A.os
  have yd := due_ok oX lX hL.2.2.1 hL.2.2.2.1 hL.2.2.2.2
  have lo : s'.os.length = s.os.length := by rw [oZ, List.length_set]
  have gZ : s'.os.getD b [] = Z := by rw [oZ, getD_set _ _ _ _ _ hb, if_pos rfl]
  have gO : ∀ i, i ≠ b → s'.os.getD i [] = s.os.getD i [] := fun i hi => by rw [oZ, getD_set _ _ _ _ _ hb, if_neg hi]
  obtain ⟨Y, hY⟩ : ∃ Y, Y = due (s.os.getD b []) pv ws := ⟨_, rfl⟩
  rw [← hY] at z2 z3 yd
  -- what is due by the law, as it stands
  have facts : ∃ Yd : List Int, Yd.length = 248 ∧ Z.length = 248 ∧ Btw (s.os.getD b []) Z Yd ∧ (bad = true → Yd = s.os.getD b []) ∧ (bad = false → Yd = Y) ∧ ((k.isWell = true ∨ m = MM - 1) → Z = Yd) ∧ (k.isWell = false → m = 0 → Z = s.os.getD b []) := by
    cases bad with
    | true =>
      rw [z1 rfl]
      exact ⟨s.os.getD b [], lX, lX, btw_old oX oX rfl, fun _ => rfl, (fun z => by cases z), fun _ => rfl, fun _ _ => rfl⟩
    | false =>
      cases hk : k.isWell with
      | true =>
        rw [z2 rfl hk]
        exact ⟨Y, yd.2, yd.2, btw_new oX yd.1 (by omega), (fun z => by cases z), fun _ => rfl, fun _ => rfl, fun z => by cases z⟩
      | false =>
        rw [z3 rfl hk]
        refine ⟨Y, yd.2, by rw [(mixL_spec m (by omega)).2.2]; exact lX, mix_btw m oX yd.1 (by omega), (fun z => by cases z), fun _ => rfl, fun z => ?_, fun _ z => ?_⟩
        · rcases z with z | z
          · cases z
          · rw [z]
            exact mix_all yd.1 (by omega) (by omega)
        · rw [z]
          exact mix_none oX (by omega)
  obtain ⟨Yd, lYd, lZ, bt, yb, yg, f1, f2⟩ := facts
  have w1 : CPowW 2 64 := ⟨by decide, by decide +kernel⟩
  have w2 : CPowW (2 ^ (64 : Int).toNat) 64 := ⟨by decide, by decide +kernel⟩
  have rest : ∀ (N3 : Addr → Prop) (r : Addr) (H3 : Hp), Evl.Ex H H3 → Row N3 H3 r Yd → (tSeq (tFor (iRng1 (tCons (tVar 1) tNil)) (gName 11) (tIfS (tAnd (tTest (tOp (rNeU K) (tVar 11) (tOp (rIx K) (tVar 2) (tC (V.int 0))))) (tTest (tOp (rNeU K) (tOp (rIx K) (tVar 9) (tVar 11)) (tOp (rIx K) (tVar 6) (tVar 11))))) (tRet (tC (V.bl false))) tNext)) (tSeq (tIfS (tNot (tTru K (tCall (spBtw K) [] E0 (tCons (tOp (rIx K) (tVar 6) (tOp (rIx K) (tVar 2) (tC (V.int 0)))) (tCons (tOp (rIx K) (tVar 9) (tOp (rIx K) (tVar 2) (tC (V.int 0)))) (tCons (tVar 10) tNil)))))) (tRet (tC (V.bl false))) tNext) (tSeq (tIfS (tAnd (tOr (tTest (tOp (rEqU K) (tVar 4) (tC (V.str ("well"))))) (tTest (tOp (rEqU K) (tVar 3) (tOp (rI0 fun i j => V.int (i - j)) (tOp (rI CPowW fun i j => V.int (i ^ j.toNat)) (tOp (rI CPowW fun i j => V.int (i ^ j.toNat)) (tC (V.int 2)) (tC (V.int 64))) (tC (V.int 64))) (tC (V.int 1)))))) (tTest (tOp (rNeU K) (tOp (rIx K) (tVar 9) (tOp (rIx K) (tVar 2) (tC (V.int 0)))) (tVar 10)))) (tRet (tC (V.bl false))) tNext) (tSeq (tIfS (tAnd (tTest (tOp (rNeU K) (tVar 4) (tC (V.str ("well"))))) (tAnd (tTest (tOp (rEqU K) (tVar 3) (tC (V.int 0)))) (tTest (tOp (rNeU K) (tVar 9) (tVar 6))))) (tRet (tC (V.bl false))) tNext) (st3 K)))))
      { nx := fun x H' => Q V.non H', rt := Q } [some (.ref ch), some (.int (s.os.length : Int)), some (.ref L), some (.int m), some (.str k.s), some (.bl bad), some (.ref D1), some (.ref C1), v8, some (.ref D2), some (.ref r), none] H3 := by
    intro N3 r H3 e3 hR
    have hL3 := hL.ex e3
    have G1 := hG1.ex e3
    have G2 := hG2.ex e3
    refine ⟨_, rfl, (s.os.length : Int), rfl, by omega, by omega, ?_⟩
    have nn : ((s.os.length : Int)).toNat = s.os.length := by omega
    rw [nn]
    refine for_range (lo := 0) (n := s.os.length) (fun i σ H' => i ≤ s.os.length ∧ H' = H3 ∧ ∃ v11 : Option V, σ = [some (.ref ch), some (.int (s.os.length : Int)), some (.ref L), some (.int m), some (.str k.s), some (.bl bad), some (.ref D1), some (.ref C1), v8, some (.ref D2), some (.ref r), v11]) ⟨by omega, rfl, _, rfl⟩ ?_ ?_
    · rintro i σ H' hi ⟨_, rfl, v11, rfl⟩
      have ez : (0 : Int) + (i : Int) = (i : Int) := Int.zero_add _
      rw [ez]
      refine ⟨_, rfl, _, rfl, hL3.ix.1 (.inl ⟨rfl, _, rfl, if_ne (fun ne => ?_) (fun _ => iteF ⟨by omega, rfl, _, rfl⟩)⟩)⟩
      have ne' : i ≠ b := fun e => ne (by rw [e])
      refine ⟨_, rfl, _, rfl, G2.row (by omega) fun y2 r2 => ⟨_, rfl, _, rfl, G1.row hi fun y1 r1 => ?_⟩⟩
      rw [gO i ne'] at r2
      exact ne_row r2 r1 ⟨_, rfl, iteF ⟨by omega, rfl, _, rfl⟩⟩
    · rintro σ H' ⟨_, rfl, v11, rfl⟩
      refine ⟨_, rfl, _, rfl, hL3.ix.1 (G1.row hb fun y1 r1 => ⟨_, rfl, _, rfl, hL3.ix.1 (G2.row (by omega) fun y2 r2 => ⟨_, rfl, N1, N2, N3, y1, y2, r, s.os.getD b [], Z, Yd, rfl, r1, by rw [← gZ]; exact r2, hR, lX, lZ, lYd, bt, true, rfl, iteF ?_⟩)⟩)⟩
      have fin : st3 K { nx := fun x H' => Q V.non H', rt := Q } [some (.ref ch), some (.int (s.os.length : Int)), some (.ref L), some (.int m), some (.str k.s), some (.bl bad), some (.ref D1), some (.ref C1), v8, some (.ref D2), some (.ref r), v11] H' :=
        step_counts A hb hne (hc.ex e3) (f.ex e3) hL3 LC WC oC nC (e3 _ _ hC) sm small q
      have third : (tSeq (tIfS (tAnd (tTest (tOp (rNeU K) (tVar 4) (tC (V.str ("well"))))) (tAnd (tTest (tOp (rEqU K) (tVar 3) (tC (V.int 0)))) (tTest (tOp (rNeU K) (tVar 9) (tVar 6))))) (tRet (tC (V.bl false))) tNext) (st3 K)) { nx := fun x H' => Q V.non H', rt := Q } [some (.ref ch), some (.int (s.os.length : Int)), some (.ref L), some (.int m), some (.str k.s), some (.bl bad), some (.ref D1), some (.ref C1), v8, some (.ref D2), some (.ref r), v11] H' := by
        refine ⟨_, rfl, .inl ⟨rfl, _, rfl, ?_⟩⟩
        rw [k.eqs.2.2]
        cases hk : k.isWell with
        | true => exact iteF (iteF fin)
        | false =>
          refine iteT ⟨_, rfl, .inl ⟨rfl, _, rfl, if_eq (fun m0 => ?_) (fun _ => iteF fin)⟩⟩
          have e := f2 hk m0
          have eo : s'.os = s.os := by rw [oZ, e]; exact set_self hb
          rw [eo] at G2
          exact ⟨_, rfl, _, rfl, ne_grid G2 G1 ⟨_, rfl, iteF fin⟩⟩
      have two : (k.isWell = true ∨ m = MM - 1) → ∀ R : Bool → Hp → Prop, R false H' → (tTest (tOp (rNeU K) (tOp (rIx K) (tVar 9) (tOp (rIx K) (tVar 2) (tC (V.int 0)))) (tVar 10))) [some (.ref ch), some (.int (s.os.length : Int)), some (.ref L), some (.int m), some (.str k.s), some (.bl bad), some (.ref D1), some (.ref C1), v8, some (.ref D2), some (.ref r), v11] H' R := by
        intro hk R hR'
        refine ⟨_, rfl, _, rfl, hL3.ix.1 (G2.row (by omega) fun y2 r2 => ⟨_, rfl, ?_⟩)⟩
        rw [gZ, f1 hk] at r2
        exact ne_row r2 hR ⟨_, rfl, hR'⟩
      refine ⟨_, rfl, .inl ⟨rfl, _, rfl, ?_⟩⟩
      rw [k.eqs.2.2]
      cases hk : k.isWell with
      | true => exact iteT (iteT (two (.inl hk) _ (iteF third)))
      | false =>
        refine iteF ⟨_, rfl, _, _, rfl, rfl, w1, _, _, rfl, rfl, w2, _, _, rfl, rfl, ?_⟩
        dsimp only
        rw [most_eq]
        exact .inl ⟨rfl, _, rfl, if_eq (fun e => two (.inr e) _ (iteF third)) (fun _ => iteF third)⟩
  cases hbb : bad with
  | true =>
    subst hbb
    refine ⟨_, rfl, true, rfl, iteT ⟨_, rfl, _, rfl, hL.ix.1 (hG1.row hb fun y hrow => ?_)⟩⟩
    rw [← yb rfl] at hrow
    exact rest N1 y H (Evl.Ex.refl _) hrow
  | false =>
    subst hbb
    refine ⟨_, rfl, false, rfl, iteF ⟨_, rfl, _, rfl, N1, D1, L, s.os, b, pv, wv, ws, rfl, hG1, hL, hb, lX, fun r H3 e3 hrow => ?_⟩⟩
    rw [← hY, ← yg rfl] at hrow
    exact rest _ r H3 e3 hrow
end
end K6
namespace K6
open PySem PySem.Spec PyProof.Rows L2 VB BM
def dRes (k : Kd) (bad : Bool) (n : Int) : PyData := match k with
  | .cut => .list [.str "cut", .int n]
  | .fail => .list [.str "told", .bool false]
  | .well => .list [.str "told", .bool (!bad)]
theorem sh_str (x : Str) (h : (PyData.str x).showable = true ∧ (PyData.str x).depth ≤ 0 ∧ (PyData.str x).shown.length ≤ 20) : Sh (.str x) 0 20 := ⟨h.1, h.2.1, h.2.2⟩
theorem sh_bl (b : Bool) : Sh (.bool b) 0 20 := by
  cases b <;> exact ⟨by decide +kernel, by decide +kernel, by decide +kernel⟩
theorem sh_two {d e : PyData} (h1 : Sh d 0 20) (h2 : Sh e 0 20) : Sh (.list [d, e]) 1 100 := (sh_list (n := 2) (fun x hx => by
  simp only [List.mem_cons, List.not_mem_nil, or_false] at hx
  rcases hx with rfl | rfl
  · exact h1
  · exact h2) (Nat.le_refl _)).le
section
variable {K : PySem.W.Frag}
theorem rp_res {H : Hp} {a : Addr} {k : Kd} {bad : Bool} {n : Int} {Q : VK} (h : SqL K H a (resL k bad n)) (n0 : 0 ≤ n ∧ n < 10000) (q : Q (.str (dRes k bad n).shown) H) : rRepr K [.ref a] H Q := by
  have c1 : Sh (.str "cut") 0 20 := sh_str _ ⟨by decide +kernel, by decide +kernel, by decide +kernel⟩
  have c2 : Sh (.str "told") 0 20 := sh_str _ ⟨by decide +kernel, by decide +kernel, by decide +kernel⟩
  cases k with
  | cut => exact rp (h := 1) (n := 100) (.lst h (.cons (.str _) (.cons (.int _) .nil))) (sh_two c1 ((sh_int ⟨n0.1, n0.2, log_small n0.1 n0.2⟩).le)) q
  | fail => exact rp (h := 1) (n := 100) (.lst h (.cons (.str _) (.cons (.bl _) .nil))) (sh_two c2 (sh_bl _)) q
  | well => exact rp (h := 1) (n := 100) (.lst h (.cons (.str _) (.cons (.bl _) .nil))) (sh_two c2 (sh_bl _)) q
theorem plan_nil : Plan [] := fun k v z => by cases z
theorem plan_one {k : Key} {m : Int} (m0 : 0 ≤ m) (m1 : m < MM) : Plan (putK [] k (V.int m)) := by
  intro k' v hv
  have e : putK [] k (V.int m) = [(k, V.int m)] := rfl
  rw [e] at hv
  unfold valV at hv
  by_cases c : k = k'
  · simp [c] at hv
    exact ⟨m, hv.symm, m0, m1⟩
  · simp [c] at hv
theorem drop_one {k : Key} {v : V} : dropK (putK [] k v) k = [] := by
  have e : putK [] k v = [(k, v)] := rfl
  rw [e]
  unfold dropK
  simp
theorem val_one {k : Key} {v : V} : valV (putK [] k v) k = some v := by
  have e : putK [] k v = [(k, v)] := rfl
  rw [e]
  unfold valV
  simp
theorem ers_er {s s1 : CS} {b : Nat} {pv : Option Nat} {bad : Bool} (e1 : s1.er = s.er) (e2 : s1.tb = s.tb) (hbad : bad = s.tb.getD b false) : (s0Of s1 b pv).er = er' s b pv bad := by
  cases pv with
  | some p => exact e1
  | none =>
    show (s1.erased b).er = _
    unfold CS.erased er'
    rw [e1, e2]
    cases bad with
    | true => rw [if_pos hbad.symm]; exact e1
    | false => rw [if_neg (by rw [← hbad]; exact Bool.false_ne_true)]
theorem ers_same {s1 : CS} {b : Nat} {pv : Option Nat} : (s0Of s1 b pv).os = s1.os ∧ (s0Of s1 b pv).tb = s1.tb ∧ (s0Of s1 b pv).c = s1.c ∧ (s0Of s1 b pv).kp = s1.kp ∧ (s0Of s1 b pv).kq = s1.kq := by
  cases pv with
  | some p => exact ⟨rfl, rfl, rfl, rfl, rfl⟩
  | none =>
    show (s1.erased b).os = _ ∧ (s1.erased b).tb = _ ∧ (s1.erased b).c = _ ∧ (s1.erased b).kp = _ ∧ (s1.erased b).kq = _
    unfold CS.erased
    split <;> exact ⟨rfl, rfl, rfl, rfl, rfl⟩
abbrev stC (K : PySem.W.Frag) : TS := (tSeq (tIfS (tTest (tOp (rNeU K) (tCB (rRepr K) (tCons (tVar 8) tNil)) (tCB (rRepr K) (tCons (tIf (tTest (tOp (rEqU K) (tVar 4) (tC (V.str ("cut"))))) (tLst (tCons (tC (V.str ("cut"))) (tCons (tOp (rIx K) (tVar 7) (tC (V.int 0))) tNil))) (tLst (tCons (tC (V.str ("told"))) (tCons (tAndV (tOp (rEqU K) (tVar 4) (tC (V.str ("well")))) (tNotV (tVar 5))) tNil)))) tNil)))) (tRet (tC (V.bl false))) tNext) (st2 K))
theorem dres_eq {k : Kd} {bad : Bool} {n : Int} : (dRes k bad n).shown = (dRes k bad n).shown := rfl
/-- what was told, told here -/
theorem step_c {ch dx L wv C1 D1 D2 l : Addr} {s s' : CS} {b : Nat} {pv : Option Nat} {ws : List Int} {m : Int} {k : Kd} {bad : Bool} {Q : VK} {H0 H : Hp} {N1 N2 : Addr → Prop} (A : Aft k bad pv m (due (s.os.getD b []) pv ws) s s' b) (hb : b < s.os.length) (hne : s.er.length = s.os.length) (b24 : s.os.length ≤ 24) (hoct : ∀ i, i < s.os.length → Oct (s.os.getD i []) ∧ (s.os.getD i []).length = 248)
    (hc : ChipAt K H ch dx s') (f : Fr ch s.c H0 H) (hL : DeedAt H L b pv wv ws) (LC : L ≠ C1) (WC : wv ≠ C1) (oC : ¬ Own ch s.c C1) (nC : H0 C1 = none)
    (hC : H C1 = some (.lst (IV (cntL s)))) (sm : Sm (cntL s)) (small : ∀ x ∈ cntL s, x < 9000) (hG1 : Grid N1 H D1 s.os) (hG2 : Grid N2 H D2 s'.os) (hl : H l = some (.lst (resL k bad s.c.ops)))
    (q : ∀ H' : Hp, Fr ch s.c H0 H' → ChipAt K H' ch dx s' → Q (.bl true) H') :
    stC K { nx := fun x H' => Q V.non H', rt := Q } [some (.ref ch), some (.int (s.os.length : Int)), some (.ref L), some (.int m), some (.str k.s), some (.bl bad), some (.ref D1), some (.ref C1), some (.ref l), some (.ref D2), none, none] H := by
  have o1 := sm s.c.ops (by show s.c.ops ∈ s.c.ops :: _; simp)
  refine ⟨_, rfl, rp_res (SqL.of hl) o1 ⟨_, rfl, .inl ⟨rfl, _, rfl, ?_⟩⟩⟩
  rw [k.eqs.1]
  have fin : ∀ (r : Addr) (H3 : Hp), Evl.Ex H H3 → H3 r = some (.lst (resL k bad s.c.ops)) → (fun vs H1 => rRepr K vs H1 fun y H2 => rNeU K (.str (dRes k bad s.c.ops).shown) y H2 fun x H' => ∃ b, x = V.bl b ∧ if b = true then (tRet (tC (V.bl false))) { nx := st2 K { nx := fun x H' => Q V.non H', rt := Q }, rt := Q } [some (.ref ch), some (.int (s.os.length : Int)), some (.ref L), some (.int m), some (.str k.s), some (.bl bad), some (.ref D1), some (.ref C1), some (.ref l), some (.ref D2), none, none] H' else st2 K { nx := fun x H' => Q V.non H', rt := Q } [some (.ref ch), some (.int (s.os.length : Int)), some (.ref L), some (.int m), some (.str k.s), some (.bl bad), some (.ref D1), some (.ref C1), some (.ref l), some (.ref D2), none, none] H') [.ref r] H3 := by
    intro r H3 e3 hr
    refine rp_res (SqL.of hr) o1 (.inl ⟨rfl, _, rfl, same_ne ?_⟩)
    exact step_two A hb hne b24 hoct (hc.ex e3) (f.ex e3) (hL.ex e3) LC WC oC nC (e3 _ _ hC) sm small (hG1.ex e3) (hG2.ex e3) q
  cases k with
  | cut =>
    refine iteT ⟨_, rfl, Sv.ix (x := .non) (Sv.lst hC) (i := 0) (iv_at (i := 0) (show (cntL s)[0]? = some s.c.ops from rfl)) ⟨by show 2 ≤ sizeLine; decide, fun r nr => fin r _ (Evl.Ex.new nr) upd_same⟩⟩
  | fail =>
    refine iteF ⟨_, rfl, .inl ⟨rfl, _, rfl, ?_⟩⟩
    rw [(Kd.eqs .fail).2.2]
    exact iteF ⟨by show 2 ≤ sizeLine; decide, fun r nr => fin r _ (Evl.Ex.new nr) upd_same⟩
  | well =>
    refine iteF ⟨_, rfl, .inl ⟨rfl, _, rfl, ?_⟩⟩
    rw [(Kd.eqs .well).2.2]
    exact iteT ⟨_, rfl, bad, rfl, by show 2 ≤ sizeLine; decide, fun r nr => fin r _ (Evl.Ex.new nr) upd_same⟩
/-- from the op on -/
theorem step_one {CP ch dx L wv C1 D1 : Addr} {s s1 : CS} {b : Nat} {pv : Option Nat} {ws : List Int} {m : Int} {k : Kd} {bad : Bool} {Q : VK} {H0 H : Hp} {N1 : Addr → Prop} (hb : b < s.os.length) (pg8 : s.c.pages = 8) (hne : s.er.length = s.os.length) (b24 : s.os.length ≤ 24) (hoct : ∀ i, i < s.os.length → Oct (s.os.getD i []) ∧ (s.os.getD i []).length = 248)
    (hc : ChipAt K H ch dx s1) (f : Fr ch s.c H0 H) (hL : DeedAt H L b pv wv ws) (LC : L ≠ C1) (WC : wv ≠ C1) (oL : ¬ Own ch s.c L) (ow : ¬ Own ch s.c wv) (oC : ¬ Own ch s.c C1) (nC : H0 C1 = none)
    (hC : H C1 = some (.lst (IV (cntL s)))) (sm : Sm (cntL s)) (small : ∀ x ∈ cntL s, x < 9000) (hG1 : Grid N1 H D1 s.os) (hN : ∀ y, N1 y → ¬ Own ch s.c y) (hbad : bad = s.tb.getD b false) (hfl : bad = false → k.isFail = true → ((badL s.tb).length : Int) < s.c.bad)
    (e1 : s1.os = s.os) (e2 : s1.tb = s.tb) (e3 : s1.c = s.c) (e4 : s1.er = s.er) (pl : Plan s1.kp) (ql : Plan s1.kq) (p1 : valV s1.kp (Sum.inl s.c.ops : Key) = if k.isCut then some (.int m) else none) (p2 : valV s1.kq (Sum.inl s.c.ops : Key) = if k.isFail then some (.int m) else none)
    (d1 : dropK s1.kp (Sum.inl s.c.ops : Key) = []) (d2 : dropK s1.kq (Sum.inl s.c.ops : Key) = [])
    (q : ∀ (s' : CS) (H' : Hp), Fr ch s.c H0 H' → ChipAt K H' ch dx s' → Aft k bad pv m (due (s.os.getD b []) pv ws) s s' b → Q (.bl true) H') :
    stR K CP { nx := fun x H' => Q V.non H', rt := Q } [some (.ref ch), some (.int (s.os.length : Int)), some (.ref L), some (.int m), some (.str k.s), some (.bl bad), some (.ref D1), some (.ref C1), none, none, none, none] H := by
  have es := ers_same (s1 := s1) (b := b) (pv := pv)
  have E := ends_aft (K := K) (CP := CP) (ch := ch) (dx := dx) (s := s) (s0 := s0Of s1 b pv) (b := b) (k := k) (bad := bad) (pv := pv) (m := m) (Y := due (s.os.getD b []) pv ws) (H := H) (R := fun xs H' => ∃ s', Fr ch s.c H H' ∧ ChipAt K H' ch dx s' ∧ Aft k bad pv m (due (s.os.getD b []) pv ws) s s' b ∧ xs = resL k bad s.c.ops)
    hb hbad hfl (es.1.trans e1) (es.2.1.trans e2) (es.2.2.1.trans e3) (ers_er e4 e2 hbad) (by rw [es.2.2.2.1]; exact p1) (by rw [es.2.2.2.2]; exact p2) (by rw [es.2.2.2.1]; exact d1) (by rw [es.2.2.2.2]; exact d2) fun s' H' h1 h2 h3 => ⟨s', h1, h2, h3, rfl⟩
  have cc : ∀ (s' : CS) (H2 : Hp) (l D2 : Addr) (H4 : Hp), Fr ch s.c H H2 → ChipAt K H2 ch dx s' → Aft k bad pv m (due (s.os.getD b []) pv ws) s s' b → H2 l = none → Evl.Ex (upd H2 l (.lst (resL k bad s.c.ops))) H4 → Grid (New (upd H2 l (.lst (resL k bad s.c.ops)))) H4 D2 s'.os →
      stC K { nx := fun x H' => Q V.non H', rt := Q } [some (.ref ch), some (.int (s.os.length : Int)), some (.ref L), some (.int m), some (.str k.s), some (.bl bad), some (.ref D1), some (.ref C1), some (.ref l), some (.ref D2), none, none] H4 := by
    intro s' H2 l D2 H4 f2 c2 A nl e4 hG2
    have xl := (Evl.Ex.new (o := .lst (resL k bad s.c.ops)) nl).trans e4
    have fx := f2.ex xl
    refine step_c A hb hne b24 hoct (c2.ex xl) (f.trans fx) ⟨fx.out oL hL.1, fx.out ow hL.2.1, hL.2.2⟩ LC WC oC nC (fx.out oC hC) sm small (hG1.keep (fun _ z => z) fun y u n z => fx.out (hN y n) z) hG2 (e4 _ _ upd_same) fun H' h1 h2 => q s' H' h1 h2 A
  have pgs : ∀ {s' : CS}, Aft k bad pv m (due (s.os.getD b []) pv ws) s s' b → s'.c.pages = 8 ∧ s'.os.length = s.os.length := fun A => ⟨by rw [A.pages]; exact pg8, by obtain ⟨Z, oZ, _⟩ := A.os; rw [oZ, List.length_set]⟩
  refine ⟨_, rfl, _, rfl, ch, dx, L, s1, b, pv, wv, ws, rfl, hc, hL, by rw [e1]; exact hb, by rw [e3]; exact pg8, pl, ql, ?_⟩
  rw [e1, e3]
  refine ⟨fun m' s2 d H2 h1 h2 h3 h4 h5 h6 l nl => ?_, fun s2 v H2 h1 h2 h3 h4 l nl => ?_⟩
  · obtain ⟨s', f2, c2, A, e⟩ := E.1 m' s2 d H2 h1 h2 h3 h4 h5 h6
    rw [e]
    obtain ⟨g1, g2⟩ := pgs A
    exact ⟨_, rfl, _, rfl, ch, dx, s', by rw [g2]; rfl, c2.ex (Evl.Ex.new nl), g1, fun D2 H4 e4 hG2 => ⟨_, _, rfl, cc s' H2 l D2 H4 f2 c2 A nl e4 hG2⟩⟩
  · obtain ⟨s', f2, c2, A, e⟩ := E.2 s2 v H2 h1 h2 h3 h4
    rw [e]
    obtain ⟨g1, g2⟩ := pgs A
    exact ⟨_, rfl, _, rfl, ch, dx, s', by rw [g2]; rfl, c2.ex (Evl.Ex.new nl), g1, fun D2 H4 e4 hG2 => ⟨_, _, rfl, cc s' H2 l D2 H4 f2 c2 A nl e4 hG2⟩⟩
end
end K6
namespace K6
open PySem PySem.Spec PyProof.Rows L2 VB BM
section
variable {P : Program} {w : World} {K : PySem.W.Frag} {mg : Str → Option Value} {base : Heap} {f : Addr} {fd : FuncData}
def spStep (K : PySem.W.Frag) : Sp := fun vs H Q _ => ∃ (ch dx L : Addr) (s : CS) (b : Nat) (pv : Option Nat) (wv : Addr) (ws : List Int) (m : Int) (k : Kd) (bad : Bool), vs = [.ref ch, .int (s.os.length : Int), .ref L, .int m, .str k.s, .bl bad] ∧ ChipAt K H ch dx s ∧ s.c.pages = 8 ∧ s.kp = [] ∧ s.kq = [] ∧ DeedAt H L b pv wv ws ∧ ¬ Own ch s.c L ∧ ¬ Own ch s.c wv ∧ b < s.os.length ∧ 0 ≤ m ∧ m < MM ∧
  bad = s.tb.getD b false ∧ (bad = false → k.isFail = true → ((badL s.tb).length : Int) < s.c.bad) ∧ Sm (cntL s) ∧ (∀ x ∈ cntL s, x < 9000) ∧
  ∀ (s' : CS) (H' : Hp), Fr ch s.c H H' → ChipAt K H' ch dx s' → Aft k bad pv m (due (s.os.getD b []) pv ws) s s' b → Q (.bl true) H'
theorem ok_step {CP : Addr} (T : Txt K mg) (TC : TxC K) (F : FnP K "_law_step_right" s__law_step_right f fd) (C__law_counts : Cal P w K mg base CX0 5 "_law_counts" ["_law_chip", "_law_blocks"] (spCounts K)) (C__law_pages : Cal P w K mg base CX0 5 "_law_pages" ["_law_chip", "_law_blocks"] (spPages K))
    (M_Chip__cut : CalM P w K mg base CX0 4 (Ch K) "cut" ["self", "op", "mask"] (spCut K)) (M_Chip__fail : CalM P w K mg base CX0 4 (Ch K) "fail" ["self", "op", "mask"] (spFail K)) (C__law_done : Cal P w K mg base CX0 9 "_law_done" ["_law_chip", "_law_deed_here"] (spDone K CP))
    (C__law_due : Cal P w K mg base CX0 1 "_law_due" ["_law_pages_here", "_law_deed_here"] (spDue K)) (C__law_is_between : Cal P w K mg base CX0 1 "_law_is_between" ["_law_old", "_law_now", "_law_due_here"] (spBtw K)) : Fg P w K mg base CX0 10 f fd ["_law_chip", "_law_blocks", "_law_deed_here", "_law_mask_here", "_law_kind", "_law_is_bad"] (spStep K) := by
  refine fg_of F sc__law_step_right (fun vs H Q E h => ?_) (fun cdv A outer s₀ H vs Q E hr h => ⟨_, (PSs.nox (pss_cons (ps_par (i := 6) (j := 7) rfl sc__law_step_right.nd rfl rfl (by decide) rfl rfl (pa_cons (pe_cal C__law_pages hr.le pass0 (pa_cons (pv 0) (pa_cons (pv 1) pa_nil))) (pa_cons (pe_cal C__law_counts hr.le pass0 (pa_cons (pv 0) (pa_cons (pv 1) pa_nil))) pa_nil)) (by rfl))
  (pss_cons (ps_if (pt_cmpR (u_eq (K := K) hr) (pv 4) pe_str (nomark _))
  (pss_one (ps_expr (pe_calM M_Chip__cut hr.le pass0 (pv 0) (pa_cons (pe_ix (u_ix (K := K)) (pv 7) pe_int (fun _ _ => rfl)) (pa_cons (pv 3) pa_nil))))) pss_nil)
  (pss_cons (ps_if (pt_cmpR (u_eq (K := K) hr) (pv 4) pe_str (nomark _))
  (pss_one (ps_expr (pe_calM M_Chip__fail hr.le pass0 (pv 0) (pa_cons (pe_ix (u_ix (K := K)) (pv 7) pe_int (fun _ _ => rfl)) (pa_cons (pv 3) pa_nil))))) pss_nil)
  (pss_cons (ps_par (i := 8) (j := 9) rfl sc__law_step_right.nd rfl rfl (by decide) rfl rfl (pa_cons (pe_cal C__law_done hr.le pass0 (pa_cons (pv 0) (pa_cons (pv 2) pa_nil))) (pa_cons (pe_cal C__law_pages hr.le pass0 (pa_cons (pv 0) (pa_cons (pv 1) pa_nil))) pa_nil)) (by rfl))
  (pss_cons (ps_if (pt_cmpR (u_ne (K := K) hr) (pe_callB (u_repr (K := K) hr) (by rfl) T.f_repr (by decide +kernel) (pa_cons (pv 8) pa_nil)) (pe_callB (u_repr (K := K) hr) (by rfl) T.f_repr (by decide +kernel) (pa_cons (pe_ifExp (pt_cmpR (u_eq (K := K) hr) (pv 4) pe_str (nomark _)) (pe_lst (pa_cons pe_str (pa_cons (pe_ix (u_ix (K := K)) (pv 7) pe_int (fun _ _ => rfl)) pa_nil))) (pe_lst (pa_cons pe_str (pa_cons (pe_and (pe_cmpR (u_eq (K := K) hr) (pv 4) pe_str (nomark _)) (pe_one (pe_not (pv 5)))) pa_nil)))) pa_nil)) (nomark _))
  (pss_one (ps_ret pe_bl)) pss_nil)
  (pss_cons (ps_set (i := 10) sc__law_step_right.nd rfl (by first | exact Or.inl rfl | exact Or.inr rfl) (pe_ifExp (pt_tru (K := K) (pv 5) (by intro _; rfl)) (pe_ix (u_ix (K := K)) (pv 6) (pe_ix (u_ix (K := K)) (pv 2) pe_int (fun _ _ => rfl)) (fun _ _ => rfl)) (pe_cal C__law_due hr.le pass0 (pa_cons (pv 6) (pa_cons (pv 2) pa_nil)))))
  (pss_cons (ps_for PassesOwn.never rfl (pi_range1 rfl T.f_range (pa_cons (pv 1) pa_nil)) (pg_name (i := 11) sc__law_step_right.nd rfl (by first | exact Or.inl rfl | exact Or.inr rfl))
  (pss_one (ps_if (PW.pt (pw_and (pt_cmpR (u_ne (K := K) hr) (pv 11) (pe_ix (u_ix (K := K)) (pv 2) pe_int (fun _ _ => rfl)) (nomark _)) (pw_and1 (pt_cmpR (u_ne (K := K) hr) (pe_ix (u_ix (K := K)) (pv 9) (pv 11) (fun _ _ => rfl)) (pe_ix (u_ix (K := K)) (pv 6) (pv 11) (fun _ _ => rfl)) (nomark _)))))
  (pss_one (ps_ret pe_bl)) pss_nil)))
  (pss_cons (ps_if (pt_not (pt_tru (K := K) (pe_cal C__law_is_between hr.le pass0 (pa_cons (pe_ix (u_ix (K := K)) (pv 6) (pe_ix (u_ix (K := K)) (pv 2) pe_int (fun _ _ => rfl)) (fun _ _ => rfl)) (pa_cons (pe_ix (u_ix (K := K)) (pv 9) (pe_ix (u_ix (K := K)) (pv 2) pe_int (fun _ _ => rfl)) (fun _ _ => rfl)) (pa_cons (pv 10) pa_nil)))) (by intro _; rfl)))
  (pss_one (ps_ret pe_bl)) pss_nil)
  (pss_cons (ps_if (PW.pt (pw_and (PW.pt (pw_or (pt_cmpR (u_eq (K := K) hr) (pv 4) pe_str (nomark _)) (pw_or1 (pt_cmpR (u_eq (K := K) hr) (pv 3) (pe_op op_sub (pe_op op_powW (pe_op op_powW pe_int pe_int) pe_int) pe_int) (nomark _))))) (pw_and1 (pt_cmpR (u_ne (K := K) hr) (pe_ix (u_ix (K := K)) (pv 9) (pe_ix (u_ix (K := K)) (pv 2) pe_int (fun _ _ => rfl)) (fun _ _ => rfl)) (pv 10) (nomark _)))))
  (pss_one (ps_ret pe_bl)) pss_nil)
  (pss_cons (ps_if (PW.pt (pw_and (pt_cmpR (u_ne (K := K) hr) (pv 4) pe_str (nomark _)) (pw_and (pt_cmpR (u_eq (K := K) hr) (pv 3) pe_int (nomark _)) (pw_and1 (pt_cmpR (u_ne (K := K) hr) (pv 9) (pv 6) (nomark _))))))
  (pss_one (ps_ret pe_bl)) pss_nil)
  (pss_cons (ps_asg (pe_tup (pa_cons (pe_op (u_add (K := K)) (pe_ix (u_ix (K := K)) (pv 7) pe_int (fun _ _ => rfl)) pe_int) (pa_cons (pe_op (u_add (K := K)) (pe_ix (u_ix (K := K)) (pv 7) pe_int (fun _ _ => rfl)) (pe_callTy call_int1 (by rfl) T.f_int (by decide +kernel) (pa_cons (pe_cmpR (u_eq (K := K) hr) (pv 4) pe_str (nomark _)) pa_nil))) pa_nil))) (pg_tupU (K := K) (n := 2) rfl (pgs_cons (pg_sub (pv 7) pe_int set_list) (pgs_cons (pg_sub (pv 7) pe_int set_list) pgs_nil))))
  (pss_cons (ps_if (PW.pt (pw_and (pt_cmpR op_isN (pe_ix (u_ix (K := K)) (pv 2) pe_int (fun _ _ => rfl)) pe_non (nomark _)) (pw_and1 (pt_not (pt_tru (K := K) (pv 5) (by intro _; rfl))))))
  (pss_one (ps_asg (pe_op (u_add (K := K)) (pe_ix (u_ix (K := K)) (pv 7) (pe_op (u_add (K := K)) pe_int (pe_ix (u_ix (K := K)) (pv 2) pe_int (fun _ _ => rfl))) (fun _ _ => rfl)) pe_int) (pg_sub (pv 7) (pe_op (u_add (K := K)) pe_int (pe_ix (u_ix (K := K)) (pv 2) pe_int (fun _ _ => rfl))) set_list))) pss_nil)
  (pss_one (ps_ret (pe_cmpR (u_eq (K := K) hr) (pe_callB (u_repr (K := K) hr) (by rfl) T.f_repr (by decide +kernel) (pa_cons (pe_cal C__law_counts hr.le pass0 (pa_cons (pv 0) (pa_cons (pv 1) pa_nil))) pa_nil)) (pe_callB (u_repr (K := K) hr) (by rfl) T.f_repr (by decide +kernel) (pa_cons (pv 7) pa_nil)) (nomark _))))))))))))))))), ?_⟩)
  · obtain ⟨ch, dx, L, s, b, pv, wv, ws, m, k, bad, rfl, _⟩ := h
    rfl
  · obtain ⟨ch, dx, L, s, b, pv, wv, ws, m, k, bad, rfl, hc, pg8, hkp, hkq, hL, oL, ow, hb, m0, m1, hbad, hfl, sm, small, q⟩ := h
    have b24 := hc.b8
    have hne := hc.ne
    have hoct : ∀ i, i < s.os.length → Oct (s.os.getD i []) ∧ (s.os.getD i []).length = 248 := fun i hi => by
      obtain ⟨o, l⟩ := hc.oct i hi
      rw [pg8] at l
      exact ⟨o, l⟩
    refine ⟨_, rfl, _, rfl, ch, dx, s, rfl, hc, pg8, fun D1 H1 e1 hG1 => ⟨_, rfl, _, rfl, ch, dx, s, rfl, hc.ex e1, fun C1 H2 nC e2 hC => ⟨_, _, rfl, ?_⟩⟩⟩
    have E2 := e1.trans e2
    have hc2 := hc.ex E2
    have hL2 := hL.ex E2
    have hG2 := hG1.ex e2
    have nC0 := Evl.fresh_back e1 nC
    have LC : L ≠ C1 := fun z => by rw [← z, e1 _ _ hL.1] at nC; cases nC
    have WC : wv ≠ C1 := fun z => by rw [← z, e1 _ _ hL.2.1] at nC; cases nC
    have hN : ∀ y, New H y → ¬ Own ch s.c y := fun y hy o => by
      obtain ⟨u, hu⟩ := hc.own o
      rw [show H y = none from hy] at hu
      cases hu
    have oC : ¬ Own ch s.c C1 := hN C1 nC0
    have f2 : Fr ch s.c H H2 := (Fr.refl ch s.c H).ex E2
    have ix0 : ∀ {H' : Hp} {Q' : VK}, H' C1 = some (.lst (IV (cntL s))) → Q' (.int s.c.ops) H' → rIx K (.ref C1) (.int 0) H' Q' := fun h q' => Sv.ix (x := .non) (Sv.lst h) (i := 0) (iv_at (i := 0) (show (cntL s)[0]? = some s.c.ops from rfl)) q'
    have dn : ∀ k : Key, dropK ([] : List (Key × V)) k = [] := fun k => rfl
    have pn : Plan s.kp := by rw [hkp]; exact plan_nil
    have qn : Plan s.kq := by rw [hkq]; exact plan_nil
    have neO : ∀ {x y : Addr}, ¬ Own ch s.c x → Own ch s.c y → x ≠ y := fun h o e => h (by rw [e]; exact o)
    have keepG : ∀ {y : Addr} {o : HO}, Own ch s.c y → Grid (New H) (upd H2 y o) D1 s.os := fun oy => hG2.keep (fun _ z => z) fun x u n z => by rw [upd_ne (neO (hN x n) oy)]; exact z
    have keepL : ∀ {y : Addr} {o : HO}, Own ch s.c y → DeedAt (upd H2 y o) L b pv wv ws := fun oy => ⟨by rw [upd_ne (neO oL oy)]; exact hL2.1, by rw [upd_ne (neO ow oy)]; exact hL2.2.1, hL2.2.2⟩
    have keepC : ∀ {y : Addr} {o : HO}, Own ch s.c y → upd H2 y o C1 = some (.lst (IV (cntL s))) := fun oy => by rw [upd_ne (neO oC oy)]; exact hC
    refine ⟨_, rfl, .inl ⟨rfl, _, rfl, ?_⟩⟩
    rw [k.eqs.1]
    cases k with
    | cut =>
      have op : Own ch s.c s.c.p := .inr (.inr (.inr (.inr (.inl rfl))))
      refine iteT ⟨_, rfl, ch, dx, _, rfl, hc2.ins, rfl, _, rfl, ix0 hC ⟨_, rfl, ch, s.c, s.c.ops, m, s.kp, rfl, ⟨dx, hc2.ins⟩, Int.le_refl _, m0, m1, hc2.p, by rw [hkp]; decide, ?_⟩⟩
      rw [hkp]
      refine ⟨_, rfl, .inl ⟨rfl, _, rfl, ?_⟩⟩
      rw [(Kd.eqs .cut).2.1]
      refine iteF ?_
      exact step_one (s1 := { s with kp := putK [] (Sum.inl s.c.ops : Key) (V.int m) }) hb pg8 hne b24 hoct (hc2.setp _) (f2.at (.inr (.inr (.inr (.inr (.inl rfl)))))) (keepL op) LC WC oL ow oC nC0 (keepC op) sm small (keepG op) hN hbad hfl rfl rfl rfl rfl (plan_one m0 m1) qn val_one (by show valV s.kq _ = _; rw [hkq]; rfl) drop_one (by show dropK s.kq _ = []; rw [hkq]; rfl) q
    | fail =>
      have oq : Own ch s.c s.c.q := .inr (.inr (.inr (.inr (.inr (.inl rfl)))))
      refine iteF ⟨_, rfl, .inl ⟨rfl, _, rfl, ?_⟩⟩
      rw [(Kd.eqs .fail).2.1]
      refine iteT ⟨_, rfl, ch, dx, _, rfl, hc2.ins, rfl, _, rfl, ix0 hC ⟨_, rfl, ch, s.c, s.c.ops, m, s.kq, rfl, ⟨dx, hc2.ins⟩, Int.le_refl _, m0, m1, hc2.q, by rw [hkq]; decide, ?_⟩⟩
      rw [hkq]
      exact step_one (s1 := { s with kq := putK [] (Sum.inl s.c.ops : Key) (V.int m) }) hb pg8 hne b24 hoct (hc2.setq _) (f2.at (.inr (.inr (.inr (.inr (.inr (.inl rfl))))))) (keepL oq) LC WC oL ow oC nC0 (keepC oq) sm small (keepG oq) hN hbad hfl rfl rfl rfl rfl pn (plan_one m0 m1) (by show valV s.kp _ = _; rw [hkp]; rfl) val_one (by show dropK s.kp _ = []; rw [hkp]; rfl) drop_one q
    | well =>
      refine iteF ⟨_, rfl, .inl ⟨rfl, _, rfl, ?_⟩⟩
      rw [(Kd.eqs .well).2.1]
      refine iteF ?_
      exact step_one (s1 := s) hb pg8 hne b24 hoct hc2 f2 hL2 LC WC oL ow oC nC0 hC sm small hG2 hN hbad hfl rfl rfl rfl rfl pn qn (by rw [hkp]; rfl) (by rw [hkq]; rfl) (by rw [hkp]; rfl) (by rw [hkq]; rfl) q
end
end K6
namespace K6
open PySem PySem.Spec PyProof.Rows L2 VB BM
theorem sum_set1 : ∀ {xs : List Int} {b : Nat}, b < xs.length → (xs.set b (xs.getD b 0 + 1)).sum = xs.sum + 1
  | [], b, h => by cases h
  | x :: xs, 0, _ => by
    show (x + 1) + xs.sum = x + xs.sum + 1
    omega
  | x :: xs, b + 1, h => by
    have r := sum_set1 (xs := xs) (b := b) (by simpa using h)
    show x + (xs.set b (xs.getD b 0 + 1)).sum = x + xs.sum + 1
    omega
theorem le_sum : ∀ {xs : List Int}, (∀ x ∈ xs, 0 ≤ x) → 0 ≤ xs.sum ∧ ∀ x ∈ xs, x ≤ xs.sum
  | [], _ => ⟨Int.le_refl _, fun x hx => by cases hx⟩
  | y :: xs, h => by
    obtain ⟨r1, r2⟩ := le_sum (xs := xs) fun x hx => h x (List.mem_cons_of_mem _ hx)
    have hy := h y (List.mem_cons_self ..)
    have e : (y :: xs).sum = y + xs.sum := rfl
    rw [e]
    refine ⟨by omega, fun x hx => ?_⟩
    rcases List.mem_cons.mp hx with rfl | z
    · omega
    · have := r2 x z
      omega
/-- a chip of n blocks in use, at most a ops -/
structure Ok (s : CS) (n : Nat) (a : Int) : Prop where
  len : s.os.length = n
  n8 : 8 ≤ n ∧ n ≤ 9
  pages : s.c.pages = 8
  bad : s.c.bad = 1
  kp : s.kp = []
  kq : s.kq = []
  ops : 0 ≤ s.c.ops ∧ s.c.ops ≤ a
  cuts : 0 ≤ s.c.cuts ∧ s.c.cuts ≤ s.c.ops
  er : ∀ x ∈ s.er, 0 ≤ x
  es : s.er.sum ≤ s.c.ops
theorem Ok.le {s : CS} {n : Nat} {a a' : Int} (h : Ok s n a) (l : a ≤ a') : Ok s n a' := ⟨h.len, h.n8, h.pages, h.bad, h.kp, h.kq, ⟨h.ops.1, by have := h.ops.2; omega⟩, h.cuts, h.er, h.es⟩
theorem Ok.small {s : CS} {n : Nat} {a : Int} (h : Ok s n a) (l : a < 9000) : Sm (cntL s) ∧ ∀ x ∈ cntL s, x < 9000 := by
  have r := le_sum h.er
  have o := h.ops
  have c := h.cuts
  have e := h.es
  have g : ∀ x ∈ cntL s, 0 ≤ x ∧ x < 9000 := by
    intro x hx
    have hx : x ∈ s.c.ops :: s.c.cuts :: s.er := hx
    rcases List.mem_cons.mp hx with rfl | hx
    · omega
    · rcases List.mem_cons.mp hx with rfl | hx
      · omega
      · have := h.er x hx
        have := r.2 x hx
        omega
  exact ⟨fun x hx => ⟨(g x hx).1, by have := (g x hx).2; omega⟩, fun x hx => (g x hx).2⟩
theorem Ok.aft {s s' : CS} {n : Nat} {a m : Int} {k : Kd} {bad : Bool} {pv : Option Nat} {Y : List Int} {b : Nat} (h : Ok s n a) (A : Aft k bad pv m Y s s' b) (hb : b < s.er.length) : Ok s' n (a + 1) := by
  obtain ⟨Z, oZ, _⟩ := A.os
  have e := h.es
  have o := h.ops
  have c := h.cuts
  have ce : (0 : Int) ≤ (if k.isCut = true then 1 else 0) ∧ (if k.isCut = true then (1 : Int) else 0) ≤ 1 := by split <;> omega
  have er2 : (∀ x ∈ s'.er, 0 ≤ x) ∧ s'.er.sum ≤ s.c.ops + 1 := by
    rw [A.er]
    have d : er' s b pv bad = s.er ∨ er' s b pv bad = s.er.set b (s.er.getD b 0 + 1) := by
      cases pv with
      | some p => exact .inl rfl
      | none => cases bad with
        | true => exact .inl rfl
        | false => exact .inr rfl
    rcases d with d | d
    · rw [d]
      exact ⟨h.er, by omega⟩
    · rw [d, sum_set1 hb]
      refine ⟨fun x hx => ?_, by omega⟩
      have g := h.er _ (List.mem_of_getElem? (getD_get hb))
      rcases List.mem_or_eq_of_mem_set hx with y | y
      · exact h.er x y
      · omega
  exact ⟨by rw [oZ, List.length_set]; exact h.len, h.n8, A.pages.trans h.pages, A.bd.trans h.bad, A.kp, A.kq, by rw [A.ops]; omega, by rw [A.cuts, A.ops]; omega, er2.1, by rw [A.ops]; exact er2.2⟩
theorem Ok.wf {K : PySem.W.Frag} {H : Hp} {ch dx : Addr} {s : CS} {n : Nat} {a : Int} (h : Ok s n a) (hc : ChipAt K H ch dx s) (l : a < 9000) (t : s.tb = List.replicate n false) : WfS s := by
  have n8 := h.n8
  have len := h.len
  have o := h.ops
  have c := h.cuts
  have r := le_sum h.er
  have e := h.es
  refine ⟨hc.ne, hc.nt, hc.nb, by omega, hc.g8, by rw [h.bad]; omega, hc.oct, ⟨by omega, by omega, fun b hb => ?_⟩, e, ?_⟩
  · have m : s.er.getD b 0 ∈ s.er := List.mem_of_getElem? (getD_get (by rw [hc.ne]; exact hb))
    have := h.er _ m
    have := r.2 _ m
    omega
  · rw [t, h.bad, List.map_replicate]
    have z : ∀ k : Nat, (List.replicate k (0 : Int)).sum = 0 := by
      intro k
      induction k with
      | zero => rfl
      | succ k ih =>
        show 0 + (List.replicate k (0 : Int)).sum = 0
        omega
    show (List.replicate n (if false = true then (1 : Int) else 0)).sum ≤ 1
    rw [show (if false = true then (1 : Int) else 0) = 0 from rfl, z]
    omega
section
variable {P : Program} {w : World} {K : PySem.W.Frag} {mg : Str → Option Value} {base : Heap} {f : Addr} {fd : FuncData}
def spDeed : Sp := fun vs H Q _ => ∃ (bx : Addr) (n : Nat) (c : Int), vs = [.ref bx, .int (n : Int)] ∧ Box H bx c ∧ 8 ≤ n ∧ n ≤ 9 ∧ c < 80000000 ∧
  ∀ (L wv : Addr) (b : Nat) (pv : Option Nat) (ws : List Int) (H' : Hp), DeedAt H' L b pv wv ws → b < n → Exb bx H H' → Box H' bx (c + 40) → L ≠ bx → wv ≠ bx → H L = none → H wv = none → Q (.ref L) H'
theorem ok_deed (T : Txt K mg) (F : FnP K "_law_deed" s__law_deed f fd) (C__law_take : Cal P w K mg base CX0 1 "_law_take" ["_law_box_here", "_law_many"] spTake) : Fg P w K mg base CX0 2 f fd ["_law_box_here", "_law_blocks"] spDeed := by
  refine fg_of F sc__law_deed (fun vs H Q E h => ?_) (fun cdv A outer s₀ H vs Q E hr h => ⟨_, (PSs.nox (pss_cons (ps_par (i := 2) (j := 3) rfl sc__law_deed.nd rfl rfl (by decide) rfl rfl (pa_cons (pe_ix (u_ix (K := K)) (pe_lst (pa_cons pe_int (pa_cons pe_int (pa_cons pe_int (pa_cons (pe_op op_sub (pv 1) pe_int) pa_nil))))) (pe_cal C__law_take hr.le pass0 (pa_cons (pv 0) (pa_cons pe_int pa_nil))) (fun _ _ => rfl)) (pa_cons (pe_ix (u_ix (K := K)) (pe_lst (pa_cons pe_int (pa_cons pe_int (pa_cons pe_int (pa_cons pe_non (pa_cons pe_non (pa_cons (pe_cal C__law_take hr.le pass0 (pa_cons (pv 0) (pa_cons pe_int pa_nil))) pa_nil))))))) (pe_cal C__law_take hr.le pass0 (pa_cons (pv 0) (pa_cons pe_int pa_nil))) (fun _ _ => rfl)) pa_nil)) (by rfl))
  (pss_cons (ps_par (i := 4) (j := 5) rfl sc__law_deed.nd rfl rfl (by decide) rfl rfl (pa_cons (pe_cal C__law_take hr.le pass0 (pa_cons (pv 0) (pa_cons pe_int pa_nil))) (pa_cons (pe_lc (own := [("_law_k", 6)]) rfl sc__law_deed.nd (pi_range1 rfl T.f_range (pa_cons pe_int pa_nil)) (blkOk_by (own := [("_law_k", 6)]) (N := ["_law_box_here", "_law_blocks", "_law_block", "_law_page", "_law_way", "_law_octets", "_law_k"]) (sc := defScope s__law_deed) (by decide +kernel)) (fun _ _ _ _ _ => (pg_name (i := 6) sc__law_deed.nd rfl (by first | exact Or.inl rfl | exact Or.inr rfl))) (fun _ _ _ _ _ => pts_nil) (fun _ _ _ _ _ => (pe_cal C__law_take hr.le pass0 (pa_cons (pv 0) (pa_cons pe_int pa_nil))))) pa_nil)) (by rfl))
  (pss_cons (ps_if (pt_cmpR op_lt (pv 4) pe_int (nomark _))
  (pss_one (ps_set (i := 5) sc__law_deed.nd rfl (by first | exact Or.inl rfl | exact Or.inr rfl) (pe_ix (u_ix (K := K)) (pe_lst (pa_cons (pe_op (u_mul (K := K)) (pe_lst (pa_cons pe_int pa_nil)) pe_int) (pa_cons (pe_op (u_add (K := K)) (pe_lst (pa_cons pe_int (pa_cons pe_int (pa_cons pe_int (pa_cons pe_int (pa_cons pe_int pa_nil)))))) (pe_op (u_mul (K := K)) (pe_lst (pa_cons pe_int pa_nil)) pe_int)) (pa_cons (pe_op (u_add (K := K)) (pe_op (u_mul (K := K)) (pe_lst (pa_cons pe_int pa_nil)) pe_int) (pe_lst (pa_cons pe_int pa_nil))) pa_nil)))) (pv 4) (fun _ _ => rfl)))) pss_nil)
  (pss_one (ps_ret (pe_lst (pa_cons (pv 2) (pa_cons (pv 3) (pa_cons (pv 5) pa_nil)))))))))), ?_⟩)
  · obtain ⟨bx, n, c, rfl, _⟩ := h
    rfl
  · obtain ⟨bx, n, c, rfl, B, n8, n9, hcc, q⟩ := h
    refine ⟨_, rfl, _, _, rfl, rfl, by show 4 ≤ sizeLine; decide, fun l1 n1 => ?_⟩
    have x1 := Evl.Ex.new (o := .lst (IV [0, 1, 1, (n : Int) - 1])) n1
    have h1 := upd_same (H := H) (a := l1) (o := .lst (IV [0, 1, 1, (n : Int) - 1]))
    have B1 := B.ex x1
    have l1b := B.at n1
    refine ⟨_, rfl, bx, 4, c, rfl, B1, by omega, by omega, by omega, fun r1 H2 r10 r11 e2 B2 => ?_⟩
    obtain ⟨j1, rfl⟩ : ∃ j : Nat, r1 = j := ⟨r1.toNat, by omega⟩
    obtain ⟨v1, hv1⟩ := get_lt (l := [0, 1, 1, (n : Int) - 1]) (i := j1) (by show j1 < 4; omega)
    obtain ⟨b, rfl, hb⟩ : ∃ b : Nat, v1 = (b : Int) ∧ b < n := by
      have m := List.mem_of_getElem? hv1
      simp only [List.mem_cons, List.not_mem_nil, or_false] at m
      exact ⟨v1.toNat, by omega, by omega⟩
    refine Sv.ix (x := .non) (Sv.lst (e2 _ _ l1b h1)) (i := (j1 : Int)) (iv_at hv1) ?_
    refine ⟨_, rfl, bx, 8, c + 1, rfl, B2, by omega, by omega, by omega, fun r2 H3 r20 r21 e3 B3 => ⟨by show 6 ≤ sizeLine; decide, fun l2 n2 => ?_⟩⟩
    have x2 := Evl.Ex.new (o := .lst [V.int 0, .int 1, .int 7, .non, .non, .int r2]) n2
    have h2 := upd_same (H := H3) (a := l2) (o := .lst [V.int 0, .int 1, .int 7, .non, .non, .int r2])
    have l2b := B3.at n2
    refine ⟨_, rfl, bx, 6, c + 1 + 1, rfl, B3.ex x2, by omega, by omega, by omega, fun r3 H4 r30 r31 e4 B4 => ?_⟩
    obtain ⟨j3, rfl⟩ : ∃ j : Nat, r3 = j := ⟨r3.toNat, by omega⟩
    obtain ⟨p2, rfl⟩ : ∃ j : Nat, r2 = j := ⟨r2.toNat, by omega⟩
    obtain ⟨pv, hpv, p8⟩ : ∃ pv : Option Nat, [V.int 0, .int 1, .int 7, .non, .non, .int (p2 : Int)][j3]? = some (pvV pv) ∧ ∀ p, pv = some p → p < 8 := by
      rcases j3 with _ | _ | _ | _ | _ | _ | j3
      · exact ⟨some 0, rfl, fun p e => by cases e; omega⟩
      · exact ⟨some 1, rfl, fun p e => by cases e; omega⟩
      · exact ⟨some 7, rfl, fun p e => by cases e; omega⟩
      · exact ⟨none, rfl, fun p e => by cases e⟩
      · exact ⟨none, rfl, fun p e => by cases e⟩
      · exact ⟨some p2, rfl, fun p e => by cases e; omega⟩
      · omega
    refine Sv.ix (x := .non) (Sv.lst (e4 _ _ l2b h2)) (i := (j3 : Int)) (atI_nat hpv) ⟨_, _, rfl, ?_⟩
    have E4 : Exb bx H H4 := (((Exb.of x1).trans e2).trans e3).trans ((Exb.of x2).trans e4)
    refine ⟨_, rfl, bx, 4, c + 1 + 1 + 1, rfl, B4, by omega, by omega, by omega, fun way H5 w0 w1 e5 B5 => ⟨31, rfl, by omega, by omega, fun D hD => ?_⟩⟩
    have E5 := E4.trans e5
    have nD := B5.at hD
    have fD := Exb.fresh E5 hD nD
    have fin : ∀ (wv : Addr) (ws : List Int) (H6 : Hp) (v6 : Option V), Exb bx H H6 → Box H6 bx (c + 40) → H6 wv = some (.lst (IV ws)) → Oct ws → ws.length = 31 → H wv = none → wv ≠ bx →
        tRet (tLst (tCons (tVar 2) (tCons (tVar 3) (tCons (tVar 5) tNil)))) { nx := fun x H' => Q V.non H', rt := Q } [some (.ref bx), some (.int (n : Int)), some (.int (b : Int)), some (pvV pv), some (.int way), some (.ref wv), v6] H6 := by
      intro wv ws H6 v6 e6 B6 hw ow lw fw nw
      refine ⟨_, rfl, _, rfl, _, rfl, by show 3 ≤ sizeLine; decide, fun L nL => ?_⟩
      have xL := Evl.Ex.new (o := .lst [V.int (b : Int), pvV pv, .ref wv]) nL
      exact q L wv b pv ws _ ⟨upd_same, xL _ _ hw, ow, lw, p8⟩ hb (e6.trans (Exb.of xL)) (B6.ex xL) (B6.at nL) nw (Exb.fresh e6 nL (B6.at nL)) fw
    refine lc_range (lo := 0) (n := 31) (fun i H' => i ≤ 31 ∧ Exb bx H5 H' ∧ Box H' bx (c + 4 + i) ∧ ∃ xs : List Int, xs.length = i ∧ Oct xs ∧ H' D = some (.lst (IV xs))) ⟨by omega, Exb.new hD, (B5.ex (Evl.Ex.new hD)).le (by omega), [], rfl, fun _ h => (by cases h), upd_same⟩ ?_ ?_
    · rintro i H6 hi ⟨_, e6, B6, xs, lx, ox, hx⟩
      refine ⟨rfl, _, rfl, bx, 256, c + 4 + i, rfl, B6, by omega, by omega, by omega, fun r H7 r0 r1 e7 B7 => ⟨_, e7 D _ nD hx, by rw [iv_len, lx]; exact Evl.sz_lt (by omega), by omega, ?_, ?_, xs ++ [r], by simp [lx], oct_snoc ox r0 (by omega), by rw [upd_same, iv_snoc]⟩⟩
      · intro y o nb z
        have hy : y ≠ D := by
          rintro rfl
          rw [hD] at z
          cases z
        rw [upd_ne hy]
        exact e7 y o nb (e6 y o nb z)
      · obtain ⟨d, m', c', k, hbx, r⟩ := B7
        exact ⟨d, m', c', k, by rw [upd_ne (Ne.symm nD)]; exact hbx, r.1, r.2.1, r.2.2.1, r.2.2.2.1, by omega⟩
    · rintro H6 ⟨_, e6, B6, xs, lx, ox, hx⟩
      have E6 := E5.trans e6
      refine ⟨_, _, rfl, ⟨_, rfl, _, _, rfl, rfl, _, rfl, if_dec (fun c3 => ?_) (fun c3 => ?_)⟩⟩
      · refine ⟨by show 1 ≤ sizeLine; decide, fun a0 na0 => rep_l (k := 31) upd_same (by omega) (by omega) fun a1 na1 => ?_⟩
        have y1 := (Evl.Ex.new (o := .lst [V.int 0]) na0).trans (Evl.Ex.new (o := .lst (IV (List.replicate (31 : Int).toNat 0))) na1)
        have ha1 := upd_same (H := upd H6 a0 (.lst [V.int 0])) (a := a1) (o := .lst (IV (List.replicate (31 : Int).toNat 0)))
        have fa1 := Evl.fresh_back (Evl.Ex.new (o := .lst [V.int 0]) na0) na1
        generalize upd (upd H6 a0 (.lst [V.int 0])) a1 (.lst (IV (List.replicate (31 : Int).toNat 0))) = H7 at y1 ha1 ⊢
        refine ⟨by show 5 ≤ sizeLine; decide, fun b0 nb0 => ⟨by show 1 ≤ sizeLine; decide, fun b1 nb1 => rep_l (k := 26) upd_same (by omega) (by omega) fun b2 nb2 => ?_⟩⟩
        have z0 := Evl.Ex.new (o := .lst (IV [4, 0, 0, 7, 1])) nb0
        have z1 := Evl.Ex.new (o := .lst [V.int 0]) nb1
        have z2 := Evl.Ex.new (o := .lst (IV (List.replicate (26 : Int).toNat 0))) nb2
        refine cat_l (xs := [4, 0, 0, 7, 1]) (ys := List.replicate (26 : Int).toNat 0) (z2 _ _ (z1 _ _ upd_same)) upd_same (by decide) fun b3 nb3 => ?_
        have z3 := Evl.Ex.new (o := .lst (IV ([4, 0, 0, 7, 1] ++ List.replicate (26 : Int).toNat 0))) nb3
        have fb3 : H6 b3 = none := Evl.fresh_back (y1.trans ((z0.trans z1).trans z2)) nb3
        show (tCons (tOp (rAddU K) (tOp (rMulU K) (tLst (tCons (tC (V.int 255)) tNil)) (tC (V.int 30))) (tLst (tCons (tC (V.int 0)) tNil))) tNil) _ (upd (upd (upd (upd H7 b0 (.lst (IV [4, 0, 0, 7, 1]))) b1 (.lst [V.int 0])) b2 (.lst (IV (List.replicate (26 : Int).toNat 0)))) b3 (.lst (IV ([4, 0, 0, 7, 1] ++ List.replicate (26 : Int).toNat 0)))) _
        obtain ⟨H8, hH8⟩ : ∃ X : Hp, X = upd (upd (upd (upd H7 b0 (.lst (IV [4, 0, 0, 7, 1]))) b1 (.lst [V.int 0])) b2 (.lst (IV (List.replicate (26 : Int).toNat 0)))) b3 (.lst (IV ([4, 0, 0, 7, 1] ++ List.replicate (26 : Int).toNat 0))) := ⟨_, rfl⟩
        have y2 : Evl.Ex H7 H8 := by
          rw [hH8]
          exact ((z0.trans z1).trans z2).trans z3
        have hb3 : H8 b3 = some (.lst (IV ([4, 0, 0, 7, 1] ++ List.replicate (26 : Int).toNat 0))) := by
          rw [hH8]
          exact upd_same
        rw [← hH8]
        clear hH8 z0 z1 z2 z3 nb3
        have ha1' := y2 _ _ ha1
        have Y2 := y1.trans y2
        refine ⟨by show 1 ≤ sizeLine; decide, fun c0 nc0 => rep_l (k := 30) upd_same (by omega) (by omega) fun c1 nc1 => ⟨by show 1 ≤ sizeLine; decide, fun c2 nc2 => ?_⟩⟩
        have u0 := Evl.Ex.new (o := .lst [V.int 255]) nc0
        have u1 := Evl.Ex.new (o := .lst (IV (List.replicate (30 : Int).toNat 255))) nc1
        have u2 := Evl.Ex.new (o := .lst (IV [0])) nc2
        refine cat_l (xs := List.replicate (30 : Int).toNat 255) (ys := [0]) (u2 _ _ upd_same) upd_same (by decide) fun d3 nd3 => ?_
        have u3 := Evl.Ex.new (o := .lst (IV (List.replicate (30 : Int).toNat 255 ++ [0]))) nd3
        have fd3 := Evl.fresh_back (Y2.trans ((u0.trans u1).trans u2)) nd3
        have U := ((u0.trans u1).trans u2).trans u3
        refine ⟨by show 3 ≤ sizeLine; decide, fun M nM => ?_⟩
        have xM := Evl.Ex.new (o := .lst [V.ref a1, .ref b3, .ref d3]) nM
        have W := U.trans xM
        obtain ⟨j, rfl⟩ : ∃ j : Nat, way = j := ⟨way.toNat, by omega⟩
        have pickW : ∃ (wv : Addr) (ws : List Int), [V.ref a1, .ref b3, .ref d3][j]? = some (.ref wv) ∧ (upd (upd (upd (upd (upd H8 c0 (.lst [V.int 255])) c1 (.lst (IV (List.replicate (30 : Int).toNat 255)))) c2 (.lst (IV [0]))) d3 (.lst (IV (List.replicate (30 : Int).toNat 255 ++ [0])))) M (.lst [V.ref a1, .ref b3, .ref d3])) wv = some (.lst (IV ws)) ∧ Oct ws ∧ ws.length = 31 ∧ H6 wv = none := by
          rcases j with _ | _ | _ | j
          · exact ⟨a1, List.replicate 31 0, rfl, W _ _ ha1', oct_0 _, rfl, fa1⟩
          · exact ⟨b3, [4, 0, 0, 7, 1] ++ List.replicate 26 0, rfl, W _ _ hb3, oct_app (fun o ho => by simp only [List.mem_cons, List.not_mem_nil, or_false] at ho; omega) (oct_0 _), rfl, fb3⟩
          · exact ⟨d3, List.replicate 30 255 ++ [0], rfl, xM _ _ upd_same, oct_app (oct_255 _) (fun o ho => by simp only [List.mem_cons, List.not_mem_nil, or_false] at ho; omega), rfl, fd3⟩
          · omega
        obtain ⟨wv, ws, g1, g2, g3, g4, g5⟩ := pickW
        refine ⟨_, rfl, Sv.ix (x := .non) (Sv.lst upd_same) (i := (j : Int)) (atI_nat g1) ?_⟩
        exact fin wv ws _ _ (E6.trans (Exb.of (Y2.trans W))) ((B6.ex (Y2.trans W)).le (by omega)) g2 g3 g4 (Exb.fresh E6 g5 (B6.at g5)) (B6.at g5)
      · exact fin D xs H6 _ E6 (B6.le (by omega)) hx ox lx fD nD
def spFrozen (K : PySem.W.Frag) : Sp := fun vs H Q _ => ∃ (bx ch dx : Addr) (s : CS) (n b : Nat) (a c : Int), vs = [.ref bx, .ref ch, .int (n : Int), .int (b : Int)] ∧ Box H bx c ∧ c < 60000000 ∧ ChipAt K H ch dx s ∧ ¬ Own ch s.c bx ∧ Ok s n a ∧ a < 1000 ∧ b < n ∧ s.tb.getD b false = true ∧
  ∀ (s' : CS) (H' : Hp), ChipAt K H' ch dx s' → s'.tb = s.tb → (∀ y u, y ≠ bx → ¬ Own ch s.c y → H y = some u → H' y = some u) → Q (.bl true) H'
theorem ok_frozen (T : Txt K mg) (F : FnP K "_law_frozen_right" s__law_frozen_right f fd) (C__law_take : Cal P w K mg base CX0 1 "_law_take" ["_law_box_here", "_law_many"] spTake) (C__law_step_right : Cal P w K mg base CX0 10 "_law_step_right" ["_law_chip", "_law_blocks", "_law_deed_here", "_law_mask_here", "_law_kind", "_law_is_bad"] (spStep K))
    (C__law_mask : Cal P w K mg base CX0 2 "_law_mask" ["_law_box_here"] spMask) (M_Chip__is_bad : CalM P w K mg base CX0 4 (Ch K) "is_bad" ["self", "block"] (spIsBad K)) : Fg P w K mg base CX0 11 f fd ["_law_box_here", "_law_chip", "_law_blocks", "_law_block"] (spFrozen K) := by
  refine fg_of F sc__law_frozen_right (fun vs H Q E h => ?_) (fun cdv A outer s₀ H vs Q E hr h => ⟨_, (PSs.nox (pss_cons (ps_for PassesOwn.never rfl (pi_range1 rfl T.f_range (pa_cons pe_int pa_nil)) (pg_name (i := 4) sc__law_frozen_right.nd rfl (by first | exact Or.inl rfl | exact Or.inr rfl))
  (pss_cons (ps_set (i := 5) sc__law_frozen_right.nd rfl (by first | exact Or.inl rfl | exact Or.inr rfl) (pe_lst (pa_cons (pv 3) (pa_cons (pe_ix (u_ix (K := K)) (pe_lst (pa_cons pe_non (pa_cons pe_int (pa_cons pe_int pa_nil)))) (pv 4) (fun _ _ => rfl)) (pa_cons (pe_op (u_mul (K := K)) (pe_lst (pa_cons (pe_cal C__law_take hr.le pass0 (pa_cons (pv 0) (pa_cons pe_int pa_nil))) pa_nil)) pe_int) pa_nil)))))
  (pss_cons (ps_set (i := 6) sc__law_frozen_right.nd rfl (by first | exact Or.inl rfl | exact Or.inr rfl) (pe_ix (u_ix (K := K)) (pe_lst (pa_cons pe_str (pa_cons pe_str (pa_cons pe_str pa_nil)))) (pe_cal C__law_take hr.le pass0 (pa_cons (pv 0) (pa_cons pe_int pa_nil))) (fun _ _ => rfl)))
  (pss_one (ps_if (pt_not (pt_tru (K := K) (pe_cal C__law_step_right hr.le pass0 (pa_cons (pv 1) (pa_cons (pv 2) (pa_cons (pv 5) (pa_cons (pe_cal C__law_mask hr.le pass0 (pa_cons (pv 0) pa_nil)) (pa_cons (pv 6) (pa_cons pe_bl pa_nil))))))) (by intro _; rfl)))
  (pss_one (ps_ret pe_bl)) pss_nil)))))
  (pss_one (ps_ret (pe_cmpR op_isT (pe_calM M_Chip__is_bad hr.le pass0 (pv 1) (pa_cons (pv 3) pa_nil)) pe_bl (nomark _)))))), ?_⟩)
  · obtain ⟨bx, ch, dx, s, n, b, a, c, rfl, _⟩ := h
    rfl
  · obtain ⟨bx, ch, dx, s, n, b, a, c, rfl, B, hcc, hc, obx, ok, ha, hb, hbad, q⟩ := h
    have len := ok.len
    have n8 := ok.n8
    have ii : ∀ {H' : Hp} {z : Addr} {u : CS}, ChipAt K H' ch dx u → H' z = none → ¬ Own ch u.c z := fun hu hz o => by
      obtain ⟨w, hw⟩ := hu.own o
      rw [hz] at hw
      cases hw
    refine ⟨3, rfl, by omega, by omega, ?_⟩
    refine for_range (lo := 0) (n := 3) (fun i σ H' => i ≤ 3 ∧ ∃ (v4 v5 v6 : Option V) (s1 : CS), σ = [some (.ref bx), some (.ref ch), some (.int (n : Int)), some (.int (b : Int)), v4, v5, v6] ∧ Box H' bx (c + 20 * i) ∧ ChipAt K H' ch dx s1 ∧ ¬ Own ch s1.c bx ∧ Ok s1 n (a + i) ∧ s1.tb = s.tb ∧ (∀ y, Own ch s1.c y → Own ch s.c y) ∧ ∀ y u, y ≠ bx → ¬ Own ch s.c y → H y = some u → H' y = some u)
      ⟨by omega, _, _, _, s, rfl, B.le (by omega), hc, obx, ok.le (by omega), rfl, fun _ z => z, fun _ _ _ _ z => z⟩ ?_ ?_
    · rintro i σ H1 hi ⟨_, v4, v5, v6, s1, rfl, B1, c1, o1, k1, t1, w1, y1⟩
      have ez : (0 : Int) + (i : Int) = (i : Int) := Int.zero_add _
      rw [ez]
      obtain ⟨pv, hpv, p8⟩ : ∃ pv : Option Nat, [V.non, .int 0, .int 3][i]? = some (pvV pv) ∧ ∀ p, pv = some p → p < 8 := by
        rcases i with _ | _ | _ | i
        · exact ⟨none, rfl, fun p e => by cases e⟩
        · exact ⟨some 0, rfl, fun p e => by cases e; omega⟩
        · exact ⟨some 3, rfl, fun p e => by cases e; omega⟩
        · omega
      refine ⟨_, rfl, by show 3 ≤ sizeLine; decide, fun l1 n1 => ⟨_, rfl, Sv.ix (x := .non) (Sv.lst upd_same) (i := (i : Int)) (atI_nat hpv) ?_⟩⟩
      have x1 := Evl.Ex.new (o := .lst [V.non, .int 0, .int 3]) n1
      refine ⟨_, rfl, bx, 4, c + 20 * i, rfl, B1.ex x1, by omega, by omega, by omega, fun r H2 r0 r1 e2 B2 => ⟨by show 1 ≤ sizeLine; decide, fun l2 n2 => rep_l (k := 31) upd_same (by omega) (by omega) fun wv nw => ⟨by show 3 ≤ sizeLine; decide, fun L nL => ?_⟩⟩⟩
      have c1' := c1.ex x1
      have c2 := c1'.exb o1 (fun j hj => Box.nt (B1.ex x1) (c1'.tup j hj)) e2
      have x2 := Evl.Ex.new (o := .lst [V.int r]) n2
      have x3 := Evl.Ex.new (o := .lst (IV (List.replicate (31 : Int).toNat r))) nw
      have x4 := Evl.Ex.new (o := .lst [V.int (b : Int), pvV pv, .ref wv]) nL
      have hw := x4 _ _ (upd_same (H := upd H2 l2 (.lst [V.int r])) (a := wv) (o := .lst (IV (List.replicate (31 : Int).toNat r))))
      have hL := upd_same (H := upd (upd H2 l2 (.lst [V.int r])) wv (.lst (IV (List.replicate (31 : Int).toNat r)))) (a := L) (o := .lst [V.int (b : Int), pvV pv, .ref wv])
      have X := (x2.trans x3).trans x4
      have oL := ii (c2.ex (x2.trans x3)) nL
      have ow := ii (c2.ex x2) nw
      have Lb := (B2.ex (x2.trans x3)).at nL
      have wb := (B2.ex x2).at nw
      have c3 := c2.ex X
      have B3 := B2.ex X
      show gName 5 (.ref L) _ (upd (upd (upd H2 l2 (.lst [V.int r])) wv (.lst (IV (List.replicate (31 : Int).toNat r)))) L (.lst [V.int (b : Int), pvV pv, .ref wv])) _
      generalize upd (upd (upd H2 l2 (.lst [V.int r])) wv (.lst (IV (List.replicate (31 : Int).toNat r)))) L (.lst [V.int (b : Int), pvV pv, .ref wv]) = H3 at hw hL c3 B3 X ⊢
      refine ⟨by show 3 ≤ sizeLine; decide, fun l3 n3 => ⟨_, rfl, bx, 3, c + 20 * i + 1, rfl, B3.ex (Evl.Ex.new n3), by omega, by omega, by omega, fun r3 H4 q0 q1 e4 B4 => ?_⟩⟩
      have x5 := Evl.Ex.new (o := .lst [V.str "well", .str "cut", .str "fail"]) n3
      have h3 := e4 _ _ (B3.at n3) (upd_same (H := H3) (a := l3) (o := .lst [V.str "well", .str "cut", .str "fail"]))
      obtain ⟨j, rfl⟩ : ∃ j : Nat, r3 = j := ⟨r3.toNat, by omega⟩
      obtain ⟨k, hk⟩ : ∃ k : Kd, [V.str "well", .str "cut", .str "fail"][j]? = some (.str k.s) := by
        rcases j with _ | _ | _ | j
        · exact ⟨.well, rfl⟩
        · exact ⟨.cut, rfl⟩
        · exact ⟨.fail, rfl⟩
        · omega
      refine Sv.ix (x := .non) (Sv.lst h3) (i := (j : Int)) (atI_nat hk) ?_
      have c3' := c3.ex x5
      have c4 := c3'.exb o1 (fun j hj => Box.nt (B3.ex x5) (c3'.tup j hj)) e4
      refine ⟨_, rfl, _, rfl, _, rfl, _, rfl, bx, c + 20 * i + 1 + 1, rfl, B4, by omega, fun m H5 m0 m1 e5 B5 => ?_⟩
      have c5 := c4.exb o1 (fun j hj => Box.nt B4 (c4.tup j hj)) e5
      have hL5 := e5 _ _ Lb (e4 _ _ Lb (x5 _ _ hL))
      have hw5 := e5 _ _ wb (e4 _ _ wb (x5 _ _ hw))
      have le : b < s1.er.length := by rw [c5.ne, k1.len]; exact hb
      have sm := k1.small (by omega)
      have or : Oct (List.replicate (31 : Int).toNat r) := oct_rep (by omega)
      refine ⟨_, rfl, ch, dx, L, s1, b, pv, wv, List.replicate (31 : Int).toNat r, m, k, true, by rw [k1.len]; rfl, c5, k1.pages, k1.kp, k1.kq, ⟨hL5, hw5, or, by rw [List.length_replicate]; rfl, p8⟩, oL, ow, by rw [k1.len]; exact hb, m0, m1, by rw [t1]; exact hbad.symm, (fun z => by cases z), sm.1, sm.2, fun s' H6 f6 c6 A => ⟨true, rfl, iteF ?_⟩⟩
      obtain ⟨d, m', c', k', hbx, rb⟩ := B5
      have B6 : Box H6 bx (c + 20 * i + 1 + 1 + 6) := ⟨d, m', c', k', f6.out o1 hbx, rb⟩
      refine ⟨by omega, _, _, _, s', rfl, B6.le (by omega), c6, Own.same A.own.1 A.own.2.1 A.own.2.2.1 A.own.2.2.2.1 A.own.2.2.2.2.1 A.own.2.2.2.2.2 o1, (k1.aft A le).le (by omega), ?_, fun y z => w1 y ?_, fun y u ny oy hy => f6.out (fun z => oy (w1 y z)) (e5 _ _ ny (e4 _ _ ny (x5 _ _ (X _ _ (e2 _ _ ny (x1 _ _ (y1 y u ny oy hy)))))))⟩
      · rw [A.tb, ← t1]
        cases k <;> rfl
      · unfold Own at z ⊢
        rw [A.own.1, A.own.2.1, A.own.2.2.1, A.own.2.2.2.1, A.own.2.2.2.2.1, A.own.2.2.2.2.2] at z
        exact z
    · rintro σ H1 ⟨_, v4, v5, v6, s1, rfl, B1, c1, o1, k1, t1, w1, y1⟩
      have bt : b < s1.tb.length := by rw [c1.nt, k1.len]; exact hb
      refine ⟨_, rfl, ch, dx, _, rfl, c1.ins, rfl, _, rfl, ch, s1.c, b, s1.tb, rfl, ⟨dx, c1.ins⟩, by rw [c1.nb, k1.len]; omega, c1.t, bt, fun H2 e2 => ⟨true, rfl, .inr ⟨_, rfl⟩, ?_⟩⟩
      rw [t1, hbad, decide_eq_true rfl]
      exact q s1 H2 (c1.ex e2) t1 fun y u ny oy hy => e2 _ _ (y1 y u ny oy hy)
end
end K6
namespace K6
open PySem PySem.Spec PyProof.Rows L2 VB BM
theorem badL_none {n : Nat} (h : 8 ≤ n ∧ n ≤ 9) : badL (List.replicate n false) = [] := by
  have c : n = 8 ∨ n = 9 := by omega
  rcases c with rfl | rfl <;> decide
theorem badL_one {n b : Nat} (h : 8 ≤ n ∧ n ≤ 9) (hb : b < n) : badL ((List.replicate n false).set b true) = [(b : Int)] := by
  have c : n = 8 ∨ n = 9 := by omega
  have d8 : ∀ b, b < 8 → badL ((List.replicate 8 false).set b true) = [(b : Int)] := by decide +kernel
  have d9 : ∀ b, b < 9 → badL ((List.replicate 9 false).set b true) = [(b : Int)] := by decide +kernel
  rcases c with rfl | rfl
  · exact d8 b hb
  · exact d9 b hb
theorem and_assoc_o {x y z : Int} (hx : 0 ≤ x) (hy : 0 ≤ y) (hz : 0 ≤ z) : Builtin.bitAnd (Builtin.bitAnd x y) z = Builtin.bitAnd x (Builtin.bitAnd y z) := by
  obtain ⟨a, rfl⟩ := nat_of hx
  obtain ⟨b, rfl⟩ := nat_of hy
  obtain ⟨c, rfl⟩ := nat_of hz
  rw [VB.bitAnd_nn, VB.bitAnd_nn, VB.bitAnd_nn, VB.bitAnd_nn, Nat.and_assoc]
/-- what is due stays due, whatever was cut -/
theorem due_mix {X ws : List Int} {pv : Option Nat} (m : Int) (oX : Oct X) (lX : X.length = 248) (ow : Oct ws) (lw : ws.length = 31) (p8 : ∀ p, pv = some p → p < 8) : due (mixL X (due X pv ws) m) pv ws = due X pv ws := by
  cases pv with
  | none => rfl
  | some p =>
    have hp := p8 p rfl
    obtain ⟨oN, lN⟩ := due_ok (pv := some p) oX lX ow lw p8
    have oN : Oct (wrote X ws p) := oN
    have lN : (wrote X ws p).length = 248 := lN
    have inN := wrote_inn oX ow lX lw hp
    obtain ⟨i1, i2⟩ := mix_down m oX oN (by omega) inN
    obtain ⟨_, oZ, lZ⟩ := mixL_spec (X := X) (Y := wrote X ws p) m (by omega)
    show wrote (mixL X (wrote X ws p) m) ws p = wrote X ws p
    generalize mixL X (wrote X ws p) m = Z at *
    refine ext_getD (d := (0 : Int)) (by rw [wrote_len (by omega) lw hp, lN]) fun i hi => ?_
    rw [lN] at hi
    have a1 := i1 i (by omega)
    have a2 := i2 i (by omega)
    rw [wrote_get lX lw hp] at a1
    rw [wrote_get (by omega) lw hp, wrote_get lX lw hp]
    have bx := getD_oct oX (j := i) (by omega)
    have bz := getD_oct oZ (j := i) (by omega)
    by_cases c : 31 * p ≤ i ∧ i < 31 * p + 31
    · rw [if_pos c] at a1 ⊢
      rw [if_pos c]
      have bw := getD_oct ow (j := i - 31 * p) (by omega)
      have bn := and_oct bx bw
      calc Builtin.bitAnd (Z.getD i 0) (ws.getD (i - 31 * p) 0) = Builtin.bitAnd (Builtin.bitAnd (Z.getD i 0) (X.getD i 0)) (ws.getD (i - 31 * p) 0) := by rw [a2]
        _ = Builtin.bitAnd (Z.getD i 0) (Builtin.bitAnd (X.getD i 0) (ws.getD (i - 31 * p) 0)) := and_assoc_o bz.1 bx.1 bw.1
        _ = Builtin.bitAnd (Builtin.bitAnd (X.getD i 0) (ws.getD (i - 31 * p) 0)) (Z.getD i 0) := and_comm_o bz.1 bn.1
        _ = _ := a1
    · rw [if_neg c] at a1 ⊢
      rw [if_neg c]
      rw [← a2, and_comm_o bz.1 bx.1]
      exact a1
section
variable {K : PySem.W.Frag}
theorem ChipAt.frame {H H' : Hp} {ch dx tw dt : Addr} {s u : CS} (h : ChipAt K H tw dt u) (hc : ChipAt K H ch dx s) (f : Fr ch s.c H H') (dis : ∀ y, Own tw u.c y → ¬ Own ch s.c y) : ChipAt K H' tw dt u :=
  ⟨f.out (dis _ (.inl rfl)) h.ins, f.out (dis _ (.inr (.inl rfl))) h.o, f.out (dis _ (.inr (.inr (.inl rfl)))) h.e, f.out (dis _ (.inr (.inr (.inr (.inl rfl))))) h.t, f.out (dis _ (.inr (.inr (.inr (.inr (.inl rfl)))))) h.p, f.out (dis _ (.inr (.inr (.inr (.inr (.inr (.inl rfl))))))) h.q,
    fun i hi => hc.tupK f (h.tup i hi), h.oe, h.ot, h.et, h.pq, h.nr, h.ne, h.nt, h.nb, h.b8, h.g8, h.oct, ⟨f.out (dis _ (.inr (.inr (.inr (.inr (.inr (.inr rfl))))))) h.rr.1, h.rr.2⟩⟩
theorem Aft.sameOwn {k : Kd} {bad : Bool} {pv : Option Nat} {m : Int} {Y : List Int} {s s' : CS} {b : Nat} {ch : Addr} (A : Aft k bad pv m Y s s' b) (y : Addr) : Own ch s'.c y ↔ Own ch s.c y := by
  unfold Own
  rw [A.own.1, A.own.2.1, A.own.2.2.1, A.own.2.2.2.1, A.own.2.2.2.2.1, A.own.2.2.2.2.2]
/-- a box, a chip, its twin -/
structure Two (K : PySem.W.Frag) (G H : Hp) (bx ch dx tw dt : Addr) (s u : CS) (n : Nat) (a c : Int) : Prop where
  box : Box H bx c
  chip : ChipAt K H ch dx s
  twin : ChipAt K H tw dt u
  obx : ¬ Own ch s.c bx
  obt : ¬ Own tw u.c bx
  dis : ∀ y, Own tw u.c y → ¬ Own ch s.c y
  ok : Ok s n a
  okt : Ok u n a
  stb : s.tb = List.replicate n false
  utb : u.tb = List.replicate n false
  ucut : u.c.cuts = 0
  kept : ∀ y w, y ≠ bx → G y = some w → H y = some w ∧ ¬ Own ch s.c y ∧ ¬ Own tw u.c y
theorem Two.ex {G H H' : Hp} {bx ch dx tw dt : Addr} {s u : CS} {n : Nat} {a c : Int} (h : Two K G H bx ch dx tw dt s u n a c) (e : Evl.Ex H H') : Two K G H' bx ch dx tw dt s u n a c := ⟨h.box.ex e, h.chip.ex e, h.twin.ex e, h.obx, h.obt, h.dis, h.ok, h.okt, h.stb, h.utb, h.ucut, fun y w n g => ⟨e _ _ (h.kept y w n g).1, (h.kept y w n g).2⟩⟩
theorem Two.exb {G H H' : Hp} {bx ch dx tw dt : Addr} {s u : CS} {n : Nat} {a c c' : Int} (h : Two K G H bx ch dx tw dt s u n a c) (e : Exb bx H H') (B : Box H' bx c') : Two K G H' bx ch dx tw dt s u n a c' :=
  ⟨B, h.chip.exb h.obx (fun i hi => Box.nt h.box (h.chip.tup i hi)) e, h.twin.exb h.obt (fun i hi => Box.nt h.box (h.twin.tup i hi)) e, h.obx, h.obt, h.dis, h.ok, h.okt, h.stb, h.utb, h.ucut, fun y w n g => ⟨e _ _ n (h.kept y w n g).1, (h.kept y w n g).2⟩⟩
theorem Two.le {G H : Hp} {bx ch dx tw dt : Addr} {s u : CS} {n : Nat} {a a' c c' : Int} (h : Two K G H bx ch dx tw dt s u n a c) (l : a ≤ a') (l2 : c ≤ c') : Two K G H bx ch dx tw dt s u n a' c' := ⟨h.box.le l2, h.chip, h.twin, h.obx, h.obt, h.dis, h.ok.le l, h.okt.le l, h.stb, h.utb, h.ucut, h.kept⟩
theorem Box.fr {H H' : Hp} {bx ch : Addr} {c : Cp} {n : Int} (B : Box H bx n) (f : Fr ch c H H') (o : ¬ Own ch c bx) : Box H' bx n := by
  obtain ⟨d, m, c', k, hb, r⟩ := B
  exact ⟨d, m, c', k, f.out o hb, r⟩
theorem Two.stepC {G H H' : Hp} {bx ch dx tw dt : Addr} {s s' u : CS} {n b : Nat} {a c m : Int} {k : Kd} {pv : Option Nat} {Y : List Int} (h : Two K G H bx ch dx tw dt s u n a c) (f : Fr ch s.c H H') (hc : ChipAt K H' ch dx s') (A : Aft k false pv m Y s s' b) (hb : b < n) (hk : k.isFail = false) : Two K G H' bx ch dx tw dt s' u n (a + 1) c :=
  ⟨Box.fr h.box f h.obx, hc, h.twin.frame h.chip f h.dis, fun z => h.obx ((A.sameOwn _).mp z), h.obt, fun y o z => h.dis y o ((A.sameOwn _).mp z), h.ok.aft A (by rw [h.chip.ne, h.ok.len]; exact hb), h.okt.le (by omega), by rw [A.tb, hk]; exact h.stb, h.utb, h.ucut, fun y w n g => ⟨f.out (h.kept y w n g).2.1 (h.kept y w n g).1, fun z => (h.kept y w n g).2.1 ((A.sameOwn _).mp z), (h.kept y w n g).2.2⟩⟩
theorem Two.stepT {G H H' : Hp} {bx ch dx tw dt : Addr} {s u' u : CS} {n b : Nat} {a c m : Int} {pv : Option Nat} {Y : List Int} (h : Two K G H bx ch dx tw dt s u n a c) (f : Fr tw u.c H H') (hc : ChipAt K H' tw dt u') (A : Aft .well false pv m Y u u' b) (hb : b < n) : Two K G H' bx ch dx tw dt s u' n (a + 1) c :=
  ⟨Box.fr h.box f h.obt, h.chip.frame h.twin f (fun y o z => h.dis y z o), hc, h.obx, fun z => h.obt ((A.sameOwn _).mp z), fun y o => h.dis y ((A.sameOwn _).mp o), h.ok.le (by omega), h.okt.aft A (by rw [h.twin.ne, h.okt.len]; exact hb), h.stb, by rw [A.tb]; exact h.utb, by rw [A.cuts, h.ucut]; rfl, fun y w n g => ⟨f.out (h.kept y w n g).2.2 (h.kept y w n g).1, (h.kept y w n g).2.1, fun z => (h.kept y w n g).2.2 ((A.sameOwn _).mp z)⟩⟩
/-- the same but for the block b, and what is due the same there -/
def Near (s u : CS) (n b : Nat) (pv : Option Nat) (ws : List Int) : Prop := (∀ i, i < n → i ≠ b → s.os.getD i [] = u.os.getD i []) ∧ due (s.os.getD b []) pv ws = due (u.os.getD b []) pv ws
theorem Two.oct {G H : Hp} {bx ch dx tw dt : Addr} {s u : CS} {n : Nat} {a c : Int} (h : Two K G H bx ch dx tw dt s u n a c) {b : Nat} (hb : b < n) : Oct (s.os.getD b []) ∧ (s.os.getD b []).length = 248 := by
  obtain ⟨o, l⟩ := h.chip.oct b (by rw [h.ok.len]; exact hb)
  rw [h.ok.pages] at l
  exact ⟨o, l⟩
theorem Near.cut {G H : Hp} {bx ch dx tw dt : Addr} {s s' u : CS} {n b : Nat} {a c m : Int} {pv : Option Nat} {ws : List Int} (g : Near s u n b pv ws) (h : Two K G H bx ch dx tw dt s u n a c) (A : Aft .cut false pv m (due (s.os.getD b []) pv ws) s s' b) (hb : b < n) (ow : Oct ws) (lw : ws.length = 31) (p8 : ∀ p, pv = some p → p < 8) : Near s' u n b pv ws := by
  obtain ⟨Z, oZ, _, _, z3⟩ := A.os
  have hb' : b < s.os.length := by rw [h.ok.len]; exact hb
  obtain ⟨oX, lX⟩ := h.oct hb
  refine ⟨fun i hi ne => ?_, ?_⟩
  · rw [oZ, getD_set _ _ _ _ _ hb', if_neg ne]
    exact g.1 i hi ne
  · rw [oZ, getD_set _ _ _ _ _ hb', if_pos rfl, z3 rfl rfl, due_mix m oX lX ow lw p8]
    exact g.2
theorem Near.well {G H : Hp} {bx ch dx tw dt : Addr} {s s' u u' : CS} {n b : Nat} {a c m m' : Int} {pv : Option Nat} {ws : List Int} (g : Near s u n b pv ws) (h : Two K G H bx ch dx tw dt s u n a c) (A : Aft .well false pv m (due (s.os.getD b []) pv ws) s s' b) (A' : Aft .well false pv m' (due (u.os.getD b []) pv ws) u u' b) (hb : b < n) : s'.os = u'.os := by
  obtain ⟨Z, oZ, _, z2, _⟩ := A.os
  obtain ⟨Z', oZ', _, z2', _⟩ := A'.os
  have hb' : b < s.os.length := by rw [h.ok.len]; exact hb
  have hb'' : b < u.os.length := by rw [h.okt.len]; exact hb
  rw [oZ, oZ']
  refine ext_getD (d := []) (by rw [List.length_set, List.length_set, h.ok.len, h.okt.len]) fun i hi => ?_
  rw [List.length_set, h.okt.len] at hi
  rw [getD_set _ _ _ _ _ hb', getD_set _ _ _ _ _ hb'']
  by_cases e : i = b
  · rw [if_pos e, if_pos e, z2 rfl rfl, z2' rfl rfl]
    exact g.2
  · rw [if_neg e, if_neg e]
    exact g.1 i hi e
end
end K6
namespace K6
open PySem PySem.Spec PyProof.Rows L2 VB BM
section
variable {K : PySem.W.Frag}
theorem new_ok {c : Cp} {rs : List Addr} {n : Nat} (hn : 8 ≤ n ∧ n ≤ 9) (c2 : c.pages = ((8 : Nat) : Int)) (c3 : c.bad = ((1 : Nat) : Int)) (c4 : c.ops = 0) (c5 : c.cuts = 0) : Ok (newS c rs n 8) n 0 := by
  have z : ∀ k : Nat, (List.replicate k (0 : Int)).sum = 0 := by
    intro k
    induction k with
    | zero => rfl
    | succ k ih =>
      show 0 + (List.replicate k (0 : Int)).sum = 0
      omega
  refine ⟨List.length_replicate, hn, c2, c3, rfl, rfl, ?_, ?_, fun x hx => ?_, ?_⟩
  · show 0 ≤ c.ops ∧ c.ops ≤ 0
    omega
  · show 0 ≤ c.cuts ∧ c.cuts ≤ c.ops
    omega
  · have hx : x ∈ List.replicate n (0 : Int) := hx
    rw [List.eq_of_mem_replicate hx]
    exact Int.le_refl _
  · show (List.replicate n (0 : Int)).sum ≤ c.ops
    rw [z, c4]
    exact Int.le_refl _
theorem made_chip {H H' : Hp} {x dx : Addr} {c : Cp} {rs : List Addr} {n : Nat} (hn : 8 ≤ n ∧ n ≤ 9) (hx : H x = none) (hdx : H dx = none) (c1 : c.blocks = (n : Int)) (c2 : c.pages = ((8 : Nat) : Int)) (ke : ∀ b o, b ≠ x → upd (upd H dx (.own x)) x (.ins (Ch K) dx []) b = some o → H' b = some o) (h1 : H' x = some (.ins (Ch K) dx c.fs)) (lr : rs.length = n) (ar : ∀ r ∈ rs, H' r = some (.tup (IV (List.replicate (31 * 8) 255))))
    (ho : H' c.o = some (.lst (rs.map V.ref))) (he : H' c.e = some (.lst (IV (List.replicate n 0)))) (ht : H' c.t = some (.lst (BV (List.replicate n false)))) (hp : H' c.p = some (.dK [])) (hq : H' c.q = some (.dK [])) (hrr : H' c.r = some (.dK [])) (n1 : c.o ≠ c.e) (n2 : c.o ≠ c.t) (n3 : c.e ≠ c.t) (n4 : c.p ≠ c.q) (n5 : c.p ≠ c.r) (n6 : c.q ≠ c.r)
    (fo : upd (upd H dx (.own x)) x (.ins (Ch K) dx []) c.o = none) (fe : upd (upd H dx (.own x)) x (.ins (Ch K) dx []) c.e = none) (ft : upd (upd H dx (.own x)) x (.ins (Ch K) dx []) c.t = none) (fp : upd (upd H dx (.own x)) x (.ins (Ch K) dx []) c.p = none) (fq : upd (upd H dx (.own x)) x (.ins (Ch K) dx []) c.q = none) (frr : upd (upd H dx (.own x)) x (.ins (Ch K) dx []) c.r = none) :
    ChipAt K H' x dx (newS c rs n 8) ∧ Evl.Ex H H' ∧ ∀ y, Own x c y → H y = none := by
  refine ⟨newChip (g := 8) (by omega) ⟨by omega, by omega⟩ c1 c2 h1 lr ar ho he ht hp hq hrr n1 n2 n3 n4 n5 n6, fun y u hy => ?_, fun y o => ?_⟩
  · have y1 : y ≠ x := fun z => by rw [z, hx] at hy; cases hy
    have y2 : y ≠ dx := fun z => by rw [z, hdx] at hy; cases hy
    exact ke y u y1 (by rw [upd_ne y1, upd_ne y2]; exact hy)
  · cases hy : H y with
    | none => rfl
    | some u =>
      have y1 : y ≠ x := fun z => by rw [z, hx] at hy; cases hy
      have y2 : y ≠ dx := fun z => by rw [z, hdx] at hy; cases hy
      have g : upd (upd H dx (.own x)) x (.ins (Ch K) dx []) y = some u := by rw [upd_ne y1, upd_ne y2]; exact hy
      rcases o with rfl | rfl | rfl | rfl | rfl | rfl | rfl
      · exact absurd rfl y1
      · rw [fo] at g; cases g
      · rw [fe] at g; cases g
      · rw [ft] at g; cases g
      · rw [fp] at g; cases g
      · rw [fq] at g; cases g
      · rw [frr] at g; cases g
end
section
variable {K : PySem.W.Frag}
theorem ne_told {H : Hp} {a b : Addr} {Q : VK} (h1 : H a = some (.lst (toldL (.bl true)))) (h2 : H b = some (.lst (toldL (.bl true)))) (q : Q (.bl false) H) : rNeU K (.ref a) (.ref b) H Q := by
  have d : ∀ {x : Addr}, H x = some (.lst (toldL (.bl true))) → Dp K H (.ref x) (.list [.str "told", .bool true]) := fun h => .lst (SqL.of h) (.cons (.str _) (.cons (.bl _) .nil))
  have cl : (PyData.list [.str "told", .bool true]).canLay0 = true := by
    simp [PyData.canLay0, PyData.canLayAll0]
    decide +kernel
  have dp : (PyData.list [.str "told", .bool true]).depth ≤ 60 := by decide
  refine .inr ⟨_, _, d h1, d h2, shp_of cl dp, shp_of cl dp, ?_⟩
  rw [SeqAt.eqv_refl _ cl]
  exact q
end
section
variable {P : Program} {w : World} {K : PySem.W.Frag} {mg : Str → Option Value} {base : Heap} {f : Addr} {fd : FuncData}
def spRight : Sp := fun vs H Q _ => ∃ (bx : Addr) (c : Int), vs = [.ref bx] ∧ Box H bx c ∧ c < 1000 ∧ ∀ H' : Hp, Exb bx H H' → Q (.bl true) H'
theorem ok_right {CP : Addr} (T : Txt K mg) (TC : TxC K) (F : FnP K "_law_right" s__law_right f fd) (C__law_take : Cal P w K mg base CX0 1 "_law_take" ["_law_box_here", "_law_many"] spTake) (N_Chip : Mak P w K mg base CX0 4 "Chip" (Ch K) ["self", "blocks", "pages", "bad"] (spInitC K))
    (C__law_deed : Cal P w K mg base CX0 2 "_law_deed" ["_law_box_here", "_law_blocks"] spDeed) (C__law_step_right : Cal P w K mg base CX0 10 "_law_step_right" ["_law_chip", "_law_blocks", "_law_deed_here", "_law_mask_here", "_law_kind", "_law_is_bad"] (spStep K)) (C__law_mask : Cal P w K mg base CX0 2 "_law_mask" ["_law_box_here"] spMask)
    (C_read_image : Cal P w K mg base CX0 7 "read_image" ["octets"] (spReadI K)) (C_image : Cal P w K mg base CX0 5 "image" ["chip"] (spImage K)) (M_Chip__bad_blocks : CalM P w K mg base CX0 1 (Ch K) "bad_blocks" ["self"] (spBadB K))
    (C__law_frozen_right : Cal P w K mg base CX0 11 "_law_frozen_right" ["_law_box_here", "_law_chip", "_law_blocks", "_law_block"] (spFrozen K)) (C__law_done : Cal P w K mg base CX0 9 "_law_done" ["_law_chip", "_law_deed_here"] (spDone K CP)) (C__law_pages : Cal P w K mg base CX0 5 "_law_pages" ["_law_chip", "_law_blocks"] (spPages K)) :
    Fg P w K mg base CX0 12 f fd ["_law_box_here"] spRight := by
  refine fg_of F sc__law_right (fun vs H Q E h => ?_) (fun cdv A outer s₀ H vs Q E hr h => ⟨_, (PSs.nox (pss_cons (ps_par3 (i := 1) (j := 2) (l := 3) rfl sc__law_right.nd rfl rfl rfl (by decide) (by decide) (by decide) rfl rfl rfl (pa_cons (pe_ix (u_ix (K := K)) (pe_lst (pa_cons pe_int (pa_cons pe_int pa_nil))) (pe_cal C__law_take hr.le pass0 (pa_cons (pv 0) (pa_cons pe_int pa_nil))) (fun _ _ => rfl)) (pa_cons (pe_cal C__law_take hr.le pass0 (pa_cons (pv 0) (pa_cons pe_int pa_nil))) (pa_cons (pe_cmpR (u_eq (K := K) hr) (pe_cal C__law_take hr.le pass0 (pa_cons (pv 0) (pa_cons pe_int pa_nil))) pe_int (nomark _)) pa_nil))) (by rfl))
  (pss_cons (ps_par (i := 4) (j := 5) rfl sc__law_right.nd rfl rfl (by decide) rfl rfl (pa_cons (pe_mak N_Chip hr.le pass0 (pa_cons (pv 1) (pa_cons pe_int (pa_cons pe_int pa_nil)))) (pa_cons (pe_mak N_Chip hr.le pass0 (pa_cons (pv 1) (pa_cons pe_int (pa_cons pe_int pa_nil)))) pa_nil)) (by rfl))
  (pss_cons (ps_for PassesOwn.never rfl (pi_range1 rfl T.f_range (pa_cons pe_int pa_nil)) (pg_name (i := 6) sc__law_right.nd rfl (by first | exact Or.inl rfl | exact Or.inr rfl))
  (pss_cons (ps_set (i := 7) sc__law_right.nd rfl (by first | exact Or.inl rfl | exact Or.inr rfl) (pe_cal C__law_deed hr.le pass0 (pa_cons (pv 0) (pa_cons (pv 1) pa_nil))))
  (pss_cons (ps_for PassesOwn.never rfl (pi_range1 rfl T.f_range (pa_cons (pe_ix (u_ix (K := K)) (pe_lst (pa_cons pe_int (pa_cons pe_int (pa_cons pe_int (pa_cons pe_int (pa_cons pe_int pa_nil)))))) (pe_cal C__law_take hr.le pass0 (pa_cons (pv 0) (pa_cons pe_int pa_nil))) (fun _ _ => rfl)) pa_nil)) (pg_name (i := 8) sc__law_right.nd rfl (by first | exact Or.inl rfl | exact Or.inr rfl))
  (pss_cons (ps_if (pt_not (pt_tru (K := K) (pe_cal C__law_step_right hr.le pass0 (pa_cons (pv 4) (pa_cons (pv 1) (pa_cons (pv 7) (pa_cons (pe_cal C__law_mask hr.le pass0 (pa_cons (pv 0) pa_nil)) (pa_cons pe_str (pa_cons pe_bl pa_nil))))))) (by intro _; rfl)))
  (pss_one (ps_ret pe_bl)) pss_nil)
  (pss_one (ps_if (pt_tru (K := K) (pv 3) (by intro _; rfl))
  (pss_one (ps_set (i := 4) sc__law_right.nd rfl (by first | exact Or.inl rfl | exact Or.inr rfl) (pe_cal C_read_image hr.le pass0 (pa_cons (pe_cal C_image hr.le pass0 (pa_cons (pv 4) pa_nil)) pa_nil)))) pss_nil))))
  (pss_cons (ps_if (pt_cmpR (u_eq (K := K) hr) (pv 6) (pv 2) (nomark _))
  (pss_cons (ps_if (pt_not (pt_tru (K := K) (pe_cal C__law_step_right hr.le pass0 (pa_cons (pv 4) (pa_cons (pv 1) (pa_cons (pv 7) (pa_cons (pe_cal C__law_mask hr.le pass0 (pa_cons (pv 0) pa_nil)) (pa_cons pe_str (pa_cons pe_bl pa_nil))))))) (by intro _; rfl)))
  (pss_one (ps_ret pe_bl)) pss_nil)
  (pss_one (ps_ret (pe_and (pe_cal C__law_frozen_right hr.le pass0 (pa_cons (pv 0) (pa_cons (pv 4) (pa_cons (pv 1) (pa_cons (pe_ix (u_ix (K := K)) (pv 7) pe_int (fun _ _ => rfl)) pa_nil))))) (pe_one (pe_cmpR (u_eq (K := K) hr) (pe_calM0 M_Chip__bad_blocks hr.le pass0 (pv 4)) (pe_lst (pa_cons (pe_ix (u_ix (K := K)) (pv 7) pe_int (fun _ _ => rfl)) pa_nil)) (nomark _))))))) pss_nil)
  (pss_cons (ps_if (PW.pt (pw_or (pt_not (pt_tru (K := K) (pe_cal C__law_step_right hr.le pass0 (pa_cons (pv 4) (pa_cons (pv 1) (pa_cons (pv 7) (pa_cons pe_int (pa_cons pe_str (pa_cons pe_bl pa_nil))))))) (by intro _; rfl))) (pw_or1 (pt_cmpR (u_ne (K := K) hr) (pe_cal C__law_done hr.le pass0 (pa_cons (pv 5) (pa_cons (pv 7) pa_nil))) (pe_lst (pa_cons pe_str (pa_cons pe_bl pa_nil))) (nomark _)))))
  (pss_one (ps_ret pe_bl)) pss_nil)
  (pss_one (ps_if (pt_cmpR (u_ne (K := K) hr) (pe_cal C__law_pages hr.le pass0 (pa_cons (pv 4) (pa_cons (pv 1) pa_nil))) (pe_cal C__law_pages hr.le pass0 (pa_cons (pv 5) (pa_cons (pv 1) pa_nil))) (nomark _))
  (pss_one (ps_ret pe_bl)) pss_nil)))))))
  (pss_one (ps_ret (pe_and (pe_cmpR (u_eq (K := K) hr) (pe_calM0 M_Chip__bad_blocks hr.le pass0 (pv 4)) (pe_lst pa_nil) (nomark _)) (pe_one (pe_cmpR (u_eq (K := K) hr) (pe_fldU (K := K) (pv 5) rfl) pe_int (nomark _)))))))))), ?_⟩)
  · obtain ⟨bx, c, rfl, _⟩ := h
    rfl
  · obtain ⟨bx, c, rfl, B, hcc, q⟩ := h
    refine ⟨by show 2 ≤ sizeLine; decide, fun l1 n1 => ?_⟩
    have x1 := Evl.Ex.new (o := .lst (IV [8, 9])) n1
    have h1 := upd_same (H := H) (a := l1) (o := .lst (IV [8, 9]))
    have l1b := B.at n1
    refine ⟨_, rfl, bx, 2, c, rfl, B.ex x1, by omega, by omega, by omega, fun r1 H2 r10 r11 e2 B2 => ?_⟩
    obtain ⟨j1, rfl⟩ : ∃ j : Nat, r1 = j := ⟨r1.toNat, by omega⟩
    obtain ⟨v1, hv1⟩ := get_lt (l := [(8 : Int), 9]) (i := j1) (by show j1 < 2; omega)
    obtain ⟨n, rfl, hn⟩ : ∃ n : Nat, v1 = (n : Int) ∧ (8 ≤ n ∧ n ≤ 9) := by
      have m := List.mem_of_getElem? hv1
      simp only [List.mem_cons, List.not_mem_nil, or_false] at m
      exact ⟨v1.toNat, by omega, by omega⟩
    refine Sv.ix (x := .non) (Sv.lst (e2 _ _ l1b h1)) (i := (j1 : Int)) (iv_at hv1) ?_
    refine ⟨_, rfl, bx, 12, c + 1, rfl, B2, by omega, by omega, by omega, fun fl H3 fl0 fl1 e3 B3 => ⟨_, rfl, bx, 2, c + 1 + 1, rfl, B3, by omega, by omega, by omega, fun ag H4 ag0 ag1 e4 B4 => .inl ⟨rfl, ?_⟩⟩⟩
    generalize decide (V.int ag = V.int 0) = again
    refine ⟨_, _, _, rfl, ?_⟩
    -- the chip
    refine ⟨_, rfl, fun ch dx hch hdx ndx => ⟨ch, dx, n, 8, 1, rfl, upd_same, by omega, by omega, by omega, by omega, by omega, fun c1 rs H5 a1 a2 a3 a4 a5 ke g1 lr ar ho he ht hp hq hrr n1' n2 n3 n4 n5 n6 fo fe ft fp fq frr => ⟨rfl, ?_⟩⟩⟩
    obtain ⟨C1, X1, F1⟩ := made_chip (K := K) (n := n) hn hch hdx a1 a2 ke g1 lr ar ho he ht hp hq hrr n1' n2 n3 n4 n5 n6 fo fe ft fp fq frr
    clear ke g1 ar ho he ht hp hq hrr fo fe ft fp fq frr
    refine ⟨_, rfl, fun tw dt htw hdt ndt => ⟨tw, dt, n, 8, 1, rfl, upd_same, by omega, by omega, by omega, by omega, by omega, fun c2 rt H6 b1 b2 b3 b4 b5 ke g1 lr2 ar ho he ht hp hq hrr n1' n2' n3' n4' n5' n6' fo fe ft fp fq frr => ⟨rfl, ?_⟩⟩⟩
    obtain ⟨C2, X2, F2⟩ := made_chip (K := K) (n := n) hn htw hdt b1 b2 ke g1 lr2 ar ho he ht hp hq hrr n1' n2' n3' n4' n5' n6' fo fe ft fp fq frr
    clear ke g1 ar ho he ht hp hq hrr fo fe ft fp fq frr
    refine ⟨_, _, rfl, ?_⟩
    have B5 := B4.ex X1
    have B6 := B5.ex X2
    have nn : ∀ {H' : Hp} {y : Addr} {u : HO}, H' y = none → H' y = some u → False := fun h1 h2 => by rw [h1] at h2; cases h2
    have obx : ¬ Own ch c1 bx := fun o => by
      obtain ⟨_, _, _, _, hb, _⟩ := B4
      exact nn (F1 _ o) hb
    have obt : ¬ Own tw c2 bx := fun o => by
      obtain ⟨_, _, _, _, hb, _⟩ := B5
      exact nn (F2 _ o) hb
    have T0 : Two K H H6 bx ch dx tw dt (newS c1 rs n 8) (newS c2 rt n 8) n 0 (c + 3) := by
      refine ⟨B6.le (by omega), C1.ex X2, C2, obx, obt, fun y o z => ?_, new_ok hn a2 a3 a4 a5, new_ok hn b2 b3 b4 b5, rfl, rfl, b5, fun y w ny hy => ?_⟩
      rotate_left
      · have hy4 := e4 _ _ ny (e3 _ _ ny (e2 _ _ ny (x1 _ _ hy)))
        exact ⟨X2 _ _ (X1 _ _ hy4), fun z => nn (F1 _ z) hy4, fun z => nn (F2 _ z) (X1 _ _ hy4)⟩
      obtain ⟨u, hu⟩ := C1.own z
      exact nn (F2 _ o) hu
    generalize hs : newS c1 rs n 8 = s at T0
    generalize hu : newS c2 rt n 8 = u at T0
    have su : s.os = u.os := by rw [← hs, ← hu]; rfl
    clear hs hu C1 C2 X1 X2 F1 F2 obx obt B4 B5 B6
    clear a1 a2 a3 a4 a5 b1 b2 b3 b4 b5
    refine ⟨6, rfl, by omega, by omega, ?_⟩
    refine for_range (lo := 0) (n := 6) (fun i σ H' => i ≤ 6 ∧ ∃ (v6 v7 v8 : Option V) (ch dx tw dt : Addr) (s u : CS), σ = [some (.ref bx), some (.int (n : Int)), some (.int fl), some (.bl again), some (.ref ch), some (.ref tw), v6, v7, v8] ∧ Two K H H' bx ch dx tw dt s u n (10 * i) (c + 3 + 100 * i) ∧ s.os = u.os)
      ⟨by omega, _, _, _, ch, dx, tw, dt, s, u, rfl, T0.le (by omega) (by omega), su⟩ ?_ ?_
    · clear T0 su
      rintro i σ H1 hi ⟨_, v6, v7, v8, ch, dx, tw, dt, s, u, rfl, T1, su⟩
      have ez : (0 : Int) + (i : Int) = (i : Int) := Int.zero_add _
      rw [ez]
      refine ⟨_, rfl, _, rfl, bx, n, c + 3 + 100 * i, rfl, T1.box, hn.1, hn.2, by omega, fun L wv b pv ws H2 hL hb e2 B2 Lb wb fL fw => ?_⟩
      have T2 := T1.exb e2 B2
      have p8 := hL.2.2.2.2
      have oLw : ∀ {ch' : Addr} {dx' : Addr} {s' : CS}, ChipAt K H1 ch' dx' s' → ¬ Own ch' s'.c L ∧ ¬ Own ch' s'.c wv := fun h => ⟨fun o => by obtain ⟨z, hz⟩ := h.own o; exact nn fL hz, fun o => by obtain ⟨z, hz⟩ := h.own o; exact nn fw hz⟩
      have oC := oLw T1.chip
      have oT := oLw T1.twin
      clear oLw fL fw e2 B2 T1
      -- how often it is cut
      refine ⟨by show 5 ≤ sizeLine; decide, fun l2 n2 => ?_⟩
      have x2 := Evl.Ex.new (o := .lst (IV [0, 1, 1, 2, 3])) n2
      have h2 := upd_same (H := H2) (a := l2) (o := .lst (IV [0, 1, 1, 2, 3]))
      have l2b := T2.box.at n2
      refine ⟨_, rfl, bx, 5, _, rfl, T2.box.ex x2, by omega, by omega, by omega, fun r2 H3 r20 r21 e3 B3 => ?_⟩
      obtain ⟨j2, rfl⟩ : ∃ j : Nat, r2 = j := ⟨r2.toNat, by omega⟩
      obtain ⟨v2, hv2⟩ := get_lt (l := [(0 : Int), 1, 1, 2, 3]) (i := j2) (by show j2 < 5; omega)
      obtain ⟨t, rfl, ht⟩ : ∃ t : Nat, v2 = (t : Int) ∧ t ≤ 3 := by
        have m := List.mem_of_getElem? hv2
        simp only [List.mem_cons, List.not_mem_nil, or_false] at m
        exact ⟨v2.toNat, by omega, by omega⟩
      have T3 := (T2.ex x2).exb e3 B3
      have hL3 : DeedAt H3 L b pv wv ws := ⟨e3 _ _ Lb (x2 _ _ hL.1), e3 _ _ wb (x2 _ _ hL.2.1), hL.2.2⟩
      refine Sv.ix (x := .non) (Sv.lst (e3 _ _ l2b h2)) (i := (j2 : Int)) (iv_at hv2) ⟨(t : Int), rfl, by omega, by omega, ?_⟩
      have tt : ((t : Int)).toNat = t := by omega
      rw [tt]
      have N3 : Near s u n b pv ws := ⟨fun k _ _ => by rw [su], by rw [su]⟩
      clear T2 hL su h2 hv2 e3 B3 x2
      refine for_range (lo := 0) (n := t) (fun j σ H' => j ≤ t ∧ ∃ (v8 : Option V) (ch dx : Addr) (s : CS), σ = [some (.ref bx), some (.int (n : Int)), some (.int fl), some (.bl again), some (.ref ch), some (.ref tw), some (.int (i : Int)), some (.ref L), v8] ∧ Two K H H' bx ch dx tw dt s u n (10 * i + j) (c + 3 + 100 * i + 41 + 6 * j) ∧ Near s u n b pv ws ∧ DeedAt H' L b pv wv ws ∧ ¬ Own ch s.c L ∧ ¬ Own ch s.c wv)
        ⟨by omega, _, ch, dx, s, rfl, T3.le (by omega) (by omega), N3, hL3, oC.1, oC.2⟩ ?_ ?_
      · clear T3 N3 hL3 oC
        rintro j σ H4 hj ⟨_, v8, ch, dx, s, rfl, T4, N4, hL4, oL, ow⟩
        have ey : (0 : Int) + (j : Int) = (j : Int) := Int.zero_add _
        rw [ey]
        refine ⟨_, rfl, _, rfl, _, rfl, _, rfl, bx, _, rfl, T4.box, by omega, fun m H5 m0 m1 e5 B5 => ?_⟩
        have T5 := T4.exb e5 B5
        have hL5 : DeedAt H5 L b pv wv ws := ⟨e5 _ _ Lb hL4.1, e5 _ _ wb hL4.2.1, hL4.2.2⟩
        have sm := T5.ok.small (by omega)
        have hbs : b < s.os.length := by rw [T5.ok.len]; exact hb
        refine ⟨ch, dx, L, s, b, pv, wv, ws, m, .cut, false, by rw [T5.ok.len]; rfl, T5.chip, T5.ok.pages, T5.ok.kp, T5.ok.kq, hL5, oL, ow, hbs, m0, m1, ?_, (fun _ z => by cases z), sm.1, sm.2, fun s' H6 f6 c6 A => ⟨true, rfl, iteF ?_⟩⟩
        · rw [T5.stb, rep_getD _ _ _ _ hb]
        have T6 := T5.stepC f6 c6 A hb rfl
        have N6 := N4.cut T5 A hb hL4.2.2.1 hL4.2.2.2.1 p8
        have hL6 : DeedAt H6 L b pv wv ws := ⟨f6.out oL hL5.1, f6.out ow hL5.2.1, hL5.2.2⟩
        have oL6 : ¬ Own ch s'.c L := fun z => oL ((A.sameOwn _).mp z)
        have ow6 : ¬ Own ch s'.c wv := fun z => ow ((A.sameOwn _).mp z)
        refine ⟨_, rfl, again, rfl, ?_⟩
        cases again with
        | false => exact iteF ⟨by omega, _, ch, dx, s', rfl, T6.le (by omega) (by omega), N6, hL6, oL6, ow6⟩
        | true =>
          refine iteT ⟨_, rfl, ch, dx, s', rfl, c6, (T6.ok.wf c6 (by omega) T6.stb).num, fun r H7 nr e7 hr => ?_⟩
          have T7 := T6.ex e7
          refine ⟨r, s', rfl, SqT.of hr, T7.ok.wf T7.chip (by omega) T7.stb, fun x dx' s2 H8 fx e8 c8 al kp kq => ?_⟩
          obtain ⟨q1, q2, q3, q4, q5, q6, q7, q8⟩ := al
          have T8 := T7.ex e8
          refine ⟨by omega, _, x, dx', s2, rfl, ⟨(T8.le (Int.le_refl _) (by omega)).box, c8, T8.twin, fun o => ?_, T8.obt, fun y o z => ?_, ?_, T8.okt.le (by omega), by rw [q3]; exact T8.stb, T8.utb, T8.ucut, fun y w ny hy => ⟨(T8.kept y w ny hy).1, fun z => nn (fx _ z) (T7.kept y w ny hy).1, (T8.kept y w ny hy).2.2⟩⟩, ?_, hL6.ex (e7.trans e8), fun o => ?_, fun o => ?_⟩
          · obtain ⟨_, _, _, _, hb', _⟩ := T7.box
            exact nn (fx _ o) hb'
          · obtain ⟨w', hw'⟩ := T7.twin.own o
            exact nn (fx _ z) hw'
          · have k6 := T8.ok.le (a' := 10 * i + (j + 1 : Nat)) (by omega)
            exact ⟨by rw [q1]; exact k6.len, k6.n8, by rw [q5]; exact k6.pages, by rw [q6]; exact k6.bad, kp, kq, by rw [q7]; exact k6.ops, by rw [q7, q8]; exact k6.cuts, by rw [q2]; exact k6.er, by rw [q2, q7]; exact k6.es⟩
          · unfold Near
            rw [q1]
            exact N6
          · exact nn (fx _ o) ((hL6.ex e7).1)
          · exact nn (fx _ o) ((hL6.ex e7).2.1)
      · clear T3 N3 hL3 oC
        rintro σ H4 ⟨_, v8, ch, dx, s, rfl, T4, N4, hL4, oL, ow⟩
        refine ⟨_, rfl, _, rfl, .inl ⟨rfl, _, rfl, if_eq (fun _ => ?_) (fun _ => ?_)⟩⟩
        · -- one that fails
          refine ⟨_, rfl, _, rfl, _, rfl, _, rfl, bx, _, rfl, T4.box, by omega, fun m H5 m0 m1 e5 B5 => ?_⟩
          have T5 := T4.exb e5 B5
          have hL5 : DeedAt H5 L b pv wv ws := ⟨e5 _ _ Lb hL4.1, e5 _ _ wb hL4.2.1, hL4.2.2⟩
          have sm := T5.ok.small (by omega)
          have hbs : b < s.os.length := by rw [T5.ok.len]; exact hb
          have bd := T5.ok.bad
          refine ⟨ch, dx, L, s, b, pv, wv, ws, m, .fail, false, by rw [T5.ok.len]; rfl, T5.chip, T5.ok.pages, T5.ok.kp, T5.ok.kq, hL5, oL, ow, hbs, m0, m1, ?_, (fun _ _ => ?_), sm.1, sm.2, fun s' H6 f6 c6 A => ⟨true, rfl, iteF ?_⟩⟩
          · rw [T5.stb, rep_getD _ _ _ _ hb]
          · rw [T5.stb, badL_none hn, bd]
            decide
          have tb' : s'.tb = (List.replicate n false).set b true := by
            rw [A.tb, T5.stb]
            rfl
          have hL6 : DeedAt H6 L b pv wv ws := ⟨f6.out oL hL5.1, f6.out ow hL5.2.1, hL5.2.2⟩
          refine ⟨_, rfl, _, rfl, _, rfl, _, rfl, hL6.ix.1 ⟨bx, ch, dx, s', n, b, _, _, rfl, Box.fr T5.box f6 T5.obx, by omega, c6, fun z => T5.obx ((A.sameOwn _).mp z), T5.ok.aft A (by rw [T5.chip.ne, T5.ok.len]; exact hb), by omega, hb, ?_, fun s2 H7 c7 t7 k7 => ⟨true, rfl, iteT ?_⟩⟩⟩
          · rw [tb', getD_set _ _ _ _ _ (by rw [List.length_replicate]; exact hb), if_pos rfl]
          have hL7 : DeedAt H7 L b pv wv ws := ⟨k7 _ _ Lb (fun z => oL ((A.sameOwn _).mp z)) hL6.1, k7 _ _ wb (fun z => ow ((A.sameOwn _).mp z)) hL6.2.1, hL6.2.2⟩
          refine ⟨_, rfl, ch, dx, _, rfl, c7.ins, rfl, ch, s2.c, s2.tb, rfl, ⟨dx, c7.ins⟩, by rw [c7.nt]; exact c7.nb, by rw [c7.nt]; exact c7.b8, c7.t, fun D H8 nD e8 hD => ⟨_, rfl, (hL7.ex e8).ix.1 ⟨by show 1 ≤ sizeLine; decide, fun r nr => .inr (req_l (ns := badL s2.tb) (ms := [(b : Int)]) (SqL.of ((Evl.Ex.new nr) _ _ hD)) (SqL.of upd_same) ?_)⟩⟩⟩
          rw [t7, tb', badL_one hn hb, decide_eq_true rfl]
          refine q _ fun w y ny hy => ?_
          have kk := T5.kept w y ny hy
          exact (Evl.Ex.new nr) _ _ (e8 _ _ (k7 _ _ ny (fun z => kk.2.1 ((A.sameOwn _).mp z)) (f6.out kk.2.1 kk.1)))
        · -- one that goes well, on both
          have sm := T4.ok.small (by omega)
          have hbs : b < s.os.length := by rw [T4.ok.len]; exact hb
          have mm : (0 : Int) < MM := by
            have := MM_half (k := 0) (by omega)
            rw [Int.pow_zero] at this
            omega
          refine ⟨_, rfl, _, rfl, _, rfl, ch, dx, L, s, b, pv, wv, ws, 0, .well, false, by rw [T4.ok.len]; rfl, T4.chip, T4.ok.pages, T4.ok.kp, T4.ok.kq, hL4, oL, ow, hbs, Int.le_refl _, mm, ?_, (fun _ z => by cases z), sm.1, sm.2, fun s' H6 f6 c6 A => ⟨true, rfl, iteF ?_⟩⟩
          · rw [T4.stb, rep_getD _ _ _ _ hb]
          have T6 := T4.stepC f6 c6 A hb rfl
          have hL6 : DeedAt H6 L b pv wv ws := ⟨f6.out oL hL4.1, f6.out ow hL4.2.1, hL4.2.2⟩
          have hbu : b < u.os.length := by rw [T6.okt.len]; exact hb
          have hbad : false = u.tb.getD b false := by rw [T6.utb, rep_getD _ _ _ _ hb]
          have es := ers_same (s1 := u) (b := b) (pv := pv)
          have kp := T6.okt.kp
          have kq := T6.okt.kq
          have E := ends_aft (K := K) (CP := CP) (ch := tw) (dx := dt) (s := u) (s0 := s0Of u b pv) (b := b) (k := .well) (bad := false) (pv := pv) (m := 0) (Y := due (u.os.getD b []) pv ws) (H := H6) (R := fun xs H' => ∃ u', Fr tw u.c H6 H' ∧ ChipAt K H' tw dt u' ∧ Aft .well false pv 0 (due (u.os.getD b []) pv ws) u u' b ∧ xs = resL .well false u.c.ops)
            hbu hbad (fun _ z => by cases z) es.1 es.2.1 es.2.2.1 (ers_er rfl rfl hbad) (by rw [es.2.2.2.1, kp]; rfl) (by rw [es.2.2.2.2, kq]; rfl) (by rw [es.2.2.2.1, kp]; rfl) (by rw [es.2.2.2.2, kq]; rfl) fun u' H' g1 g2 g3 => ⟨u', g1, g2, g3, rfl⟩
          have key : ∀ (u' : CS) (H7 : Hp) (l r : Addr), Fr tw u.c H6 H7 → ChipAt K H7 tw dt u' → Aft .well false pv 0 (due (u.os.getD b []) pv ws) u u' b → H7 l = none → (upd H7 l (.lst (toldL (.bl true)))) r = none →
              Two K H (upd (upd H7 l (.lst (toldL (.bl true)))) r (.lst (toldL (.bl true)))) bx ch dx tw dt s' u' n (10 * i + t + 1 + 1) (c + 3 + 100 * i + 41 + 6 * t) ∧ s'.os = u'.os ∧ (upd (upd H7 l (.lst (toldL (.bl true)))) r (.lst (toldL (.bl true)))) l = some (.lst (toldL (.bl true))) := by
            intro u' H7 l r g1 g2 g3 nl nr
            have xl := Evl.Ex.new (o := .lst (toldL (.bl true))) nl
            have xr := Evl.Ex.new (o := .lst (toldL (.bl true))) nr
            exact ⟨(T6.stepT g1 g2 g3 hb).ex (xl.trans xr), N4.well T4 A g3 hb, xr _ _ upd_same⟩
          refine ⟨_, rfl, _, rfl, tw, dt, L, u, b, pv, wv, ws, rfl, T6.twin, hL6, hbu, T6.okt.pages, by rw [kp]; exact plan_nil, by rw [kq]; exact plan_nil, ?_⟩
          refine ⟨fun m' s2 d H7 g1 g2 g3 g4 g5 g6 l nl => ?_, fun s2 v H7 g1 g2 g3 g4 l nl => ?_⟩
          · obtain ⟨u', f2, c2, A2, e⟩ := E.1 m' s2 d H7 g1 g2 g3 g4 g5 g6
            rw [e]
            refine ⟨by show 2 ≤ sizeLine; decide, fun r nr => ?_⟩
            obtain ⟨T8, eo, hl⟩ := key u' H7 l r f2 c2 A2 nl nr
            refine ne_told hl upd_same ⟨_, rfl, iteF ⟨_, rfl, _, rfl, ch, dx, s', by rw [T8.ok.len]; rfl, T8.chip, T8.ok.pages, fun D1 H9 e9 G1 => ⟨_, rfl, _, rfl, tw, dt, u', by rw [T8.okt.len]; rfl, T8.twin.ex e9, T8.okt.pages, fun D2 H10 e10 G2 => ?_⟩⟩⟩
            rw [eo] at G1
            exact ne_grid (G1.ex e10) G2 ⟨_, rfl, iteF ⟨by omega, _, _, _, ch, dx, tw, dt, s', u', rfl, ((T8.ex e9).ex e10).le (by omega) (by omega), eo⟩⟩
          · obtain ⟨u', f2, c2, A2, e⟩ := E.2 s2 v H7 g1 g2 g3 g4
            rw [e]
            refine ⟨by show 2 ≤ sizeLine; decide, fun r nr => ?_⟩
            obtain ⟨T8, eo, hl⟩ := key u' H7 l r f2 c2 A2 nl nr
            refine ne_told hl upd_same ⟨_, rfl, iteF ⟨_, rfl, _, rfl, ch, dx, s', by rw [T8.ok.len]; rfl, T8.chip, T8.ok.pages, fun D1 H9 e9 G1 => ⟨_, rfl, _, rfl, tw, dt, u', by rw [T8.okt.len]; rfl, T8.twin.ex e9, T8.okt.pages, fun D2 H10 e10 G2 => ?_⟩⟩⟩
            rw [eo] at G1
            exact ne_grid (G1.ex e10) G2 ⟨_, rfl, iteF ⟨by omega, _, _, _, ch, dx, tw, dt, s', u', rfl, ((T8.ex e9).ex e10).le (by omega) (by omega), eo⟩⟩
    · rintro σ H1 ⟨_, v6, v7, v8, ch, dx, tw, dt, s, u, rfl, T1, su⟩
      have hc := T1.chip
      refine ⟨_, rfl, ch, dx, _, rfl, hc.ins, rfl, ch, s.c, s.tb, rfl, ⟨dx, hc.ins⟩, by rw [hc.nt]; exact hc.nb, by rw [hc.nt]; exact hc.b8, hc.t, fun D H2 nD e2 hD => ⟨by show 0 ≤ sizeLine; decide, fun r nr => .inr (req_l (ns := badL s.tb) (ms := []) (SqL.of ((Evl.Ex.new nr) _ _ hD)) (SqL.of upd_same) ⟨_, rfl, ?_⟩)⟩⟩
      rw [T1.stb, badL_none hn, decide_eq_true rfl]
      have T3 := (T1.ex e2).ex (Evl.Ex.new (o := .lst (IV [])) nr)
      refine iteT ⟨_, rfl, tw, _, dt, _, _, rfl, T3.twin.ins, TC.cls, TC.no _ (by simp), rfl, .inl ⟨rfl, ?_⟩⟩
      rw [T1.ucut, decide_eq_true rfl]
      exact q _ fun w y ny hy => (T3.kept w y ny hy).1
end
end K6
namespace K6
open PySem PySem.Spec PyProof.Rows L2 VB BM
theorem ex_b {a : Addr} {H0 H H' : Hp} (e : Evl.Ex H0 H) (h : H0 a = none) (x : Exb a H H') : Evl.Ex H0 H' := fun b o q => x b o (fun z => by rw [z, h] at q; cases q) (e b o q)
section
variable {P : Program} {w : World} {K : PySem.W.Frag} {mg : Str → Option Value} {base : Heap} {f : Addr} {fd : FuncData}
theorem ok_pcinit (F : FnM K "__init__" "PowerCut.__init__" s_PowerCut____init__ f fd) : FnOk P w K mg base CX0 1 f fd ["self", "op"] (spInit K "op") := by
  refine F.ok sc_PowerCut____init__ (fun vs H Q E h => ?_) (fun cdv A outer s H vs Q E hr h => ⟨_, pss_one (ps_ost (pv 0) (pv 1)), ?_⟩)
  · obtain ⟨a, C, y, rfl, _⟩ := h
    rfl
  · obtain ⟨a, C, y, rfl, T, no, ea, q⟩ := h
    exact ⟨_, rfl, _, rfl, a, C, rfl, T, no, .inl ⟨ea, fun dx n ne => q dx n ne⟩⟩
def spLaw (K : PySem.W.Frag) : Sp := fun vs H Q _ => ∃ (a : Addr) (ns : List Int), vs = [.ref a] ∧ SqL K H a (ns.map V.int) ∧ ns.length ≤ 1000 ∧ ∀ H' : Hp, Q (.bl true) H'
theorem ok_law (T : Txt K mg) (F : FnP K "law" s_law f fd) (C__law_right : Cal P w K mg base CX0 12 "_law_right" ["_law_box_here"] spRight) (C__law_box : Cal P w K mg base CX0 1 "_law_box" ["_law_great"] spBox) (C__law_cell : Cal P w K mg base CX0 1 "_law_cell" ["_law_script", "_law_k"] (spCell K)) :
    Fg P w K mg base CX0 13 f fd ["_law_script"] (spLaw K) := by
  refine fg_of F sc_law (fun vs H Q E h => ?_) (fun cdv A outer s H vs Q E hr h => ⟨_, (PSs.nox (pss_cons (ps_for PassesOwn.never rfl (pi_range1 rfl T.f_range (pa_cons (pe_callB (call_max2 rfl) (by rfl) T.f_max (by decide +kernel) (pa_cons pe_int (pa_cons (pe_callB (call_min2 rfl) (by rfl) T.f_min (by decide +kernel) (pa_cons pe_int (pa_cons (pe_callB (u_len (K := K)) (by rfl) T.f_len (by decide +kernel) (pa_cons (pv 0) pa_nil)) pa_nil))) pa_nil))) pa_nil)) (pg_name (i := 1) sc_law.nd rfl (by first | exact Or.inl rfl | exact Or.inr rfl))
  (pss_one (ps_if (pt_not (pt_tru (K := K) (pe_cal C__law_right hr.le pass0 (pa_cons (pe_cal C__law_box hr.le pass0 (pa_cons (pe_cal C__law_cell hr.le pass0 (pa_cons (pv 0) (pa_cons (pv 1) pa_nil))) pa_nil)) pa_nil)) (by intro _; rfl)))
  (pss_one (ps_ret pe_bl)) pss_nil)))
  (pss_one (ps_ret pe_bl)))), ?_⟩)
  · obtain ⟨a, ns, rfl, _⟩ := h
    rfl
  · obtain ⟨a, ns, rfl, S, hl, q⟩ := h
    refine ⟨_, rfl, _, _, rfl, .inl ⟨_, S, rfl⟩, _, _, rfl, _, _, rfl, ?_⟩
    obtain ⟨t, ht, t2⟩ : ∃ t : Nat, (if (1 : Int) < (if ((ns.map V.int).length : Int) < 2 then ((ns.map V.int).length : Int) else 2) then (if ((ns.map V.int).length : Int) < 2 then ((ns.map V.int).length : Int) else 2) else 1) = (t : Int) ∧ t ≤ 2 := by
      refine ⟨(if (1 : Int) < (if ((ns.map V.int).length : Int) < 2 then ((ns.map V.int).length : Int) else 2) then (if ((ns.map V.int).length : Int) < 2 then ((ns.map V.int).length : Int) else 2) else 1).toNat, ?_, ?_⟩
      · split <;> split <;> omega
      · split <;> split <;> omega
    rw [ht]
    refine ⟨(t : Int), rfl, by omega, by omega, ?_⟩
    have tt : ((t : Int)).toNat = t := by omega
    rw [tt]
    refine for_range (lo := 0) (n := t) (fun i σ H' => i ≤ t ∧ Evl.Ex H H' ∧ ∃ v1 : Option V, σ = [some (.ref a), v1]) ⟨by omega, Evl.Ex.refl _, _, rfl⟩ ?_ ?_
    · rintro i σ H1 hi ⟨_, e1, v1, rfl⟩
      have ez : (0 : Int) + (i : Int) = (i : Int) := Int.zero_add _
      rw [ez]
      refine ⟨_, rfl, _, rfl, a, ns, (i : Int), rfl, Evl.ex_l e1 S, by omega, by omega, hl, fun g H2 e2 => ⟨g, rfl, fun p H3 n3 e3 B => ⟨p, 0, rfl, B, by omega, fun H4 x4 => ⟨true, rfl, iteF ⟨by omega, ?_, _, rfl⟩⟩⟩⟩⟩
      exact ex_b ((e1.trans e2).trans e3) (Evl.fresh_back (e1.trans e2) n3) x4
    · rintro σ H1 ⟨_, e1, v1, rfl⟩
      exact q H1
end
end K6
set_option maxHeartbeats 0
namespace K6
open PySem PySem.Spec PyProof.Rows L2 VB
theorem facts {P : Program} {w : World} {K : PySem.W.Frag} {h : Heap} {mg : Str → Option Value} {f : Addr} (X : K.In h) (G : h.Ns mainGlobals mg) (hfa : mg ("law" : Str) = some (.ref f)) (cx : He.SaysX fal fnl [] [] exB w h K) :
    ∃ fd : FuncData, (∀ (s : Shared) (v : Value), BindsTo s fd ⟨[v], []⟩ [("_law_script", v)]) ∧ ∀ base : Heap, K.In base → base.Ns mainGlobals mg → Fg P w K mg base CX0 13 f fd ["_law_script"] (spLaw K) := by
  have c := cx.t.d
  have cm := cx.more
  have TI := insB_ok (He.ba cm).2
  have cm := (He.ba cm).1
  obtain ⟨fd__law_take, F__law_take⟩ := c.def_ 0 (d := d__law_take) rfl
  obtain ⟨fd_is_int_from, F_is_int_from⟩ := c.def_ 1 (d := d_is_int_from) rfl
  obtain ⟨fd_is_block_count, F_is_block_count⟩ := c.def_ 2 (d := d_is_block_count) rfl
  obtain ⟨fd_is_page_count, F_is_page_count⟩ := c.def_ 3 (d := d_is_page_count) rfl
  obtain ⟨fd_is_bad_count, F_is_bad_count⟩ := c.def_ 4 (d := d_is_bad_count) rfl
  obtain ⟨fd__clean_block, F__clean_block⟩ := c.def_ 5 (d := d__clean_block) rfl
  obtain ⟨fd__law_deed, F__law_deed⟩ := c.def_ 6 (d := d__law_deed) rfl
  obtain ⟨fd__law_counts, F__law_counts⟩ := c.def_ 7 (d := d__law_counts) rfl
  obtain ⟨fd__law_pages, F__law_pages⟩ := c.def_ 8 (d := d__law_pages) rfl
  obtain ⟨fd_is_int, F_is_int⟩ := c.def_ 9 (d := d_is_int) rfl
  obtain ⟨fd_is_mask, F_is_mask⟩ := c.def_ 10 (d := d_is_mask) rfl
  obtain ⟨fd_is_list, F_is_list⟩ := c.def_ 11 (d := d_is_list) rfl
  obtain ⟨fd_is_octets, F_is_octets⟩ := c.def_ 12 (d := d_is_octets) rfl
  obtain ⟨fd__check_octets, F__check_octets⟩ := c.def_ 13 (d := d__check_octets) rfl
  obtain ⟨fd__check_pair, F__check_pair⟩ := c.def_ 14 (d := d__check_pair) rfl
  obtain ⟨fd__worth, F__worth⟩ := c.def_ 15 (d := d__worth) rfl
  obtain ⟨fd__ones, F__ones⟩ := c.def_ 16 (d := d__ones) rfl
  obtain ⟨fd_changed, F_changed⟩ := c.def_ 17 (d := d_changed) rfl
  obtain ⟨fd_is_octets_of, F_is_octets_of⟩ := c.def_ 18 (d := d_is_octets_of) rfl
  obtain ⟨fd__law_done, F__law_done⟩ := c.def_ 19 (d := d__law_done) rfl
  obtain ⟨fd__law_due, F__law_due⟩ := c.def_ 20 (d := d__law_due) rfl
  obtain ⟨fd__law_is_between, F__law_is_between⟩ := c.def_ 21 (d := d__law_is_between) rfl
  obtain ⟨fd__law_step_right, F__law_step_right⟩ := c.def_ 22 (d := d__law_step_right) rfl
  obtain ⟨fd__law_mask, F__law_mask⟩ := c.def_ 23 (d := d__law_mask) rfl
  obtain ⟨fd__is_shape, F__is_shape⟩ := c.def_ 24 (d := d__is_shape) rfl
  obtain ⟨fd__part_size, F__part_size⟩ := c.def_ 25 (d := d__part_size) rfl
  obtain ⟨fd__block_parts, F__block_parts⟩ := c.def_ 26 (d := d__block_parts) rfl
  obtain ⟨fd_number_told_by, F_number_told_by⟩ := c.def_ 27 (d := d_number_told_by) rfl
  obtain ⟨fd_number_in, F_number_in⟩ := c.def_ 28 (d := d_number_in) rfl
  obtain ⟨fd__is_image, F__is_image⟩ := c.def_ 29 (d := d__is_image) rfl
  obtain ⟨fd_read_image, F_read_image⟩ := c.def_ 30 (d := d_read_image) rfl
  obtain ⟨fd_octets_telling, F_octets_telling⟩ := c.def_ 31 (d := d_octets_telling) rfl
  obtain ⟨fd_in_octets, F_in_octets⟩ := c.def_ 32 (d := d_in_octets) rfl
  obtain ⟨fd__four_octets, F__four_octets⟩ := c.def_ 33 (d := d__four_octets) rfl
  obtain ⟨fd_image, F_image⟩ := c.def_ 34 (d := d_image) rfl
  obtain ⟨fd__law_frozen_right, F__law_frozen_right⟩ := c.def_ 35 (d := d__law_frozen_right) rfl
  obtain ⟨fd__law_right, F__law_right⟩ := c.def_ 36 (d := d__law_right) rfl
  obtain ⟨fd__law_box, F__law_box⟩ := c.def_ 37 (d := d__law_box) rfl
  obtain ⟨fd__law_cell, F__law_cell⟩ := c.def_ 38 (d := d__law_cell) rfl
  obtain ⟨fd_law, F_law⟩ := c.def_ 39 (d := d_law) rfl
  obtain ⟨fd_Chip____init__, F_Chip____init__⟩ := c.def_ 40 (d := d_Chip____init__) rfl
  obtain ⟨fd_Chip___check_block, F_Chip___check_block⟩ := c.def_ 41 (d := d_Chip___check_block) rfl
  obtain ⟨fd_Chip__erases, F_Chip__erases⟩ := c.def_ 42 (d := d_Chip__erases) rfl
  obtain ⟨fd_Chip___check_page, F_Chip___check_page⟩ := c.def_ 43 (d := d_Chip___check_page) rfl
  obtain ⟨fd_Chip__read, F_Chip__read⟩ := c.def_ 44 (d := d_Chip__read) rfl
  obtain ⟨fd_Chip___check_plan, F_Chip___check_plan⟩ := c.def_ 45 (d := d_Chip___check_plan) rfl
  obtain ⟨fd_Chip__cut, F_Chip__cut⟩ := c.def_ 46 (d := d_Chip__cut) rfl
  obtain ⟨fd_Chip__fail, F_Chip__fail⟩ := c.def_ 47 (d := d_Chip__fail) rfl
  obtain ⟨fd_Chip__bad_blocks, F_Chip__bad_blocks⟩ := c.def_ 48 (d := d_Chip__bad_blocks) rfl
  obtain ⟨fd_Chip___set_octets, F_Chip___set_octets⟩ := c.def_ 49 (d := d_Chip___set_octets) rfl
  obtain ⟨fd_Chip___do_op, F_Chip___do_op⟩ := c.def_ 50 (d := d_Chip___do_op) rfl
  obtain ⟨fd_Chip__erase, F_Chip__erase⟩ := c.def_ 51 (d := d_Chip__erase) rfl
  obtain ⟨fd_Chip__write, F_Chip__write⟩ := c.def_ 52 (d := d_Chip__write) rfl
  obtain ⟨fd_Chip__is_bad, F_Chip__is_bad⟩ := c.def_ 53 (d := d_Chip__is_bad) rfl
  obtain ⟨fd_PowerCut____init__, F_PowerCut____init__⟩ := c.def_ 54 (d := d_PowerCut____init__) rfl
  have g__law_take := He.glo_ok X G (c.fact 0 (f := .glo "_law_take") rfl)
  have g_is_int_from := He.glo_ok X G (c.fact 1 (f := .glo "is_int_from") rfl)
  have g_is_block_count := He.glo_ok X G (c.fact 2 (f := .glo "is_block_count") rfl)
  have g_is_page_count := He.glo_ok X G (c.fact 3 (f := .glo "is_page_count") rfl)
  have g_is_bad_count := He.glo_ok X G (c.fact 4 (f := .glo "is_bad_count") rfl)
  have g__clean_block := He.glo_ok X G (c.fact 5 (f := .glo "_clean_block") rfl)
  have g__law_deed := He.glo_ok X G (c.fact 6 (f := .glo "_law_deed") rfl)
  have g__law_counts := He.glo_ok X G (c.fact 7 (f := .glo "_law_counts") rfl)
  have g__law_pages := He.glo_ok X G (c.fact 8 (f := .glo "_law_pages") rfl)
  have g_is_int := He.glo_ok X G (c.fact 9 (f := .glo "is_int") rfl)
  have g_is_mask := He.glo_ok X G (c.fact 10 (f := .glo "is_mask") rfl)
  have g_is_list := He.glo_ok X G (c.fact 11 (f := .glo "is_list") rfl)
  have g_is_octets := He.glo_ok X G (c.fact 12 (f := .glo "is_octets") rfl)
  have g__check_octets := He.glo_ok X G (c.fact 13 (f := .glo "_check_octets") rfl)
  have g__check_pair := He.glo_ok X G (c.fact 14 (f := .glo "_check_pair") rfl)
  have g__worth := He.glo_ok X G (c.fact 15 (f := .glo "_worth") rfl)
  have g__ones := He.glo_ok X G (c.fact 16 (f := .glo "_ones") rfl)
  have g_changed := He.glo_ok X G (c.fact 17 (f := .glo "changed") rfl)
  have g_is_octets_of := He.glo_ok X G (c.fact 18 (f := .glo "is_octets_of") rfl)
  have g__law_done := He.glo_ok X G (c.fact 19 (f := .glo "_law_done") rfl)
  have g__law_due := He.glo_ok X G (c.fact 20 (f := .glo "_law_due") rfl)
  have g__law_is_between := He.glo_ok X G (c.fact 21 (f := .glo "_law_is_between") rfl)
  have g__law_step_right := He.glo_ok X G (c.fact 22 (f := .glo "_law_step_right") rfl)
  have g__law_mask := He.glo_ok X G (c.fact 23 (f := .glo "_law_mask") rfl)
  have g__is_shape := He.glo_ok X G (c.fact 24 (f := .glo "_is_shape") rfl)
  have g__part_size := He.glo_ok X G (c.fact 25 (f := .glo "_part_size") rfl)
  have g__block_parts := He.glo_ok X G (c.fact 26 (f := .glo "_block_parts") rfl)
  have g_number_told_by := He.glo_ok X G (c.fact 27 (f := .glo "number_told_by") rfl)
  have g_number_in := He.glo_ok X G (c.fact 28 (f := .glo "number_in") rfl)
  have g__is_image := He.glo_ok X G (c.fact 29 (f := .glo "_is_image") rfl)
  have g_read_image := He.glo_ok X G (c.fact 30 (f := .glo "read_image") rfl)
  have g_octets_telling := He.glo_ok X G (c.fact 31 (f := .glo "octets_telling") rfl)
  have g_in_octets := He.glo_ok X G (c.fact 32 (f := .glo "in_octets") rfl)
  have g__four_octets := He.glo_ok X G (c.fact 33 (f := .glo "_four_octets") rfl)
  have g_image := He.glo_ok X G (c.fact 34 (f := .glo "image") rfl)
  have g__law_frozen_right := He.glo_ok X G (c.fact 35 (f := .glo "_law_frozen_right") rfl)
  have g__law_right := He.glo_ok X G (c.fact 36 (f := .glo "_law_right") rfl)
  have g__law_box := He.glo_ok X G (c.fact 37 (f := .glo "_law_box") rfl)
  have g__law_cell := He.glo_ok X G (c.fact 38 (f := .glo "_law_cell") rfl)
  have g_law := He.glo_ok X G (c.fact 39 (f := .glo "law") rfl)
  have T : Txt K mg := ⟨He.free_ok X G (c.fact 40 (f := .free "abs") rfl), He.free_ok X G (c.fact 41 (f := .free "all") rfl), He.free_ok X G (c.fact 42 (f := .free "bool") rfl), He.free_ok X G (c.fact 43 (f := .free "enumerate") rfl), He.free_ok X G (c.fact 44 (f := .free "int") rfl), He.free_ok X G (c.fact 45 (f := .free "isinstance") rfl), He.free_ok X G (c.fact 46 (f := .free "len") rfl), He.free_ok X G (c.fact 47 (f := .free "list") rfl), He.free_ok X G (c.fact 48 (f := .free "max") rfl), He.free_ok X G (c.fact 49 (f := .free "min") rfl), He.free_ok X G (c.fact 50 (f := .free "range") rfl), He.free_ok X G (c.fact 51 (f := .free "repr") rfl), He.free_ok X G (c.fact 52 (f := .free "reversed") rfl), He.free_ok X G (c.fact 53 (f := .free "sum") rfl), He.free_ok X G (c.fact 54 (f := .free "tuple") rfl), He.free_ok X G (c.fact 55 (f := .free "zip") rfl), He.int_ok X G (c.fact 56 (f := .int "BLOCK_HEAD" 5) rfl), He.glo_ok X G (c.fact 57 (f := .glo "Chip") rfl), He.int_ok X G (c.fact 58 (f := .int "IMAGE_HEAD" 11) rfl), He.int_ok X G (c.fact 59 (f := .int "LEAST_BLOCKS" 8) rfl), He.int_ok X G (c.fact 60 (f := .int "LEAST_GOOD_BLOCKS" 7) rfl), He.int_ok X G (c.fact 61 (f := .int "LEAST_PAGES" 8) rfl), He.int_ok X G (c.fact 62 (f := .int "MASK_BITS" 4096) rfl), He.int_ok X G (c.fact 63 (f := .int "MOST_BLOCKS" 24) rfl), He.int_ok X G (c.fact 64 (f := .int "MOST_OCTETS_OF_A_NUMBER" 8) rfl), He.int_ok X G (c.fact 65 (f := .int "MOST_PAGES" 16) rfl), He.int_ok X G (c.fact 66 (f := .int "PAGE_OCTETS" 31) rfl)⟩
  have kc := He.cls_ok (c.fact 69 (f := .cls "Chip") rfl)
  have TC : TxC K := by
    refine ⟨kc, fun x hx => ?_⟩
    simp only [List.mem_cons, List.not_mem_nil, or_false] at hx
    rcases hx with rfl | rfl | rfl | rfl | rfl | rfl | rfl | rfl | rfl | rfl | rfl
    · exact He.noat_ok (c.fact 70 (f := .noat "Chip" "blocks") rfl)
    · exact He.noat_ok (c.fact 71 (f := .noat "Chip" "pages") rfl)
    · exact He.noat_ok (c.fact 72 (f := .noat "Chip" "bad") rfl)
    · exact He.noat_ok (c.fact 73 (f := .noat "Chip" "ops") rfl)
    · exact He.noat_ok (c.fact 74 (f := .noat "Chip" "cuts") rfl)
    · exact He.noat_ok (c.fact 75 (f := .noat "Chip" "_octets") rfl)
    · exact He.noat_ok (c.fact 76 (f := .noat "Chip" "_erased") rfl)
    · exact He.noat_ok (c.fact 77 (f := .noat "Chip" "_turned_bad") rfl)
    · exact He.noat_ok (c.fact 78 (f := .noat "Chip" "_cut_plans") rfl)
    · exact He.noat_ok (c.fact 79 (f := .noat "Chip" "_fail_plans") rfl)
    · exact He.noat_ok (c.fact 80 (f := .noat "Chip" "_reads") rfl)
  have gChip := He.glo_ok X G (c.fact 67 (f := .glo "Chip") rfl)
  have gPC := He.glo_ok X G (c.fact 68 (f := .glo "PowerCut") rfl)
  obtain ⟨errPC, xm⟩ := errB_ok cm gPC
  cases hfa.symm.trans g_law
  have b := FunD.bindsA (ps := ["_law_script"]) F_law fun _ _ _ _ _ _ us hl => match us, hl with | [_], _ => rfl
  refine ⟨fd_law, fun s v => b s [v] rfl, fun base _ _ => ?_⟩
  have E_PowerCut : MkE P w K mg base "PowerCut" "op" (He.ga K "PowerCut") (He.ma K (He.ga K "PowerCut") "__init__") := ⟨errPC, fd_PowerCut____init__, ok_pcinit F_PowerCut____init__, F_PowerCut____init__.bindsN fun _ _ _ _ _ _ us hl => match us, hl with | [_, _], _ => rfl⟩
  have G__law_take : Fg P w K mg base CX0 1 _ fd__law_take ["_law_box_here", "_law_many"] spTake := ok_take (F := F__law_take) (T := T)
  have G_is_int_from : Fg P w K mg base CX0 2 _ fd_is_int_from ["value", "least", "greatest"] spIntFrom := ok_int_from (F := F_is_int_from) (T := T)
  have C_is_int_from_2 : Cal P w K mg base CX0 2 "is_int_from" ["value", "least", "greatest"] spIntFrom := ⟨_, fd_is_int_from, G_is_int_from.le (by omega), g_is_int_from, F_is_int_from.kp, F_is_int_from.bindsN fun _ _ _ _ _ _ us hl => match us, hl with | [_, _, _], _ => rfl⟩
  have G_is_block_count : Fg P w K mg base CX0 3 _ fd_is_block_count ["value"] spBC := ok_bc (F := F_is_block_count) (T := T) (C_is_int_from := C_is_int_from_2)
  have G_is_page_count : Fg P w K mg base CX0 3 _ fd_is_page_count ["value"] spPC := ok_pc (F := F_is_page_count) (T := T) (C_is_int_from := C_is_int_from_2)
  have G_is_bad_count : Fg P w K mg base CX0 3 _ fd_is_bad_count ["value", "blocks"] spBdC := ok_bdc (F := F_is_bad_count) (T := T) (C_is_int_from := C_is_int_from_2)
  have G__clean_block : Fg P w K mg base CX0 1 _ fd__clean_block ["pages"] spCB := ok_cb (F := F__clean_block) (T := T)
  have C_is_block_count_3 : Cal P w K mg base CX0 3 "is_block_count" ["value"] spBC := ⟨_, fd_is_block_count, G_is_block_count.le (by omega), g_is_block_count, F_is_block_count.kp, F_is_block_count.bindsN fun _ _ _ _ _ _ us hl => match us, hl with | [_], _ => rfl⟩
  have C_is_page_count_3 : Cal P w K mg base CX0 3 "is_page_count" ["value"] spPC := ⟨_, fd_is_page_count, G_is_page_count.le (by omega), g_is_page_count, F_is_page_count.kp, F_is_page_count.bindsN fun _ _ _ _ _ _ us hl => match us, hl with | [_], _ => rfl⟩
  have C_is_bad_count_3 : Cal P w K mg base CX0 3 "is_bad_count" ["value", "blocks"] spBdC := ⟨_, fd_is_bad_count, G_is_bad_count.le (by omega), g_is_bad_count, F_is_bad_count.kp, F_is_bad_count.bindsN fun _ _ _ _ _ _ us hl => match us, hl with | [_, _], _ => rfl⟩
  have C__clean_block_1 : Cal P w K mg base CX0 1 "_clean_block" ["pages"] spCB := ⟨_, fd__clean_block, G__clean_block.le (by omega), g__clean_block, F__clean_block.kp, F__clean_block.bindsN fun _ _ _ _ _ _ us hl => match us, hl with | [_], _ => rfl⟩
  have G_Chip____init__ : Fg P w K mg base CX0 4 _ fd_Chip____init__ ["self", "blocks", "pages", "bad"] (spInitC K) := ok_init (F := F_Chip____init__) (T := T) (TC := TC) (C_is_block_count := C_is_block_count_3) (C_is_page_count := C_is_page_count_3) (C_is_bad_count := C_is_bad_count_3) (C__clean_block := C__clean_block_1)
  have C__law_take_1 : Cal P w K mg base CX0 1 "_law_take" ["_law_box_here", "_law_many"] spTake := ⟨_, fd__law_take, G__law_take.le (by omega), g__law_take, F__law_take.kp, F__law_take.bindsN fun _ _ _ _ _ _ us hl => match us, hl with | [_, _], _ => rfl⟩
  have G__law_deed : Fg P w K mg base CX0 2 _ fd__law_deed ["_law_box_here", "_law_blocks"] spDeed := ok_deed (F := F__law_deed) (T := T) (C__law_take := C__law_take_1)
  have G_Chip___check_block : Fg P w K mg base CX0 3 _ fd_Chip___check_block ["self", "block"] (spChkB K) := ok_check_block (F := F_Chip___check_block) (T := T) (TC := TC) (C_is_int_from := C_is_int_from_2)
  have M_Chip___check_block_3 : CalM P w K mg base CX0 3 (Ch K) "_check_block" ["self", "block"] (spChkB K) := ⟨_, fd_Chip___check_block, G_Chip___check_block.le (by omega), kc, He.meth_ok (c.fact 81 (f := .meth "Chip" "_check_block") rfl), F_Chip___check_block.bindsN fun _ _ _ _ _ _ us hl => match us, hl with | [_, _], _ => rfl⟩
  have G_Chip__erases : Fg P w K mg base CX0 4 _ fd_Chip__erases ["self", "block"] (spErases K) := ok_erases (F := F_Chip__erases) (T := T) (TC := TC) (M_Chip___check_block := M_Chip___check_block_3)
  have M_Chip__erases_4 : CalM P w K mg base CX0 4 (Ch K) "erases" ["self", "block"] (spErases K) := ⟨_, fd_Chip__erases, G_Chip__erases.le (by omega), kc, He.meth_ok (c.fact 82 (f := .meth "Chip" "erases") rfl), F_Chip__erases.bindsN fun _ _ _ _ _ _ us hl => match us, hl with | [_, _], _ => rfl⟩
  have G__law_counts : Fg P w K mg base CX0 5 _ fd__law_counts ["_law_chip", "_law_blocks"] (spCounts K) := ok_counts (F := F__law_counts) (T := T) (TC := TC) (M_Chip__erases := M_Chip__erases_4)
  have G_Chip___check_page : Fg P w K mg base CX0 3 _ fd_Chip___check_page ["self", "page"] (spChkP K) := ok_check_page (F := F_Chip___check_page) (T := T) (TC := TC) (C_is_int_from := C_is_int_from_2)
  have M_Chip___check_page_3 : CalM P w K mg base CX0 3 (Ch K) "_check_page" ["self", "page"] (spChkP K) := ⟨_, fd_Chip___check_page, G_Chip___check_page.le (by omega), kc, He.meth_ok (c.fact 83 (f := .meth "Chip" "_check_page") rfl), F_Chip___check_page.bindsN fun _ _ _ _ _ _ us hl => match us, hl with | [_, _], _ => rfl⟩
  have G_Chip__read : Fg P w K mg base CX0 4 _ fd_Chip__read ["self", "block", "page"] (spRead K) := ok_read (F := F_Chip__read) (T := T) (TC := TC) (M_Chip___check_block := M_Chip___check_block_3) (M_Chip___check_page := M_Chip___check_page_3)
  have M_Chip__read_4 : CalM P w K mg base CX0 4 (Ch K) "read" ["self", "block", "page"] (spRead K) := ⟨_, fd_Chip__read, G_Chip__read.le (by omega), kc, He.meth_ok (c.fact 84 (f := .meth "Chip" "read") rfl), F_Chip__read.bindsN fun _ _ _ _ _ _ us hl => match us, hl with | [_, _, _], _ => rfl⟩
  have G__law_pages : Fg P w K mg base CX0 5 _ fd__law_pages ["_law_chip", "_law_blocks"] (spPages K) := ok_pages (F := F__law_pages) (T := T) (M_Chip__read := M_Chip__read_4)
  have G_is_int : Fg P w K mg base CX0 1 _ fd_is_int ["value"] spIsInt := ok_is_int (F := F_is_int) (T := T)
  have C_is_int_1 : Cal P w K mg base CX0 1 "is_int" ["value"] spIsInt := ⟨_, fd_is_int, G_is_int.le (by omega), g_is_int, F_is_int.kp, F_is_int.bindsN fun _ _ _ _ _ _ us hl => match us, hl with | [_], _ => rfl⟩
  have G_is_mask : Fg P w K mg base CX0 2 _ fd_is_mask ["value"] spIsMask := ok_is_mask (F := F_is_mask) (T := T) (C_is_int := C_is_int_1)
  have C_is_mask_2 : Cal P w K mg base CX0 2 "is_mask" ["value"] spIsMask := ⟨_, fd_is_mask, G_is_mask.le (by omega), g_is_mask, F_is_mask.kp, F_is_mask.bindsN fun _ _ _ _ _ _ us hl => match us, hl with | [_], _ => rfl⟩
  have G_Chip___check_plan : Fg P w K mg base CX0 3 _ fd_Chip___check_plan ["self", "op", "mask"] (spChkPl K) := ok_check_plan (F := F_Chip___check_plan) (T := T) (TC := TC) (C_is_int := C_is_int_1) (C_is_mask := C_is_mask_2)
  have M_Chip___check_plan_3 : CalM P w K mg base CX0 3 (Ch K) "_check_plan" ["self", "op", "mask"] (spChkPl K) := ⟨_, fd_Chip___check_plan, G_Chip___check_plan.le (by omega), kc, He.meth_ok (c.fact 85 (f := .meth "Chip" "_check_plan") rfl), F_Chip___check_plan.bindsN fun _ _ _ _ _ _ us hl => match us, hl with | [_, _, _], _ => rfl⟩
  have G_Chip__cut : Fg P w K mg base CX0 4 _ fd_Chip__cut ["self", "op", "mask"] (spCut K) := ok_cut (F := F_Chip__cut) (T := T) (TC := TC) (M_Chip___check_plan := M_Chip___check_plan_3)
  have G_Chip__fail : Fg P w K mg base CX0 4 _ fd_Chip__fail ["self", "op", "mask"] (spFail K) := ok_fail (F := F_Chip__fail) (T := T) (TC := TC) (M_Chip___check_plan := M_Chip___check_plan_3)
  have G_is_list : Fg P w K mg base CX0 1 _ fd_is_list ["value"] (spIsList K) := ok_is_list (F := F_is_list) (T := T)
  have C_is_list_1 : Cal P w K mg base CX0 1 "is_list" ["value"] (spIsList K) := ⟨_, fd_is_list, G_is_list.le (by omega), g_is_list, F_is_list.kp, F_is_list.bindsN fun _ _ _ _ _ _ us hl => match us, hl with | [_], _ => rfl⟩
  have G_is_octets : Fg P w K mg base CX0 2 _ fd_is_octets ["value"] (spIsOct K) := ok_is_octets (F := F_is_octets) (T := T) (C_is_list := C_is_list_1)
  have C_is_octets_3 : Cal P w K mg base CX0 3 "is_octets" ["value"] (spIsOct K) := ⟨_, fd_is_octets, G_is_octets.le (by omega), g_is_octets, F_is_octets.kp, F_is_octets.bindsN fun _ _ _ _ _ _ us hl => match us, hl with | [_], _ => rfl⟩
  have G__check_octets : Fg P w K mg base CX0 4 _ fd__check_octets ["octets"] (spChk K) := ok_chk (F := F__check_octets) (T := T) (C_is_octets := C_is_octets_3)
  have C__check_octets_4 : Cal P w K mg base CX0 4 "_check_octets" ["octets"] (spChk K) := ⟨_, fd__check_octets, G__check_octets.le (by omega), g__check_octets, F__check_octets.kp, F__check_octets.bindsN fun _ _ _ _ _ _ us hl => match us, hl with | [_], _ => rfl⟩
  have G__check_pair : Fg P w K mg base CX0 5 _ fd__check_pair ["old", "new"] (spPair K) := ok_pair (F := F__check_pair) (T := T) (C__check_octets := C__check_octets_4)
  have G__worth : Fg P w K mg base CX0 1 _ fd__worth ["bit"] spWorth := ok_worth (F := F__worth) (T := T)
  have C__worth_1 : Cal P w K mg base CX0 1 "_worth" ["bit"] spWorth := ⟨_, fd__worth, G__worth.le (by omega), g__worth, F__worth.kp, F__worth.bindsN fun _ _ _ _ _ _ us hl => match us, hl with | [_], _ => rfl⟩
  have G__ones : Fg P w K mg base CX0 2 _ fd__ones ["octets"] (spOnes K) := ok_ones (F := F__ones) (T := T) (C__worth := C__worth_1)
  have C__check_pair_5 : Cal P w K mg base CX0 5 "_check_pair" ["old", "new"] (spPair K) := ⟨_, fd__check_pair, G__check_pair.le (by omega), g__check_pair, F__check_pair.kp, F__check_pair.bindsN fun _ _ _ _ _ _ us hl => match us, hl with | [_, _], _ => rfl⟩
  have C__ones_2 : Cal P w K mg base CX0 2 "_ones" ["octets"] (spOnes K) := ⟨_, fd__ones, G__ones.le (by omega), g__ones, F__ones.kp, F__ones.bindsN fun _ _ _ _ _ _ us hl => match us, hl with | [_], _ => rfl⟩
  have G_changed : Fg P w K mg base CX0 6 _ fd_changed ["old", "new", "mask"] (spChanged K) := ok_changed (F := F_changed) (T := T) (C__check_pair := C__check_pair_5) (C__ones := C__ones_2) (C_is_mask := C_is_mask_2) (C__worth := C__worth_1)
  have G_Chip__bad_blocks : Fg P w K mg base CX0 1 _ fd_Chip__bad_blocks ["self"] (spBadB K) := ok_bad_blocks (F := F_Chip__bad_blocks) (T := T) (TC := TC)
  have G_Chip___set_octets : Fg P w K mg base CX0 1 _ fd_Chip___set_octets ["self", "block", "octets"] (spSetO K) := ok_set_octets (F := F_Chip___set_octets) (T := T) (TC := TC)
  have C_changed_6 : Cal P w K mg base CX0 6 "changed" ["old", "new", "mask"] (spChanged K) := ⟨_, fd_changed, G_changed.le (by omega), g_changed, F_changed.kp, F_changed.bindsN fun _ _ _ _ _ _ us hl => match us, hl with | [_, _, _], _ => rfl⟩
  have M_Chip__bad_blocks_1 : CalM P w K mg base CX0 1 (Ch K) "bad_blocks" ["self"] (spBadB K) := ⟨_, fd_Chip__bad_blocks, G_Chip__bad_blocks.le (by omega), kc, He.meth_ok (c.fact 88 (f := .meth "Chip" "bad_blocks") rfl), F_Chip__bad_blocks.bindsN fun _ _ _ _ _ _ us hl => match us, hl with | [_], _ => rfl⟩
  have M_Chip___set_octets_1 : CalM P w K mg base CX0 1 (Ch K) "_set_octets" ["self", "block", "octets"] (spSetO K) := ⟨_, fd_Chip___set_octets, G_Chip___set_octets.le (by omega), kc, He.meth_ok (c.fact 89 (f := .meth "Chip" "_set_octets") rfl), F_Chip___set_octets.bindsN fun _ _ _ _ _ _ us hl => match us, hl with | [_, _, _], _ => rfl⟩
  have G_Chip___do_op : Fg P w K mg base (CX P w) 7 _ fd_Chip___do_op ["self", "block", "new"] (spDo K (He.ga K "PowerCut")) := ok_do_op (F := F_Chip___do_op) (T := T) (TC := TC) (E_PowerCut := E_PowerCut) (C_changed := C_changed_6) (M_Chip__bad_blocks := M_Chip__bad_blocks_1) (M_Chip___set_octets := M_Chip___set_octets_1)
  have M_Chip___do_op_7 : CalM P w K mg base (CX P w) 7 (Ch K) "_do_op" ["self", "block", "new"] (spDo K (He.ga K "PowerCut")) := ⟨_, fd_Chip___do_op, G_Chip___do_op.le (by omega), kc, He.meth_ok (c.fact 90 (f := .meth "Chip" "_do_op") rfl), F_Chip___do_op.bindsN fun _ _ _ _ _ _ us hl => match us, hl with | [_, _, _], _ => rfl⟩
  have G_Chip__erase : Fg P w K mg base (CX P w) 8 _ fd_Chip__erase ["self", "block"] (spEr K (He.ga K "PowerCut")) := ok_erase (F := F_Chip__erase) (T := T) (TC := TC) (M_Chip___check_block := M_Chip___check_block_3) (C__clean_block := C__clean_block_1) (M_Chip___do_op := M_Chip___do_op_7)
  have C_is_octets_2 : Cal P w K mg base CX0 2 "is_octets" ["value"] (spIsOct K) := ⟨_, fd_is_octets, G_is_octets.le (by omega), g_is_octets, F_is_octets.kp, F_is_octets.bindsN fun _ _ _ _ _ _ us hl => match us, hl with | [_], _ => rfl⟩
  have G_is_octets_of : Fg P w K mg base CX0 3 _ fd_is_octets_of ["value", "count"] (spOctOf K) := ok_octets_of (F := F_is_octets_of) (T := T) (C_is_list := C_is_list_1) (C_is_octets := C_is_octets_2)
  have C_is_octets_of_4 : Cal P w K mg base CX0 4 "is_octets_of" ["value", "count"] (spOctOf K) := ⟨_, fd_is_octets_of, G_is_octets_of.le (by omega), g_is_octets_of, F_is_octets_of.kp, F_is_octets_of.bindsN fun _ _ _ _ _ _ us hl => match us, hl with | [_, _], _ => rfl⟩
  have G_Chip__write : Fg P w K mg base (CX P w) 8 _ fd_Chip__write ["self", "block", "page", "octets"] (spWr K (He.ga K "PowerCut")) := ok_write (F := F_Chip__write) (T := T) (TC := TC) (M_Chip___check_block := M_Chip___check_block_3) (M_Chip___check_page := M_Chip___check_page_3) (C_is_octets_of := C_is_octets_of_4) (M_Chip___do_op := M_Chip___do_op_7)
  have M_Chip__erase_8 : CalM P w K mg base (CX P w) 8 (Ch K) "erase" ["self", "block"] (spEr K (He.ga K "PowerCut")) := ⟨_, fd_Chip__erase, G_Chip__erase.le (by omega), kc, He.meth_ok (c.fact 91 (f := .meth "Chip" "erase") rfl), F_Chip__erase.bindsN fun _ _ _ _ _ _ us hl => match us, hl with | [_, _], _ => rfl⟩
  have M_Chip__write_8 : CalM P w K mg base (CX P w) 8 (Ch K) "write" ["self", "block", "page", "octets"] (spWr K (He.ga K "PowerCut")) := ⟨_, fd_Chip__write, G_Chip__write.le (by omega), kc, He.meth_ok (c.fact 92 (f := .meth "Chip" "write") rfl), F_Chip__write.bindsN fun _ _ _ _ _ _ us hl => match us, hl with | [_, _, _, _], _ => rfl⟩
  have G__law_done : Fg P w K mg base CX0 9 _ fd__law_done ["_law_chip", "_law_deed_here"] (spDone K (He.ga K "PowerCut")) := ok_done (F := F__law_done) (T := T) (xm := xm) (E_PowerCut := E_PowerCut) (M_Chip__erase := M_Chip__erase_8) (M_Chip__write := M_Chip__write_8)
  have G__law_due : Fg P w K mg base CX0 1 _ fd__law_due ["_law_pages_here", "_law_deed_here"] (spDue K) := ok_due (F := F__law_due) (T := T)
  have G__law_is_between : Fg P w K mg base CX0 1 _ fd__law_is_between ["_law_old", "_law_now", "_law_due_here"] (spBtw K) := ok_between (F := F__law_is_between) (T := T)
  have C__law_counts_5 : Cal P w K mg base CX0 5 "_law_counts" ["_law_chip", "_law_blocks"] (spCounts K) := ⟨_, fd__law_counts, G__law_counts.le (by omega), g__law_counts, F__law_counts.kp, F__law_counts.bindsN fun _ _ _ _ _ _ us hl => match us, hl with | [_, _], _ => rfl⟩
  have C__law_pages_5 : Cal P w K mg base CX0 5 "_law_pages" ["_law_chip", "_law_blocks"] (spPages K) := ⟨_, fd__law_pages, G__law_pages.le (by omega), g__law_pages, F__law_pages.kp, F__law_pages.bindsN fun _ _ _ _ _ _ us hl => match us, hl with | [_, _], _ => rfl⟩
  have M_Chip__cut_4 : CalM P w K mg base CX0 4 (Ch K) "cut" ["self", "op", "mask"] (spCut K) := ⟨_, fd_Chip__cut, G_Chip__cut.le (by omega), kc, He.meth_ok (c.fact 86 (f := .meth "Chip" "cut") rfl), F_Chip__cut.bindsN fun _ _ _ _ _ _ us hl => match us, hl with | [_, _, _], _ => rfl⟩
  have M_Chip__fail_4 : CalM P w K mg base CX0 4 (Ch K) "fail" ["self", "op", "mask"] (spFail K) := ⟨_, fd_Chip__fail, G_Chip__fail.le (by omega), kc, He.meth_ok (c.fact 87 (f := .meth "Chip" "fail") rfl), F_Chip__fail.bindsN fun _ _ _ _ _ _ us hl => match us, hl with | [_, _, _], _ => rfl⟩
  have C__law_done_9 : Cal P w K mg base CX0 9 "_law_done" ["_law_chip", "_law_deed_here"] (spDone K (He.ga K "PowerCut")) := ⟨_, fd__law_done, G__law_done.le (by omega), g__law_done, F__law_done.kp, F__law_done.bindsN fun _ _ _ _ _ _ us hl => match us, hl with | [_, _], _ => rfl⟩
  have C__law_due_1 : Cal P w K mg base CX0 1 "_law_due" ["_law_pages_here", "_law_deed_here"] (spDue K) := ⟨_, fd__law_due, G__law_due.le (by omega), g__law_due, F__law_due.kp, F__law_due.bindsN fun _ _ _ _ _ _ us hl => match us, hl with | [_, _], _ => rfl⟩
  have C__law_is_between_1 : Cal P w K mg base CX0 1 "_law_is_between" ["_law_old", "_law_now", "_law_due_here"] (spBtw K) := ⟨_, fd__law_is_between, G__law_is_between.le (by omega), g__law_is_between, F__law_is_between.kp, F__law_is_between.bindsN fun _ _ _ _ _ _ us hl => match us, hl with | [_, _, _], _ => rfl⟩
  have G__law_step_right : Fg P w K mg base CX0 10 _ fd__law_step_right ["_law_chip", "_law_blocks", "_law_deed_here", "_law_mask_here", "_law_kind", "_law_is_bad"] (spStep K) := ok_step (F := F__law_step_right) (T := T) (TC := TC) (C__law_counts := C__law_counts_5) (C__law_pages := C__law_pages_5) (M_Chip__cut := M_Chip__cut_4) (M_Chip__fail := M_Chip__fail_4) (C__law_done := C__law_done_9) (C__law_due := C__law_due_1) (C__law_is_between := C__law_is_between_1)
  have G__law_mask : Fg P w K mg base CX0 2 _ fd__law_mask ["_law_box_here"] spMask := ok_mask (F := F__law_mask) (T := T) (C__law_take := C__law_take_1)
  have G__is_shape : Fg P w K mg base CX0 4 _ fd__is_shape ["blocks", "pages", "bad"] spShape := ok_shape (F := F__is_shape) (T := T) (C_is_bad_count := C_is_bad_count_3) (C_is_page_count := C_is_page_count_3) (C_is_block_count := C_is_block_count_3)
  have G__part_size : Fg P w K mg base CX0 1 _ fd__part_size ["octets"] (spSize K) := ok_size (F := F__part_size) (T := T)
  have C__part_size_1 : Cal P w K mg base CX0 1 "_part_size" ["octets"] (spSize K) := ⟨_, fd__part_size, G__part_size.le (by omega), g__part_size, F__part_size.kp, F__part_size.bindsN fun _ _ _ _ _ _ us hl => match us, hl with | [_], _ => rfl⟩
  have G__block_parts : Fg P w K mg base CX0 2 _ fd__block_parts ["octets"] (spParts K) := ok_parts (F := F__block_parts) (T := T) (C__part_size := C__part_size_1)
  have G_number_told_by : Fg P w K mg base CX0 1 _ fd_number_told_by ["octets"] (spNum K) := ok_told (F := F_number_told_by) (T := T)
  have C_number_told_by_1 : Cal P w K mg base CX0 1 "number_told_by" ["octets"] (spNum K) := ⟨_, fd_number_told_by, G_number_told_by.le (by omega), g_number_told_by, F_number_told_by.kp, F_number_told_by.bindsN fun _ _ _ _ _ _ us hl => match us, hl with | [_], _ => rfl⟩
  have G_number_in : Fg P w K mg base CX0 5 _ fd_number_in ["octets"] (spNum K) := ok_num (F := F_number_in) (T := T) (C__check_octets := C__check_octets_4) (C_number_told_by := C_number_told_by_1)
  have C__is_shape_4 : Cal P w K mg base CX0 4 "_is_shape" ["blocks", "pages", "bad"] spShape := ⟨_, fd__is_shape, G__is_shape.le (by omega), g__is_shape, F__is_shape.kp, F__is_shape.bindsN fun _ _ _ _ _ _ us hl => match us, hl with | [_, _, _], _ => rfl⟩
  have C__block_parts_2 : Cal P w K mg base CX0 2 "_block_parts" ["octets"] (spParts K) := ⟨_, fd__block_parts, G__block_parts.le (by omega), g__block_parts, F__block_parts.kp, F__block_parts.bindsN fun _ _ _ _ _ _ us hl => match us, hl with | [_], _ => rfl⟩
  have C_number_in_5 : Cal P w K mg base CX0 5 "number_in" ["octets"] (spNum K) := ⟨_, fd_number_in, G_number_in.le (by omega), g_number_in, F_number_in.kp, F_number_in.bindsN fun _ _ _ _ _ _ us hl => match us, hl with | [_], _ => rfl⟩
  have G__is_image : Fg P w K mg base CX0 6 _ fd__is_image ["value"] (spIsImg K) := ok_is_image (F := F__is_image) (T := T) (C__is_shape := C__is_shape_4) (C_is_octets := C_is_octets_3) (C__part_size := C__part_size_1) (C__block_parts := C__block_parts_2) (C_number_in := C_number_in_5)
  have C__is_image_6 : Cal P w K mg base CX0 6 "_is_image" ["value"] (spIsImg K) := ⟨_, fd__is_image, G__is_image.le (by omega), g__is_image, F__is_image.kp, F__is_image.bindsN fun _ _ _ _ _ _ us hl => match us, hl with | [_], _ => rfl⟩
  have N_Chip_4 : Mak P w K mg base CX0 4 "Chip" (Ch K) ["self", "blocks", "pages", "bad"] (spInitC K) := ⟨_, fd_Chip____init__, G_Chip____init__.le (by omega), He.mkr_ok (c.fact 94 (f := .mkr "Chip") rfl), gChip, F_Chip____init__.bindsN fun _ _ _ _ _ _ us hl => match us, hl with | [_, _, _, _], _ => rfl⟩
  have G_read_image : Fg P w K mg base CX0 7 _ fd_read_image ["octets"] (spReadI K) := ok_read_image (F := F_read_image) (T := T) (TC := TC) (C__is_image := C__is_image_6) (N_Chip := N_Chip_4) (C_number_in := C_number_in_5) (C__block_parts := C__block_parts_2)
  have G_octets_telling : Fg P w K mg base CX0 1 _ fd_octets_telling ["number", "count"] spInO := ok_tell (F := F_octets_telling) (T := T)
  have C_octets_telling_1 : Cal P w K mg base CX0 1 "octets_telling" ["number", "count"] spInO := ⟨_, fd_octets_telling, G_octets_telling.le (by omega), g_octets_telling, F_octets_telling.kp, F_octets_telling.bindsN fun _ _ _ _ _ _ us hl => match us, hl with | [_, _], _ => rfl⟩
  have G_in_octets : Fg P w K mg base CX0 3 _ fd_in_octets ["number", "count"] spInO := ok_ino (F := F_in_octets) (T := T) (C_is_int := C_is_int_1) (C_is_int_from := C_is_int_from_2) (C_octets_telling := C_octets_telling_1)
  have C_in_octets_3 : Cal P w K mg base CX0 3 "in_octets" ["number", "count"] spInO := ⟨_, fd_in_octets, G_in_octets.le (by omega), g_in_octets, F_in_octets.kp, F_in_octets.bindsN fun _ _ _ _ _ _ us hl => match us, hl with | [_, _], _ => rfl⟩
  have G__four_octets : Fg P w K mg base CX0 4 _ fd__four_octets ["number"] spFour := ok_four (F := F__four_octets) (T := T) (C_in_octets := C_in_octets_3)
  have G_Chip__is_bad : Fg P w K mg base CX0 4 _ fd_Chip__is_bad ["self", "block"] (spIsBad K) := ok_is_bad (F := F_Chip__is_bad) (T := T) (TC := TC) (M_Chip___check_block := M_Chip___check_block_3)
  have C__four_octets_4 : Cal P w K mg base CX0 4 "_four_octets" ["number"] spFour := ⟨_, fd__four_octets, G__four_octets.le (by omega), g__four_octets, F__four_octets.kp, F__four_octets.bindsN fun _ _ _ _ _ _ us hl => match us, hl with | [_], _ => rfl⟩
  have M_Chip__is_bad_4 : CalM P w K mg base CX0 4 (Ch K) "is_bad" ["self", "block"] (spIsBad K) := ⟨_, fd_Chip__is_bad, G_Chip__is_bad.le (by omega), kc, He.meth_ok (c.fact 93 (f := .meth "Chip" "is_bad") rfl), F_Chip__is_bad.bindsN fun _ _ _ _ _ _ us hl => match us, hl with | [_, _], _ => rfl⟩
  have G_image : Fg P w K mg base CX0 5 _ fd_image ["chip"] (spImage K) := ok_image (F := F_image) (T := T) (TC := TC) (TI := TI) (C__four_octets := C__four_octets_4) (M_Chip__erases := M_Chip__erases_4) (M_Chip__is_bad := M_Chip__is_bad_4)
  have C__law_step_right_10 : Cal P w K mg base CX0 10 "_law_step_right" ["_law_chip", "_law_blocks", "_law_deed_here", "_law_mask_here", "_law_kind", "_law_is_bad"] (spStep K) := ⟨_, fd__law_step_right, G__law_step_right.le (by omega), g__law_step_right, F__law_step_right.kp, F__law_step_right.bindsN fun _ _ _ _ _ _ us hl => match us, hl with | [_, _, _, _, _, _], _ => rfl⟩
  have C__law_mask_2 : Cal P w K mg base CX0 2 "_law_mask" ["_law_box_here"] spMask := ⟨_, fd__law_mask, G__law_mask.le (by omega), g__law_mask, F__law_mask.kp, F__law_mask.bindsN fun _ _ _ _ _ _ us hl => match us, hl with | [_], _ => rfl⟩
  have G__law_frozen_right : Fg P w K mg base CX0 11 _ fd__law_frozen_right ["_law_box_here", "_law_chip", "_law_blocks", "_law_block"] (spFrozen K) := ok_frozen (F := F__law_frozen_right) (T := T) (C__law_take := C__law_take_1) (C__law_step_right := C__law_step_right_10) (C__law_mask := C__law_mask_2) (M_Chip__is_bad := M_Chip__is_bad_4)
  have C__law_deed_2 : Cal P w K mg base CX0 2 "_law_deed" ["_law_box_here", "_law_blocks"] spDeed := ⟨_, fd__law_deed, G__law_deed.le (by omega), g__law_deed, F__law_deed.kp, F__law_deed.bindsN fun _ _ _ _ _ _ us hl => match us, hl with | [_, _], _ => rfl⟩
  have C_read_image_7 : Cal P w K mg base CX0 7 "read_image" ["octets"] (spReadI K) := ⟨_, fd_read_image, G_read_image.le (by omega), g_read_image, F_read_image.kp, F_read_image.bindsN fun _ _ _ _ _ _ us hl => match us, hl with | [_], _ => rfl⟩
  have C_image_5 : Cal P w K mg base CX0 5 "image" ["chip"] (spImage K) := ⟨_, fd_image, G_image.le (by omega), g_image, F_image.kp, F_image.bindsN fun _ _ _ _ _ _ us hl => match us, hl with | [_], _ => rfl⟩
  have C__law_frozen_right_11 : Cal P w K mg base CX0 11 "_law_frozen_right" ["_law_box_here", "_law_chip", "_law_blocks", "_law_block"] (spFrozen K) := ⟨_, fd__law_frozen_right, G__law_frozen_right.le (by omega), g__law_frozen_right, F__law_frozen_right.kp, F__law_frozen_right.bindsN fun _ _ _ _ _ _ us hl => match us, hl with | [_, _, _, _], _ => rfl⟩
  have G__law_right : Fg P w K mg base CX0 12 _ fd__law_right ["_law_box_here"] spRight := ok_right (F := F__law_right) (T := T) (TC := TC) (C__law_take := C__law_take_1) (N_Chip := N_Chip_4) (C__law_deed := C__law_deed_2) (C__law_step_right := C__law_step_right_10) (C__law_mask := C__law_mask_2) (C_read_image := C_read_image_7) (C_image := C_image_5) (M_Chip__bad_blocks := M_Chip__bad_blocks_1) (C__law_frozen_right := C__law_frozen_right_11) (C__law_done := C__law_done_9) (C__law_pages := C__law_pages_5)
  have G__law_box : Fg P w K mg base CX0 1 _ fd__law_box ["_law_great"] spBox := ok_box (F := F__law_box) (T := T)
  have G__law_cell : Fg P w K mg base CX0 1 _ fd__law_cell ["_law_script", "_law_k"] (spCell K) := ok_cell (F := F__law_cell) (T := T)
  have C__law_right_12 : Cal P w K mg base CX0 12 "_law_right" ["_law_box_here"] spRight := ⟨_, fd__law_right, G__law_right.le (by omega), g__law_right, F__law_right.kp, F__law_right.bindsN fun _ _ _ _ _ _ us hl => match us, hl with | [_], _ => rfl⟩
  have C__law_box_1 : Cal P w K mg base CX0 1 "_law_box" ["_law_great"] spBox := ⟨_, fd__law_box, G__law_box.le (by omega), g__law_box, F__law_box.kp, F__law_box.bindsN fun _ _ _ _ _ _ us hl => match us, hl with | [_], _ => rfl⟩
  have C__law_cell_1 : Cal P w K mg base CX0 1 "_law_cell" ["_law_script", "_law_k"] (spCell K) := ⟨_, fd__law_cell, G__law_cell.le (by omega), g__law_cell, F__law_cell.kp, F__law_cell.bindsN fun _ _ _ _ _ _ us hl => match us, hl with | [_, _], _ => rfl⟩
  exact ok_law (F := F_law) (T := T) (C__law_right := C__law_right_12) (C__law_box := C__law_box_1) (C__law_cell := C__law_cell_1)
end K6
open PySem PySem.W PySem.Calls PyProof.Rows
theorem PySem.Challenge.cw_onewaybits_k06_whole_cut_again_and_done_holds : PySem.Challenge.rw_onewaybits_k06_whole_cut_again_and_done.Holds := by
  w_on; o_law
  refine HandSHeadRun.head_any (r := OpenLaw.row PySem.Challenge.rw_onewaybits_k06_whole_cut_again_and_done) (q := view (OpenLaw.row PySem.Challenge.rw_onewaybits_k06_whole_cut_again_and_done).prog [68]) (H := K6.hk) (ob := K6.ob) (M := 30000) (loose := K6.lns) (d := HandSHeadRun.topDef (OpenLaw.row PySem.Challenge.rw_onewaybits_k06_whole_cut_again_and_done).prog 68) (kwd := []) K6.ob_eq
    (by kernel_rfl) (fun s => by kernel_rfl) K6.run (by kernel_rfl) (by kernel_rfl) (by kernel_rfl) (by rfl) (by first | assumption | decide +kernel) (by decide +kernel) ⟨rfl, rfl, rfl, rfl, rfl, by decide +kernel⟩ ?hw ?hc
  case hw => w_witness2
  case hc =>
    refine VB.law_walk (l := PySem.Challenge.rw_onewaybits_k06_whole_cut_again_and_done) (n := 63) (k := 13) (x := "_law_script") (CX := L2.CX0) rfl (by decide) (by kernel_rfl) ⟨⟨rfl, by decide, by decide⟩, rfl⟩ ?F (fun _ _ _ _ z => z)
    intro w mg fa h Y G hmg0
    obtain ⟨K, KX, c⟩ := Y
    have hmg : mg ("law" : PySem.Str) = some (.ref fa) := by
      have e : (HandSHeadRun.topDef (OpenLaw.row PySem.Challenge.rw_onewaybits_k06_whole_cut_again_and_done).prog 68).name = ("law" : PySem.Str) := by kernel_rfl
      rw [← e]
      exact hmg0
    obtain ⟨fd, hb, hF⟩ := K6.facts (P := (PySem.Challenge.rw_onewaybits_k06_whole_cut_again_and_done).prog) (w := w) KX G hmg c
    exact ⟨K, fd, (K6.spLaw K), KX, hb, fun H a ns hl _ hS => ⟨a, ns, rfl, hS, by omega, fun _ => rfl⟩, hF⟩
