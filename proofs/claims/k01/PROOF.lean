import PyProof.Rows.All
import Wide.All
import OpenK.AllK
import Wide.FinOn
import HandS.ForMost
import HandS.Evl
import HandS.IsInst
import HandS.Walk
import HandS.Conv
import HandS.TupMul
import HandS.WideBits
import HandS.Wide
import HandS.Defaults
import HandS.HeadHook2
import HandS.RaiseMore
import HandS.Zip
import HandS.Style
import HandS.SetFor
import HandS.Text
import PyProof.ReprText
import PyProof.Rows.StrJoinMade
import KE.DataMinMax
import HandS.Zip0
import KE.KxField
import HandS.FStr
import KE.BitLaws
import HandS.Head0
import HandS.Head1
import HandS.Head2
import HandS.HeadEnd
import HandS.HeadHook1
import HandS.HeadHook3
import HandS.HeadHook4
import PySem.Challenge.RW_onewaybits_k01_bits_that_turn
set_option Elab.async false
set_option linter.all false
set_option maxRecDepth 100000
set_option maxHeartbeats 4000000
namespace VB
open PySem PySem.Spec PyProof.Rows L2

/-! ## 1. Room, and no display under way -/
structure Rm (k : Nat) (A : Around) : Prop where
  rm : Room k A
  gd : A.guards = some []
theorem Rm.le {j k : Nat} {A : Around} (r : Rm k A) (h : j ≤ k := by omega) : Rm j A := ⟨r.rm.mono h, r.gd⟩
theorem Rm.down {k : Nat} {A : Around} (r : Rm (k + 1) A) (e : Env) : Rm k (A.deeper e) := ⟨r.rm.deeper e, r.gd⟩

section
variable {P : Program} {w : World} {K : PySem.W.Frag} {mg : Str → Option Value} {base : Heap} {CX : CXT} {k : Nat}

/-- a def's promise, kept wherever there is room and no display is under way -/
structure Fg (P : Program) (w : World) (K : PySem.W.Frag) (mg : Str → Option Value) (base : Heap)
    (CX : CXT) (k : Nat) (f : Addr) (fd : FuncData) (ps : List Str) (sp : Sp) : Prop where
  cnt : ∀ vs H Q E, sp vs H Q E → vs.length = ps.length
  go : ∀ (A : Around) (outer : List Env) (s : Shared) (H : Hp) (args : Args) (us : List Value) (vs : List V)
    (Q : VK) (E : XK), Rm k A → Env0 P w K mg base A outer s H → BindsTo s fd args (ps.zip us) →
    Vals vs us → sp vs H Q E → codeAny (model P w) A (.call (.ref f) args) (CR CX outer P w H s Q E) s

theorem Fg.le {j : Nat} {f : Addr} {fd : FuncData} {ps : List Str} {sp : Sp}
    (F : Fg P w K mg base CX j f fd ps sp) (h : j ≤ k) : Fg P w K mg base CX k f fd ps sp :=
  ⟨F.cnt, fun A o s H a us vs Q E r => F.go A o s H a us vs Q E (r.le h)⟩

/-- a def by its body -/
theorem fg_of {x qual : Str} {params : Arguments} {body : List Stmt} {scope : Scope} {dvs : List V}
    {kws : List (Str × V)} {f : Addr} {fd : FuncData} {N ps : List Str} {sp : Sp}
    (F : FunD K x qual params body scope dvs kws f fd) (S : FnScope N ps scope)
    (cnt : ∀ vs H Q E, sp vs H Q E → vs.length = ps.length)
    (hb : ∀ (cdv : Value) (A : Around) (outer : List Env) (s : Shared) (H : Hp) (vs : List V) (Q : VK) (E : XK),
      Rm k (A.deeper (envOfC qual scope s.heap.objs.size f cdv)) → sp vs H Q E →
      ∃ t, PSs (cxOf CX P w K mg base N qual scope f cdv A outer s H E) body t ∧
        t { nx := fun _ H' => Q .non H', rt := Q } (start N vs) H) :
    Fg P w K mg base CX (k + 1) f fd ps sp := by
  obtain ⟨oc, od, dV, kV, doc, pm, an, cdv, ct, osl, rfl, lk, hcd, _, _⟩ := F.ex
  refine ⟨cnt, ?_⟩
  intro A outer s H args us vs Q E hr e0 hbind hv hsp
  have kin : K.In s.heap := e0.mod.kin.keeps (fun b o e => (e0.bs b o e).1)
  have nol : s.heap.NoLimit := e0.mod.nolimit.keeps (fun b o e => (e0.bs b o e).1)
  have hk : ∀ y ∈ ps.zip us, scope.names.lookup y.1 = some .local ∨
      (scope.names.lookup y.1 = some .cell ∧
        ((cellsFrom (s.heap.objs.size + 1) scope.names []).lookup y.1).isSome = true) := by
    rintro ⟨n, v⟩ hy
    cases S.par n (List.of_mem_zip hy).1 with
    | inl q => exact .inl q
    | inr q => exact .inr ⟨q, PySem.W.cellsFrom_some _ _ _ (.inl q)⟩
  refine codeAny_call_function hr.rm.depth (kin _ _ lk) rfl S.co S.gen rfl
    (PySem.W.codeRec_of kin hcd) (hbind _ _ _ _ (wpAny_newFunctionEnv_cells S.kind hk ?_))
  intro env he s1 x
  subst he
  refine ⟨nol.keeps x.toInCall.keep, codeAny_func ?_⟩
  obtain ⟨t, ht, hq⟩ := hb cdv A outer s H vs Q E (hr.down _) hsp
  have I := inv_start (CX := CX) (E := E) S hr.rm.hd e0 (cnt _ _ _ _ hsp) hv x
  refine wpAny_mono (ht.run [] s1 (start N vs) H _ I hq) ?_ (fun e s' hs => hs)
  intro fl s' hs
  cases fl with
  | ret u =>
    obtain ⟨v, σ', H', J, rv, q⟩ := hs
    exact ⟨v, H', J.os, J.bare, J.base, J.hok, rv, q⟩
  | next =>
    obtain ⟨σ', H', J, q⟩ := hs
    exact ⟨.non, H', J.os, J.bare, J.base, J.hok, rfl, q⟩
  | brk => exact (hs.choose_spec.choose_spec.2 : False).elim
  | cont => exact (hs.choose_spec.choose_spec.2 : False).elim

/-! ## 2. Calls by name -/
/-- a def of the module, told by its name -/
structure Cal (P : Program) (w : World) (K : PySem.W.Frag) (mg : Str → Option Value) (base : Heap)
    (CX : CXT) (k : Nat) (x : Str) (ps : List Str) (sp : Sp) : Prop where
  ex : ∃ (f : Addr) (fd : FuncData), Fg P w K mg base CX k f fd ps sp ∧ mg x = some (.ref f) ∧
    PySem.W.keepIn K (.ref f) = true ∧ Binds K fd ps []
/-- .. called with keywords -/
structure CalK (P : Program) (w : World) (K : PySem.W.Frag) (mg : Str → Option Value) (base : Heap)
    (CX : CXT) (k : Nat) (x : Str) (ps : List Str) (n : Nat) (ks : List Str)
    (g : List Value → List Value → List Value) (gV : List V → List V → List V) (sp : Sp) : Prop where
  ex : ∃ (f : Addr) (fd : FuncData), Fg P w K mg base CX k f fd ps sp ∧ mg x = some (.ref f) ∧
    PySem.W.keepIn K (.ref f) = true ∧ KBn K fd ps n ks g gV
end

section
variable {X : Cx} {CX : CXT} {k n : Nat} {ps ks : List Str} {sp : Sp} {E : XK} {x : Str} {p pos : Pos}
  {e : Expr} {es : List Expr} {kws : List Keyword} {t tk : TA}
  {g : List Value → List Value → List Value} {gV : List V → List V → List V}

/-- the end of a call, where the caller stands -/
theorem back {pins : List (Addr × Obj)} {σ : L2.St} {H : Hp} {s s' : Shared} {Q : VK} {E : XK} {r : Result}
    (hx : Passes CX X E) (I : Inv X pins σ H s) (hq : CR CX X.stack X.prog X.w H s Q E r s') :
    match r with
    | .ok (.ret u) => EP X pins σ Q u s'
    | .ok _ => False
    | .error e => X.xe e s' := by
  cases r with
  | error e => exact hx pins σ H s e s' I hq
  | ok fl =>
    cases fl with
    | ret u => exact I.after hq
    | next => exact hq
    | brk => exact hq
    | cont => exact hq

theorem enter {f : Addr} {fd : FuncData} {pins : List (Addr × Obj)} {σ : L2.St} {H : Hp} {s : Shared} {Q : VK}
    {args : Args} {us : List Value} {vs : List V} (F : Fg X.prog X.w X.K X.mg X.base CX k f fd ps sp)
    (hr : Rm k X.A) (hx : Passes CX X E) (I : Inv X pins σ H s) (hb : BindsTo s fd args (ps.zip us))
    (r : Vals vs us) (h : sp vs H Q E) :
    wpAny (model X.prog X.w) X.A (call (.ref f) args.pos args.kw) (EP X pins σ Q) X.xe s := by
  refine wpAny_call (codeAny_mono (F.go X.A X.stack s H args us vs Q E hr I.env0 hb r h) ?_)
  intro r s' hq
  have z := back hx I hq
  cases r with
  | error e => exact z
  | ok fl =>
    cases fl with
    | ret u => exact z
    | next => exact z.elim
    | brk => exact z.elim
    | cont => exact z.elim

theorem pe_cal (C : Cal X.prog X.w X.K X.mg X.base CX k x ps sp) (hr : Rm k X.A) (hx : Passes CX X E)
    (ha : PA X (e :: es) t) (hg : Gl X x := by rfl) (hdb : (x == ("__debug__" : Str)) = false := by decide)
    (he : starEach (e :: es) X.env = (false, eval e X.env) :: starEach es X.env := by rfl)
    (hpl : (backTo pos (starEach es X.env)).any (·.1) = false := by rfl) :
    PE X (.Call (.Name x p) (e :: es) [] pos) (tCall sp [] E t) := by
  obtain ⟨f, fd, F, hm, hk, hb⟩ := C.ex
  constructor
  intro pins s σ H Q I h
  refine wpAny_Call_Name_kw (ld_glob I hg hm ?_ hdb)
  refine PySem.W.callWith_K (h₀ := X.base) I.ok.mod.kin hk (thn (ha.run pos pins s σ H _ I h) ?_) he hpl
  rintro us s1 ⟨vs, H1, I1, r, q⟩
  have q : sp (vs ++ []) H1 Q E := q
  rw [List.append_nil] at q
  have l : (us ++ []).length = ps.length := by
    rw [List.append_nil, ← r.length]
    exact F.cnt _ _ _ _ q
  have b := hb s1 us I1.kIn l
  rw [List.append_nil] at b
  exact ⟨I1.kIn, enter (args := ⟨us, []⟩) F hr hx I1 b r q⟩

theorem pe_cal0 (C : Cal X.prog X.w X.K X.mg X.base CX k x ps sp) (hr : Rm k X.A) (hx : Passes CX X E)
    (hg : Gl X x := by rfl) (hdb : (x == ("__debug__" : Str)) = false := by decide) :
    PE X (.Call (.Name x p) [] [] pos) (tCall sp [] E tNil) := by
  obtain ⟨f, fd, F, hm, hk, hb⟩ := C.ex
  constructor
  intro pins s σ H Q I h
  have q : sp [] H Q E := h
  refine wpAny_Call_Name_kw (ld_glob I hg hm ?_ hdb)
  refine PySem.W.callWith_K0 I.kIn hk ?_
  have b := hb s [] I.kIn (F.cnt _ _ _ _ q)
  exact enter (args := ⟨[], []⟩) F hr hx I b .nil q

/-- f(k = v, ..): no value by position -/
theorem pe_calk (C : CalK X.prog X.w X.K X.mg X.base CX k x ps 0 ks g gV sp) (hr : Rm k X.A) (hx : Passes CX X E)
    (hkw : PK X kws tk) (hg : Gl X x := by rfl)
    (hall : (backToKw pos (keywordEach kws X.env)).all (·.1.isSome) = true := by rfl)
    (hks : (backToKw pos (keywordEach kws X.env)).filterMap (·.1) = ks := by rfl)
    (hdb : (x == ("__debug__" : Str)) = false := by decide)
    (hpl : ((backTo pos (starEach [] X.env)).any (·.1) || (backToKw pos (keywordEach kws X.env)).any (·.1.isNone)) = false := by rfl) :
    PE X (.Call (.Name x p) [] kws pos) (tCallN 0 ks.length sp gV E tNil tk) := by
  obtain ⟨f, fd, F, hm, hk, hb⟩ := C.ex
  constructor
  intro pins s σ H Q I h
  refine wpAny_Call_Name_kw (ld_glob I hg hm ?_ hdb)
  have h : tk σ H fun zs H2 => ([] : List V).length = 0 ∧ zs.length = ks.length ∧ sp (gV [] zs) H2 Q E := h
  refine PySem.W.callWith_KW0 (h₀ := X.base) I.ok.mod.kin hk hall (thn (hkw.run pos pins s σ H _ I h) ?_) hpl
  rintro ws s2 ⟨zs, H2, I2, rz, _, l2, q2⟩
  refine ⟨I2.kIn, ?_⟩
  rw [hks]
  exact enter (args := ⟨[], ks.zip ws⟩) F hr hx I2
    (hb.to s2 [] ws I2.kIn rfl (rz.length.symm.trans l2)) (hb.rel .nil rz) q2
/-- f(e, .., k = v, ..) -/
theorem pe_calpk (C : CalK X.prog X.w X.K X.mg X.base CX k x ps n ks g gV sp) (hr : Rm k X.A) (hx : Passes CX X E)
    (ha : PA X (e :: es) t) (hkw : PK X kws tk) (hg : Gl X x := by rfl)
    (hall : (backToKw pos (keywordEach kws X.env)).all (·.1.isSome) = true := by rfl)
    (hks : (backToKw pos (keywordEach kws X.env)).filterMap (·.1) = ks := by rfl)
    (hdb : (x == ("__debug__" : Str)) = false := by decide)
    (he : starEach (e :: es) X.env = (false, eval e X.env) :: starEach es X.env := by rfl)
    (hpl : ((backTo pos (starEach (e :: es) X.env)).any (·.1) || (backToKw pos (keywordEach kws X.env)).any (·.1.isNone)) = false := by rfl) :
    PE X (.Call (.Name x p) (e :: es) kws pos) (tCallN n ks.length sp gV E t tk) := by
  obtain ⟨f, fd, F, hm, hk, hb⟩ := C.ex
  constructor
  intro pins s σ H Q I h
  refine wpAny_Call_Name_kw (ld_glob I hg hm ?_ hdb)
  refine PySem.W.callWith_KW (h₀ := X.base) I.ok.mod.kin hk hall (thn (ha.run pos pins s σ H _ I h) ?_) hpl he
  rintro us s1 ⟨vs, H1, I1, r, q⟩
  refine thn (hkw.run pos pins s1 σ H1 _ I1 q) ?_
  rintro ws s2 ⟨zs, H2, I2, rz, l1, l2, q2⟩
  refine ⟨I2.kIn, ?_⟩
  rw [hks]
  exact enter (args := ⟨us, ks.zip ws⟩) F hr hx I2
    (hb.to s2 us ws I2.kIn (r.length.symm.trans l1) (rz.length.symm.trans l2)) (hb.rel r rz) q2
end

/-! ## 3. The law's own call -/
theorem first_call {P : Program} {w : World} {K : PySem.W.Frag} {mg mb : Str → Option Value} {CX : CXT} {k : Nat}
    {fa a : Addr} {fd : FuncData} {x : Str} {sp : Sp} {s : Shared} {vs : List Value} {ns : List Int}
    (KX : K.In s.heap) (hns : s.heap.Ns mainGlobals mg) (hb : s.heap.Ns builtinsNs mb)
    (hbb : ∀ x : Str, x ≠ "__name__" → mb x = bootBuiltins x) (hlim : s.heap.NoLimit) (hg : s.gens = #[])
    (ha : s.heap.get? a = some { cls := .type "list", data := .seq vs.toArray }) (hi : IntsAre vs ns)
    (hl : ns.length ≤ sizeLine) (hr : Rm k callerA)
    (F : ∀ base : Heap, K.In base → base.Ns mainGlobals mg → Fg P w K mg base CX k fa fd [x] sp)
    (hbind : ∀ (s : Shared) (u : Value), BindsTo s fd ⟨[u], []⟩ [(x, u)])
    (hsp : ∀ H : Hp, Only H → SqL K H a (ns.map V.int) → sp [.ref a] H (fun v _ => v = .bl true) fun _ _ _ => False)
    (hCX : ∀ H e s', CX [] H s (fun _ _ _ => False) e s' → False) :
    codeAny (model P w) callerA (.call (.ref fa) ⟨[.ref a], []⟩)
      (fun r s' => r = .ok (.ret (.bool true)) ∧ OldK s.heap s'.heap ∧ s'.os = s.os ∧ AllBare s'.gens) s := by
  -- what is tracked at first: the script at most
  let o : Obj := { cls := .type "list", data := .seq vs.toArray }
  have main : ∀ H : Hp, (∀ b, H b = none ∨ (b = a ∧ H b = some (.frz o (.lst (ns.map V.int))) ∧ K.lookup a = none)) →
      SqL K H a (ns.map V.int) → HOk P w H s.heap → codeAny (model P w) callerA (.call (.ref fa) ⟨[.ref a], []⟩)
      (fun r s' => r = .ok (.ret (.bool true)) ∧ OldK s.heap s'.heap ∧ s'.os = s.os ∧ AllBare s'.gens) s := by
    intro H hH hS hok
    have dictFree : ∀ {b : Addr} {ob : Obj} {es : Array DictEntry} {ep : Nat}, s.heap.get? b = some ob →
        ob.data = .dict es ep → H b = none := by
      intro b ob es ep e d
      rcases hH b with q | ⟨rfl, q, _⟩
      · exact q
      · rw [ha] at e
        cases e
        exact nomatch d
    have nsB : ∀ {b : Addr} {m : Str → Option Value}, s.heap.Ns b m → (hidT s.heap H).Ns b m := by
      rintro b m ⟨ob, es, ep, e, d, r⟩
      exact ⟨ob, es, ep, hidT_get e (dictFree e d), d, r⟩
    have kB : K.In (hidT s.heap H) := by
      intro b ob e
      refine hidT_get (KX b ob e) ?_
      rcases hH b with q | ⟨rfl, _, q⟩
      · exact q
      · rw [e] at q
        cases q
    have lim' : (hidT s.heap H).NoLimit := by
      obtain ⟨mc, h1, h2⟩ := hlim
      exact ⟨mc, nsB h1, h2⟩
    have md : Mod K mg (hidT s.heap H) := ⟨kB, nsB hns, ⟨mb, nsB hb, hbb⟩, lim'⟩
    have nob : ∀ b ∈ frs ([] : List Env), H b = none := fun b hb => by cases hb
    have e0 : Env0 P w K mg (hidT s.heap H) callerA [] s H :=
      ⟨rfl, md, fun b ob e => of_hidT e, Nat.le_of_eq (hidT_size _ _), trivial, nob, hok, .of_eq hg⟩
    have oH : Only H := by
      intro b
      rcases hH b with q | ⟨_, q, _⟩
      · exact .inl q
      · exact .inr ⟨_, _, q⟩
    have run := (F _ kB (nsB hns)).go callerA [] s H ⟨[.ref a], []⟩ [.ref a] [.ref a] _ _ hr e0
      (hbind s (.ref a)) (.cons rfl .nil) (hsp H oH hS)
    refine codeAny_mono run ?_
    intro r s' h
    match r, h with
    | .error e, h => exact (hCX H e s' h).elim
    | .ok .next, h => exact False.elim h
    | .ok .brk, h => exact False.elim h
    | .ok .cont, h => exact False.elim h
    | .ok (.ret u), h =>
      obtain ⟨v, H', os, bare, un, hok', rv, q⟩ := h
      have q : v = .bl true := q
      subst q
      have ru : u = Value.bool true := rv
      subst ru
      refine ⟨rfl, OldK.of_keep ?_, os, bare⟩
      intro b ob e
      rcases hH b with q | ⟨_, q, _⟩
      · exact un.keep b ob e q (fun z => by cases z) (fun z => by cases z)
      · obtain ⟨e1, _⟩ := hok b _ q
        obtain ⟨e2, _⟩ := hok' b _ (un.frzs b o _ q)
        rw [e] at e1
        cases e1
        exact e2
  have rv := vals_ints hi
  cases hk : K.lookup a with
  | some ob =>
    have e := KX a ob hk
    rw [ha] at e
    cases e
    refine main (fun _ => none) (fun b => .inl rfl) (.inr ⟨_, vs.toArray, _, hk, rfl, rfl, rfl, ?_, by simpa using rv⟩) (fun b u z => by cases z)
    rw [List.size_toArray, hi.length]
    exact hl
  | none =>
    let H1 : Hp := fun b => if b = a then some (.frz o (.lst (ns.map V.int))) else none
    have at1 : H1 a = some (.frz o (.lst (ns.map V.int))) := if_pos rfl
    refine main H1 ?_ (.inl (.inr ⟨o, at1⟩)) ?_
    · intro b
      by_cases hb : b = a
      · subst hb
        exact .inr ⟨rfl, at1, hk⟩
      · exact .inl (if_neg hb)
    · intro b u z
      by_cases hb : b = a
      · subst hb
        rw [at1] at z
        cases z
        exact ⟨ha, by rw [List.length_map]; exact hl, vs, _, rv, ha⟩
      · have z' : H1 b = none := if_neg hb
        rw [z'] at z
        cases z

/-- the goal behind the head -/
theorem law_walk {l : PySem.W.OpenLaw} {n k : Nat} {q : Program} {loose : List Str} {XP : (Str → Option Value) → Heap → Prop}
    {YP : World → Heap → Prop} {d : DefRec} {CX : CXT} {x : Str}
    (hn : l.most = some n) (hn2 : n ≤ sizeLine) (hdf : d.params.defaults = []) (hr : Rm k callerA)
    (F : ∀ (w : World) (mg : Str → Option Value) (fa : Addr) (h : Heap), YP w h → h.Ns mainGlobals mg → mg d.name = some (.ref fa) →
      ∃ (K : PySem.W.Frag) (fd : FuncData) (sp : Sp), K.In h ∧ (∀ (s : Shared) (u : Value), BindsTo s fd ⟨[u], []⟩ [(x, u)]) ∧
        (∀ (H : Hp) (a : Addr) (ns : List Int), ns.length ≤ n → Only H → SqL K H a (ns.map V.int) →
          sp [.ref a] H (fun v _ => v = .bl true) fun _ _ _ => False) ∧
        ∀ base : Heap, K.In base → base.Ns mainGlobals mg → Fg l.prog w K mg base CX k fa fd [x] sp)
    (hCX : ∀ (H : Hp) (s : Shared) (e : Value) (s' : Shared), CX [] H s (fun _ _ _ => False) e s' → False) :
    PySem.W.WalkO q loose XP YP l.row.toRowW d [] (fun f vs => PySem.call f vs) := by
  refine Att.attach_call hn hdf ?_
  intro w s₀ s₁ mg mb fa o pm cd doc a vs ns G Y ho hd hcd hmg hobj hints hlen hg
  obtain ⟨K, fd, sp, KX, hb, hsp, hF⟩ := F w mg fa _ Y G.T.g hmg
  exact first_call KX G.T.g G.T.b G.T.builtins G.T.nolimit hg hobj hints (Nat.le_trans hlen hn2) hr hF hb
    (fun H hO hS => hsp H a ns hlen hO hS) (fun H e s' => hCX H s₁ e s')
end VB
namespace VB
open PySem PySem.Spec PyProof.Rows L2
mutual
theorem dp_noDict {K : PySem.W.Frag} {H : Hp} : ∀ {d : PyData} {v : V}, Dp K H v d → d.hasDict = false
  | .none, _, _ => by simp only [PyData.hasDict]
  | .bool _, _, _ => by simp only [PyData.hasDict]
  | .int _, _, _ => by simp only [PyData.hasDict]
  | .str _, _, _ => by simp only [PyData.hasDict]
  | .list ds, _, .lst _ h => by
    simp only [PyData.hasDict]
    exact dpAll_noDict h
  | .tuple ds, _, .tup _ h => by
    simp only [PyData.hasDict]
    exact dpAll_noDict h
  | .dict _, _, h => nomatch h
theorem dpAll_noDict {K : PySem.W.Frag} {H : Hp} : ∀ {ds : List PyData} {vs : List V}, DpAll K H vs ds → PyData.hasDictAll ds = false
  | [], _, _ => by simp only [PyData.hasDictAll]
  | d :: ds, _, .cons h t => by simp only [PyData.hasDictAll, dp_noDict h, dpAll_noDict t, Bool.or_self]
end
section
variable {X : Cx} {k : Nat}
/-- repr(x), x data of any depth without dicts -/
@[irreducible] def rRepr (K : PySem.W.Frag) : List V → Hp → VK → Prop := fun xs H Q => ∃ (a : Addr) (d : PyData), xs = [.ref a] ∧
  Dp K H (.ref a) d ∧ d.showable = true ∧ d.depth ≤ 60 ∧ d.shown.length ≤ sizeLine ∧ Q (.str d.shown) H
theorem call_repr (hr : Rm k X.A) : CallR X (.builtin "repr") (rRepr X.K) := by
  intro pins s σ H xs us Q I r h
  unfold rRepr at h
  obtain ⟨a, d, rfl, hd, hs, hdep, hl, q⟩ := h
  obtain ⟨u, rfl, ru⟩ := vals1 r
  obtain ⟨as, rd⟩ := Dp.reads I d _ u hd ru
  cases (show u = Value.ref a from ru)
  have hu := hr.rm.un
  refine repr_of_reads' rd hs (PyData.noDict_hsm (dp_noDict hd)) hr.gd (by omega) (fun _ _ e => e) ?_ hl
  intro h' u tk kp
  refine ⟨.str d.shown, H, ?_, ⟨u, rfl⟩, q⟩
  exact I.un (Un.kept kp) (I.hok.kept kp)
end
end VB
namespace VB
open PySem PySem.Spec PyProof.Rows L2
section
variable {X : Cx} {K : PySem.W.Frag}
def rAddU (K : PySem.W.Frag) : R2 := fun x y H Q => rI0 (fun i j => .int (i + j)) x y H Q ∨ (rCat x y H Q ∨ rCatT K x y H Q)
theorem u_add (hK : X.K = K := by rfl) : OpR X (binaryOp .Add) (rAddU K) := by
  subst hK
  exact op_add.or (op_cat.or op_catT)
def rMulU (K : PySem.W.Frag) : R2 := fun x y H Q => rI CMulX (fun i j => .int (i * j)) x y H Q ∨ (rRep x y H Q ∨ rRepT K x y H Q)
theorem u_mul (hK : X.K = K := by rfl) : OpR X (binaryOp .Mult) (rMulU K) := by
  subst hK
  exact op_mulX.or (op_rep.or op_repT)
def rEqU (K : PySem.W.Frag) : R2 := fun x y H Q => rEq x y H Q ∨ rEqD K x y H Q
theorem u_eq {k : Nat} (hr : Rm k X.A) (hK : X.K = K := by rfl) : OpR X (compareOp .Eq) (rEqU K) := by
  subst hK
  exact op_eq.or (op_eqD hr.rm.units)
def rNeU (K : PySem.W.Frag) : R2 := fun x y H Q => rNe x y H Q ∨ rNeD K x y H Q
theorem u_ne {k : Nat} (hr : Rm k X.A) (hK : X.K = K := by rfl) : OpR X (compareOp .NotEq) (rNeU K) := by
  subst hK
  exact op_ne.or (op_neD hr.rm.units)
def rSlU (K : PySem.W.Frag) : V → Option Int → Option Int → Hp → VK → Prop := fun x lo hi H Q => rSlL K x lo hi H Q ∨ (rSlT K x lo hi H Q ∨ rSlS x lo hi H Q)
theorem u_sl (hK : X.K = K := by rfl) : SlR X (rSlU K) := by
  subst hK
  exact sl_list.or (sl_tup.or sl_str)
theorem u_ix (hK : X.K = K := by rfl) : IxR X (rIx K) := by
  subst hK
  exact ix_seq
theorem u_in (hK : X.K = K := by rfl) : OpR X (compareOp .In) (rIn K false) := by
  subst hK
  exact op_in_seq
theorem u_notin (hK : X.K = K := by rfl) : OpR X (compareOp .NotIn) (rIn K true) := by
  subst hK
  exact op_notIn_seq
def rLenU (K : PySem.W.Frag) : List V → Hp → VK → Prop := fun xs H Q => ∃ x n, xs = [x] ∧ LenV K x H n ∧ Q (.int n) H
theorem u_len (hK : X.K = K := by rfl) : CallR X (.builtin "len") (rLenU K) := by
  subst hK
  exact call_len
theorem u_isi (hK : X.K = K := by rfl) : CallR X (.builtin "isinstance") (rIsi K) := by
  subst hK
  exact call_isi
theorem u_isiT (hK : X.K = K := by rfl) : CallR X (.builtin "isinstance") (rIsiT K) := by
  subst hK
  exact call_isiT
theorem u_sum (hc : X.calm = true) (hK : X.K = K := by rfl) : CallR X (.builtin "sum") (rSum K) := by
  subst hK
  exact cr_sum hc
theorem u_all (hc : X.calm = true) (hK : X.K = K := by rfl) : CallR X (.builtin "all") (rAll K) := by
  subst hK
  exact cr_all hc
theorem u_any (hc : X.calm = true) (hK : X.K = K := by rfl) : CallR X (.builtin "any") (rAny K) := by
  subst hK
  exact cr_any hc
theorem u_repr {k : Nat} (hr : Rm k X.A) (hK : X.K = K := by rfl) : CallR X (.builtin "repr") (rRepr K) := by
  subst hK
  exact call_repr hr
def rListU (K : PySem.W.Frag) : List V → Hp → VK → Prop := fun xs H Q => ∃ p ys, xs = [.ref p] ∧ (SqL K H p ys ∨ SqT K H p ys) ∧ ∀ l, H l = none → Q (.ref l) (upd H l (.lst ys))
theorem u_list (hK : X.K = K := by rfl) : CallR X (.type "list") (rListU K) := by
  subst hK
  exact call_list_of
def rTupU (K : PySem.W.Frag) : List V → Hp → VK → Prop := fun xs H Q => ∃ p ys, xs = [.ref p] ∧ ((SqL K H p ys ∧ ∀ l, H l = none → Q (.ref l) (upd H l (.tup ys))) ∨ (SqT K H p ys ∧ Q (.ref p) H))
theorem u_tup (hK : X.K = K := by rfl) : CallR X (.type "tuple") (rTupU K) := by
  subst hK
  exact call_tuple_of
theorem u_count (hK : X.K = K := by rfl) : MtR X "list.count" (rCntI K) := by
  subst hK
  exact mt_lcount
def tTru (K : PySem.W.Frag) (ta : TE) : TT := fun σ H Q => ta σ H fun x H' => ∃ k, TruV K x H' k ∧ Q k H'
theorem pt_tru {a : Expr} {ta : TE} (ha : PE X a ta) (he : ∀ whole, isTrue a X.env whole = (do let v ← whole; standAt a.pos; holding [v] (truthy v))) (hK : X.K = K := by rfl) : PT X a (tTru K ta) := by
  subst hK
  exact pt_truth ha he
theorem pi_either {tg iter : Expr} {a b : TI} (h : PI X tg iter a) (h' : PI X tg iter b) : PI X tg iter (fun σ H R => a σ H R ∨ b σ H R) := by
  constructor
  intro pins s σ H R I q
  rcases q with q | q
  · exact h.run pins s σ H R I q
  · exact h'.run pins s σ H R I q
def iSeq (K : PySem.W.Frag) (t : TE) : TI := fun σ H R => iList K t σ H R ∨ iTup K t σ H R
theorem pi_seq {tg e : Expr} {t : TE} (h : PE X e t) (hK : X.K = K := by rfl) : PI X tg e (iSeq K t) := by
  subst hK
  exact pi_either (pi_list h) (pi_tup h)
theorem pi_enu {e : Expr} {ta : TA} {p pos tpos : Pos} {elts : List Expr} {kk : Nat} (hg : Gl X "enumerate") (hm : X.mg "enumerate" = none) (ha : PA X [e] ta) (hK : X.K = K := by rfl)
    (hs : starEach [e] X.env = (false, eval e X.env) :: starEach [] X.env := by rfl) : PI X (.Tuple elts kk tpos) (.Call (.Name "enumerate" p) [e] [] pos) (iEnum K ta) := by
  subst hK
  exact pi_enum hg hm ha hs
theorem pg_tupU {es : List Expr} {k : Nat} {t : TGs} {n : Nat} {pos : Pos} (hc : X.calm = true) (h : PGs X es t) (hK : X.K = K := by rfl)
    (hn : (assignEach es X.env).length = n := by rfl) (hst : (assignEach es X.env).findIdx? (·.1) = none := by rfl) : PG X (.Tuple es k pos) (gTup K n t) := by
  subst hK
  exact pg_tup hc h hn hst
/-- an int's remainder and quotient by a positive one, as they are -/
theorem fmodE {a b : Int} (h : 0 ≤ b := by decide) : a.fmod b = a % b := Int.fmod_eq_emod_of_nonneg a h
theorem fdivE {a b : Int} (h : 0 ≤ b := by decide) : a.fdiv b = a / b := Int.fdiv_eq_ediv_of_nonneg a h
/-- by a positive divisor -/
theorem u_mod : OpR X (binaryOp .Mod) (rI (fun _ j => 0 < j) fun i j => .int (i % j)) := by
  intro pins s σ H x y v u Q I rx ry h
  obtain ⟨i, j, rfl, rfl, hj, q⟩ := h
  refine op_modN pins s σ H _ _ v u Q I rx ry ⟨i, j, rfl, rfl, by omega, ?_⟩
  show Q (.int (i.fmod j)) H
  rw [fmodE (by omega)]
  exact q
theorem u_fdiv : OpR X (binaryOp .FloorDiv) (rI (fun _ j => 0 < j ∧ j < 1073741824) fun i j => .int (i / j)) := by
  intro pins s σ H x y v u Q I rx ry h
  obtain ⟨i, j, rfl, rfl, hj, q⟩ := h
  refine op_fdivN pins s σ H _ _ v u Q I rx ry ⟨i, j, rfl, rfl, ⟨by omega, by omega⟩, ?_⟩
  show Q (.int (i.fdiv j)) H
  rw [fdivE (by omega)]
  exact q
end
end VB
namespace VB
/-- what follows, shown once for several ways -/
theorem once {R G : Prop} (main : R → G) (rest : R) : G := main rest
end VB
namespace K01
open PySem PySem.Spec PyProof.Rows L2 VB
def top (i : Nat) : Stmt := PySem.Challenge.pw_onewaybits_k01_bits_that_turn.main.body.getD i (.Pass ⟨0, 0, 0, 0⟩)
def mtop (i j : Nat) : Stmt := match top i with | .ClassDef _ _ _ b _ _ _ _ _ _ _ => b.getD j (.Pass ⟨0, 0, 0, 0⟩) | _ => .Pass ⟨0, 0, 0, 0⟩
abbrev s_is_int : Stmt := top 6
theorem sc_is_int : FnScope ["value"] ["value"] (defScope s_is_int) := ⟨rfl, rfl, rfl, by decide +kernel, rfl, by decide +kernel, by decide +kernel⟩
abbrev s_is_list : Stmt := top 7
theorem sc_is_list : FnScope ["value"] ["value"] (defScope s_is_list) := ⟨rfl, rfl, rfl, by decide +kernel, rfl, by decide +kernel, by decide +kernel⟩
abbrev s_is_octets : Stmt := top 8
theorem sc_is_octets : FnScope ["value", "octet"] ["value"] (defScope s_is_octets) := ⟨rfl, rfl, rfl, by decide +kernel, rfl, by decide +kernel, by decide +kernel⟩
abbrev s_is_mask : Stmt := top 9
theorem sc_is_mask : FnScope ["value"] ["value"] (defScope s_is_mask) := ⟨rfl, rfl, rfl, by decide +kernel, rfl, by decide +kernel, by decide +kernel⟩
abbrev s_zeros : Stmt := top 12
theorem sc_zeros : FnScope ["octets"] ["octets"] (defScope s_zeros) := ⟨rfl, rfl, rfl, by decide +kernel, rfl, by decide +kernel, by decide +kernel⟩
abbrev s_zero_bits : Stmt := top 13
theorem sc_zero_bits : FnScope ["octets", "octet"] ["octets"] (defScope s_zero_bits) := ⟨rfl, rfl, rfl, by decide +kernel, rfl, by decide +kernel, by decide +kernel⟩
abbrev s_falls : Stmt := top 14
theorem sc_falls : FnScope ["old", "new", "was", "now"] ["old", "new"] (defScope s_falls) := ⟨rfl, rfl, rfl, by decide +kernel, rfl, by decide +kernel, by decide +kernel⟩
abbrev s_rises : Stmt := top 15
theorem sc_rises : FnScope ["old", "new", "was", "now"] ["old", "new"] (defScope s_rises) := ⟨rfl, rfl, rfl, by decide +kernel, rfl, by decide +kernel, by decide +kernel⟩
abbrev s_changed : Stmt := top 16
theorem sc_changed : FnScope ["old", "new", "mask", "unlike", "octets", "k", "bit", "was", "now"] ["old", "new", "mask"] (defScope s_changed) := ⟨rfl, rfl, rfl, by decide +kernel, rfl, by decide +kernel, by decide +kernel⟩
abbrev s__check_octets : Stmt := top 17
theorem sc__check_octets : FnScope ["octets"] ["octets"] (defScope s__check_octets) := ⟨rfl, rfl, rfl, by decide +kernel, rfl, by decide +kernel, by decide +kernel⟩
abbrev s__check_pair : Stmt := top 18
theorem sc__check_pair : FnScope ["old", "new"] ["old", "new"] (defScope s__check_pair) := ⟨rfl, rfl, rfl, by decide +kernel, rfl, by decide +kernel, by decide +kernel⟩
abbrev s__ones : Stmt := top 19
theorem sc__ones : FnScope ["octets", "bit"] ["octets"] (defScope s__ones) := ⟨rfl, rfl, rfl, by decide +kernel, rfl, by decide +kernel, by decide +kernel⟩
abbrev s__worth : Stmt := top 20
theorem sc__worth : FnScope ["bit"] ["bit"] (defScope s__worth) := ⟨rfl, rfl, rfl, by decide +kernel, rfl, by decide +kernel, by decide +kernel⟩
abbrev s__law_cell : Stmt := top 22
theorem sc__law_cell : FnScope ["_law_script", "_law_k"] ["_law_script", "_law_k"] (defScope s__law_cell) := ⟨rfl, rfl, rfl, by decide +kernel, rfl, by decide +kernel, by decide +kernel⟩
abbrev s__law_box : Stmt := top 23
theorem sc__law_box : FnScope ["_law_great"] ["_law_great"] (defScope s__law_box) := ⟨rfl, rfl, rfl, by decide +kernel, rfl, by decide +kernel, by decide +kernel⟩
abbrev s__law_take : Stmt := top 24
theorem sc__law_take : FnScope ["_law_box_here", "_law_many", "_law_digit", "_law_mixed"] ["_law_box_here", "_law_many"] (defScope s__law_take) := ⟨rfl, rfl, rfl, by decide +kernel, rfl, by decide +kernel, by decide +kernel⟩
abbrev s__law_octet : Stmt := top 25
theorem sc__law_octet : FnScope ["_law_box_here"] ["_law_box_here"] (defScope s__law_octet) := ⟨rfl, rfl, rfl, by decide +kernel, rfl, by decide +kernel, by decide +kernel⟩
abbrev s__law_two : Stmt := top 26
theorem sc__law_two : FnScope ["_law_box_here", "_law_way", "_law_kind", "_law_size", "_law_old", "_law_other", "_law_k", "_law_octet_here"] ["_law_box_here"] (defScope s__law_two) := ⟨rfl, rfl, rfl, by decide +kernel, rfl, by decide +kernel, by decide +kernel⟩
abbrev s__law_mask : Stmt := top 27
theorem sc__law_mask : FnScope ["_law_box_here", "_law_many", "_law_ones", "_law_way", "_law_spot", "_law_word", "_law_k", "_law_found"] ["_law_box_here", "_law_many"] (defScope s__law_mask) := ⟨rfl, rfl, rfl, by decide +kernel, rfl, by decide +kernel, by decide +kernel⟩
abbrev s__law_bits : Stmt := top 28
theorem sc__law_bits : FnScope ["_law_octets_here", "_law_found", "_law_octet_here", "_law_worth"] ["_law_octets_here"] (defScope s__law_bits) := ⟨rfl, rfl, rfl, by decide +kernel, rfl, by decide +kernel, by decide +kernel⟩
abbrev s__law_octets : Stmt := top 29
theorem sc__law_octets : FnScope ["_law_bits_here", "_law_found", "_law_at", "_law_number", "_law_bit"] ["_law_bits_here"] (defScope s__law_octets) := ⟨rfl, rfl, rfl, by decide +kernel, rfl, by decide +kernel, by decide +kernel⟩
abbrev s__law_turned : Stmt := top 30
theorem sc__law_turned : FnScope ["_law_old", "_law_new", "_law_mask_here", "_law_found", "_law_left", "_law_at"] ["_law_old", "_law_new", "_law_mask_here"] (defScope s__law_turned) := ⟨rfl, rfl, rfl, by decide +kernel, rfl, by decide +kernel, by decide +kernel⟩
abbrev s__law_fallen : Stmt := top 31
theorem sc__law_fallen : FnScope ["_law_old", "_law_new", "_law_at"] ["_law_old", "_law_new"] (defScope s__law_fallen) := ⟨rfl, rfl, rfl, by decide +kernel, rfl, by decide +kernel, by decide +kernel⟩
abbrev s__law_told_right : Stmt := top 32
theorem sc__law_told_right : FnScope ["_law_old", "_law_new", "_law_first", "_law_last", "_law_kept", "_law_fresh", "_law_turn", "_law_count", "_law_down", "_law_up", "_law_back"] ["_law_old", "_law_new"] (defScope s__law_told_right) := ⟨rfl, rfl, rfl, by decide +kernel, rfl, by decide +kernel, by decide +kernel⟩
abbrev s__law_between : Stmt := top 33
theorem sc__law_between : FnScope ["_law_first", "_law_left", "_law_last", "_law_count"] ["_law_first", "_law_left", "_law_last", "_law_count"] (defScope s__law_between) := ⟨rfl, rfl, rfl, by decide +kernel, rfl, by decide +kernel, by decide +kernel⟩
abbrev s__law_left_right : Stmt := top 34
theorem sc__law_left_right : FnScope ["_law_way", "_law_old", "_law_new", "_law_masks", "_law_first", "_law_last", "_law_here", "_law_mask_here", "_law_due", "_law_further", "_law_handed", "_law_more", "_law_fresh", "_law_told", "_law_again"] ["_law_way", "_law_old", "_law_new", "_law_masks"] (defScope s__law_left_right) := ⟨rfl, rfl, rfl, by decide +kernel, rfl, by decide +kernel, by decide +kernel⟩
abbrev s__law_right : Stmt := top 35
theorem sc__law_right : FnScope ["_law_box_here", "_law_way", "_law_one", "_law_other", "_law_old", "_law_new", "_law_many", "_law_masks", "_law_due", "_law_ends", "_law_k"] ["_law_box_here"] (defScope s__law_right) := ⟨rfl, rfl, rfl, by decide +kernel, rfl, by decide +kernel, by decide +kernel⟩
abbrev s__law_long_right : Stmt := top 36
theorem sc__law_long_right : FnScope ["_law_size", "_law_ones", "_law_none"] ["_law_size"] (defScope s__law_long_right) := ⟨rfl, rfl, rfl, by decide +kernel, rfl, by decide +kernel, by decide +kernel⟩
abbrev s_law : Stmt := top 37
theorem sc_law : FnScope ["_law_script", "_law_k"] ["_law_script"] (defScope s_law) := ⟨rfl, rfl, rfl, by decide +kernel, rfl, by decide +kernel, by decide +kernel⟩
abbrev FnP (K : PySem.W.Frag) (x : Str) (st : Stmt) (f : Addr) (fd : FuncData) : Prop := FunD K x x (defArgs st) (defBody st) (defScope st) [] [] f fd
abbrev FnM (K : PySem.W.Frag) (m q : Str) (st : Stmt) (f : Addr) (fd : FuncData) : Prop := FunD K m q (defArgs st) (defBody st) (defScope st) [] [] f fd
structure Txt (K : PySem.W.Frag) (mg : Str → Option Value) : Prop where
  f_abs : mg "abs" = none
  f_all : mg "all" = none
  f_bool : mg "bool" = none
  f_enumerate : mg "enumerate" = none
  f_int : mg "int" = none
  f_isinstance : mg "isinstance" = none
  f_len : mg "len" = none
  f_list : mg "list" = none
  f_max : mg "max" = none
  f_min : mg "min" = none
  f_range : mg "range" = none
  f_repr : mg "repr" = none
  f_sum : mg "sum" = none
  f_tuple : mg "tuple" = none
  f_zip : mg "zip" = none
  g_MASK_BITS : ∃ t, mg "MASK_BITS" = some (.int 4096 t)
  t_ZEROS_OF_HALF : ∀ H : Hp, SqT K H (He.ga K "ZEROS_OF_HALF") (List.map V.int [4, 3, 3, 2, 3, 2, 2, 1, 3, 2, 2, 1, 2, 1, 1, 0])
  g_ZEROS_OF_HALF : mg "ZEROS_OF_HALF" = some (.ref (He.ga K "ZEROS_OF_HALF"))
end K01
namespace K01
open PySem PySem.Spec PyProof.Rows L2 VB
section
variable {P : Program} {w : World} {K : PySem.W.Frag} {mg : Str → Option Value} {base : Heap} {f : Addr} {fd : FuncData}
/-! ### a box of draws -/
/-- at a: a box: what is left of the digits, whether they count, the seed, the draws so far (below n) -/
def Box (H : Hp) (a : Addr) (n : Int) : Prop := ∃ (d m c : Int) (b : Bool), H a = some (.lst [.int d, .bl b, .int m, .int c]) ∧ 0 ≤ d ∧ 0 ≤ m ∧ m < 2147483629 ∧ 0 ≤ c ∧ c ≤ n
/-- all but what stands at a is as it was -/
def Exb (a : Addr) (H H' : Hp) : Prop := ∀ b o, b ≠ a → H b = some o → H' b = some o
theorem Exb.upd {a : Addr} {H : Hp} {o : HO} : Exb a H (upd H a o) := fun b u n e => by rw [upd_ne n]; exact e
theorem Exb.trans {a : Addr} {H H1 H2 : Hp} (x : Exb a H H1) (y : Exb a H1 H2) : Exb a H H2 := fun b o n e => y b o n (x b o n e)
theorem Exb.of {a : Addr} {H H' : Hp} (x : Evl.Ex H H') : Exb a H H' := fun b o _ e => x b o e
theorem Exb.new {a p : Addr} {H : Hp} {o : HO} (h : H p = none) : Exb a H (L2.upd H p o) := Exb.of (Evl.Ex.new h)
theorem Box.ex {H H' : Hp} {a : Addr} {n : Int} (b : Box H a n) (e : Evl.Ex H H') : Box H' a n := by
  obtain ⟨d, m, c, k, h, r⟩ := b
  exact ⟨d, m, c, k, e _ _ h, r⟩
theorem Box.at {H : Hp} {a p : Addr} {n : Int} (b : Box H a n) (h : H p = none) : p ≠ a := by
  obtain ⟨d, m, c, k, e, r⟩ := b
  rintro rfl
  rw [h] at e
  cases e
theorem Box.le {H : Hp} {a : Addr} {n m : Int} (b : Box H a n) (h : n ≤ m) : Box H a m := by
  obtain ⟨d, m', c, k, e, r1, r2, r3, r4, r5⟩ := b
  exact ⟨d, m', c, k, e, r1, r2, r3, r4, by omega⟩
def spTake : Sp := fun vs H Q _ => ∃ (a : Addr) (many n : Int), vs = [.ref a, .int many] ∧ Box H a n ∧ 0 < many ∧ many < 1000000 ∧ n < 100000000 ∧
  ∀ (r : Int) (H' : Hp), 0 ≤ r → r < many → Exb a H H' → Box H' a (n + 1) → Q (.int r) H'
theorem ok_take (T : Txt K mg) (F : FnP K "_law_take" s__law_take f fd) : Fg P w K mg base CX0 1 f fd ["_law_box_here", "_law_many"] spTake := by
  refine fg_of F sc__law_take (fun vs H Q E h => ?_) (fun cdv A outer s H vs Q E hr h => ⟨_, (PSs.nox (pss_cons (ps_if (PW.pt (pw_and (pt_tru (K := K) (pe_ix (u_ix (K := K)) (pv 0) pe_int (fun _ _ => rfl)) (by intro _; rfl)) (pw_and1 (pt_cmpR op_gt (pe_ix (u_ix (K := K)) (pv 0) pe_int (fun _ _ => rfl)) pe_int (nomark _)))))
  (pss_cons (ps_set (i := 2) sc__law_take.nd rfl (by first | exact Or.inl rfl | exact Or.inr rfl) (pe_op u_mod (pe_callTy call_int1 (by rfl) T.f_int (by decide +kernel) (pa_cons (pe_ix (u_ix (K := K)) (pv 0) pe_int (fun _ _ => rfl)) pa_nil)) (pv 1)))
  (pss_cons (ps_asg (pe_op u_fdiv (pe_ix (u_ix (K := K)) (pv 0) pe_int (fun _ _ => rfl)) (pv 1)) (pg_sub (pv 0) pe_int set_list))
  (pss_one (ps_ret (pv 2))))) pss_nil)
  (pss_cons (ps_asg (pe_op (u_add (K := K)) (pe_ix (u_ix (K := K)) (pv 0) pe_int (fun _ _ => rfl)) pe_int) (pg_sub (pv 0) pe_int set_list))
  (pss_cons (ps_set (i := 3) sc__law_take.nd rfl (by first | exact Or.inl rfl | exact Or.inr rfl) (pe_op u_mod (pe_callTy call_int1 (by rfl) T.f_int (by decide +kernel) (pa_cons (pe_op op_pow (pe_op (u_add (K := K)) (pe_op (u_add (K := K)) (pe_ix (u_ix (K := K)) (pv 0) pe_int (fun _ _ => rfl)) (pe_op (u_mul (K := K)) pe_int (pe_ix (u_ix (K := K)) (pv 0) pe_int (fun _ _ => rfl)))) pe_int) pe_int) pa_nil)) pe_int))
  (pss_one (ps_ret (pe_op u_mod (pe_op u_fdiv (pe_op u_mod (pe_callTy call_int1 (by rfl) T.f_int (by decide +kernel) (pa_cons (pe_op op_pow (pe_op (u_add (K := K)) (pe_op (u_mul (K := K)) (pv 3) pe_int) (pe_op (u_mul (K := K)) pe_int (pe_ix (u_ix (K := K)) (pv 0) pe_int (fun _ _ => rfl)))) pe_int) pa_nil)) pe_int) pe_int) (pv 1)))))))), ?_⟩)
  · obtain ⟨a, many, n, rfl, _⟩ := h
    rfl
  · obtain ⟨a, many, n, rfl, ⟨d, m, c, b, hb, hd, hm, hm2, hc, hc2⟩, h1, h2, hn, q⟩ := h
    have S : SqL K H a [.int d, .bl b, .int m, .int c] := SqL.of hb
    -- the digits' way
    have A1 : b = true → 0 < d → Q (.int (d % many)) (upd H a (.lst [.int (d / many), .bl b, .int m, .int c])) := by
      intro _ _
      refine q _ _ (Int.emod_nonneg _ (by omega)) (Int.emod_lt_of_pos _ h1) Exb.upd ⟨d / many, m, c, b, upd_same, Int.ediv_nonneg hd (by omega), hm, hm2, hc, by omega⟩
    -- the mixed way
    have A2 : ∀ z : Int, Q (.int (z % many)) (upd H a (.lst [.int d, .bl b, .int m, .int (c + 1)])) := by
      intro z
      exact q _ _ (Int.emod_nonneg _ (by omega)) (Int.emod_lt_of_pos _ h1) Exb.upd ⟨d, m, c + 1, b, upd_same, hd, hm, hm2, by omega, by omega⟩
    have S1 : SqL K (upd H a (.lst [.int d, .bl b, .int m, .int (c + 1)])) a [.int d, .bl b, .int m, .int (c + 1)] := SqL.of upd_same
    have k1 : CMulX 15485867 (c + 1) := mulx_ok (a := 30) (b := 30) (by decide) (by show _ < 1073741824; omega) (by decide)
    have k2 : ∀ x : Int, 0 ≤ x → x < 2147483647 → CMulX x 48271 := fun x _ _ => mulx_ok (a := 32) (b := 20) (by show _ < 4294967296; omega) (by decide) (by decide)
    have k3 : CMulX 7919 (c + 1) := mulx_ok (a := 30) (b := 30) (by decide) (by show _ < 1073741824; omega) (by decide)
    have p1 : CPow (m + 15485867 * (c + 1) + 179425033) 5 := ⟨by decide, by decide, by show _ < 18446744073709551616; omega⟩
    have p2 : ∀ x : Int, 0 ≤ x → x < 2147483647 → CPow (x * 48271 + 7919 * (c + 1)) 3 := fun x _ _ => ⟨by decide, by decide, by show _ < 18446744073709551616; omega⟩
    have nz1 : (0 : Int) < 2147483647 := by decide
    have nz2 : (0 : Int) < 2147483587 := by decide
    have cd64 : (0 : Int) < 64 ∧ (64 : Int) < 1073741824 := by decide
    have hx0 : ∀ z : Int, 0 ≤ z % 2147483647 ∧ z % 2147483647 < 2147483647 := by
      intro z
      exact ⟨Int.emod_nonneg _ (by decide), Int.emod_lt_of_pos _ (by decide)⟩
    refine ⟨_, rfl, .inl ⟨a, _, 1, _, rfl, rfl, S, rfl, b, rfl, ?_⟩⟩
    by_cases hbd : b = true ∧ 0 < d
    · obtain ⟨rfl, hd0⟩ := hbd
      refine iteT ⟨_, rfl, .inl ⟨a, _, 0, _, rfl, rfl, S, rfl, _, _, rfl, rfl, _, rfl, ?_⟩⟩
      rw [decide_eq_true hd0]
      refine iteT ⟨_, rfl, .inl ⟨a, _, 0, _, rfl, rfl, S, rfl, .inl ⟨_, rfl, _, rfl, _, _, rfl, rfl, h1, ?_⟩⟩⟩
      refine ⟨_, rfl, .inl ⟨a, _, 0, _, rfl, rfl, S, rfl, _, rfl, _, _, rfl, rfl, ⟨h1, by omega⟩, _, rfl, a, _, _, _, rfl, rfl, hb, rfl, ?_⟩⟩
      exact ⟨_, rfl, A1 rfl hd0⟩
    · apply once
      · intro rest
        cases b with
        | false => exact iteF (iteF rest)
        | true =>
          refine iteT ⟨_, rfl, .inl ⟨a, _, 0, _, rfl, rfl, S, rfl, _, _, rfl, rfl, _, rfl, ?_⟩⟩
          rw [decide_eq_false (fun z => hbd ⟨rfl, z⟩)]
          exact iteF rest
      refine ⟨_, rfl, .inl ⟨a, _, 3, _, rfl, rfl, S, rfl, .inl ⟨_, _, rfl, rfl, _, rfl, a, _, _, _, rfl, rfl, hb, rfl, ?_⟩⟩⟩
      refine ⟨_, rfl, .inl ⟨a, _, 2, _, rfl, rfl, S1, rfl, ?_⟩⟩
      refine ⟨_, rfl, .inl ⟨a, _, 3, _, rfl, rfl, S1, rfl, .inl ⟨_, _, rfl, rfl, k1, .inl ⟨_, _, rfl, rfl, .inl ⟨_, _, rfl, rfl, _, _, rfl, rfl, p1, .inl ⟨_, rfl, _, _, rfl, rfl, nz1, ?_⟩⟩⟩⟩⟩⟩
      refine ⟨_, rfl, .inl ⟨_, _, rfl, rfl, k2 _ (hx0 _).1 (hx0 _).2, ?_⟩⟩
      refine ⟨_, rfl, .inl ⟨a, _, 3, _, rfl, rfl, S1, rfl, .inl ⟨_, _, rfl, rfl, k3, .inl ⟨_, _, rfl, rfl, _, _, rfl, rfl, p2 _ (hx0 _).1 (hx0 _).2, .inl ⟨_, rfl, _, _, rfl, rfl, nz2, ?_⟩⟩⟩⟩⟩
      refine ⟨_, _, rfl, rfl, cd64, _, rfl, _, _, rfl, rfl, h1, ?_⟩
      exact A2 _
/-! ### cells and boxes -/
def spBox : Sp := fun vs H Q _ => ∃ g : Int, vs = [.int g] ∧ ∀ (p : Addr) (H' : Hp), H p = none → Evl.Ex H H' → Box H' p 0 → Q (.ref p) H'
theorem ok_box (T : Txt K mg) (F : FnP K "_law_box" s__law_box f fd) : Fg P w K mg base CX0 1 f fd ["_law_great"] spBox := by
  refine fg_of F sc__law_box (fun vs H Q E h => ?_) (fun cdv A outer s H vs Q E hr h => ⟨_, (PSs.nox (pss_one (ps_ret (pe_lst (pa_cons (pe_callB call_abs (by rfl) T.f_abs (by decide +kernel) (pa_cons (pv 0) pa_nil)) (pa_cons (pe_cmpR op_ge (pe_callB call_abs (by rfl) T.f_abs (by decide +kernel) (pa_cons (pv 0) pa_nil)) (pe_op op_pow pe_int pe_int) (nomark _)) (pa_cons (pe_op u_mod (pe_callTy call_int1 (by rfl) T.f_int (by decide +kernel) (pa_cons (pe_callB call_abs (by rfl) T.f_abs (by decide +kernel) (pa_cons (pv 0) pa_nil)) pa_nil)) pe_int) (pa_cons pe_int pa_nil)))))))), ?_⟩)
  · obtain ⟨g, rfl, _⟩ := h
    rfl
  · obtain ⟨g, rfl, q⟩ := h
    have nz : (0 : Int) < 2147483629 := by decide
    have hp : CPow 10 18 := ⟨by decide, by decide, by decide⟩
    refine ⟨_, rfl, _, rfl, _, rfl, _, rfl, _, _, rfl, rfl, hp, _, _, rfl, rfl, _, rfl, _, rfl, .inl ⟨_, rfl, _, _, rfl, rfl, nz, ?_⟩⟩
    refine ⟨by show 4 ≤ sizeLine; decide, fun p hp => q p _ hp (Evl.Ex.new hp) ⟨_, _, _, _, upd_same, ?_, ?_, ?_, by omega, by omega⟩⟩
    · split <;> omega
    · exact Int.emod_nonneg _ (by decide)
    · exact Int.emod_lt_of_pos _ (by decide)
def spCell (K : PySem.W.Frag) : Sp := fun vs H Q _ => ∃ (a : Addr) (ns : List Int) (k : Int), vs = [.ref a, .int k] ∧ SqL K H a (ns.map V.int) ∧ 0 ≤ k ∧ k ≤ 100 ∧ ns.length ≤ 1000 ∧
  ∀ (g : Int) (H' : Hp), Evl.Ex H H' → Q (.int g) H'
theorem ok_cell (T : Txt K mg) (F : FnP K "_law_cell" s__law_cell f fd) : Fg P w K mg base CX0 1 f fd ["_law_script", "_law_k"] (spCell K) := by
  refine fg_of F sc__law_cell (fun vs H Q E h => ?_) (fun cdv A outer s H vs Q E hr h => ⟨_, (PSs.nox (pss_one (ps_ret (pe_ifExp (pt_cmpR op_lt (pv 1) (pe_callB (u_len (K := K)) (by rfl) T.f_len (by decide +kernel) (pa_cons (pv 0) pa_nil)) (nomark _)) (pe_ix (u_ix (K := K)) (pv 0) (pv 1) (fun _ _ => rfl)) (pe_op (u_add (K := K)) (pe_op (u_mul (K := K)) pe_int (pv 1)) (pe_op u_mod (pe_callB (u_sum (K := K) rfl) (by rfl) T.f_sum (by decide +kernel) (pa_cons (pe_slice (u_sl (K := K)) (pv 0) po_none (po_some pe_int)) pa_nil)) pe_int)))))), ?_⟩)
  · obtain ⟨a, ns, k, rfl, _⟩ := h
    rfl
  · obtain ⟨a, ns, k, rfl, S, k0, k1, hl, q⟩ := h
    have nz : (0 : Int) < 1000003 := by decide
    refine ⟨_, rfl, _, rfl, _, _, rfl, .inl ⟨_, S, rfl⟩, _, _, rfl, rfl, _, rfl, ?_⟩
    rw [List.length_map]
    refine ite2 (fun h => ?_) (fun h => ?_)
    · have h' : k < (ns.length : Int) := by simpa using h
      obtain ⟨j, rfl⟩ : ∃ j : Nat, k = j := ⟨k.toNat, by omega⟩
      have hj : j < ns.length := by omega
      refine ⟨_, rfl, _, rfl, .inl ⟨a, _, _, .int ns[j], rfl, rfl, S, ?_, q _ _ (Evl.Ex.refl _)⟩⟩
      rw [atI_nat]
      simp [hj]
    · have km : CMulX 7919 k := mulx_ok (a := 30) (b := 30) (by decide) (by show _ < 1073741824; omega) (by decide)
      have cut : ∃ ms : List Int, cutV (ns.map V.int) none (some 1) = ms.map V.int := ⟨(ns.drop _).take _, by unfold cutV; rw [← List.map_drop, ← List.map_take]⟩
      obtain ⟨ms, hms⟩ := cut
      refine ⟨_, rfl, .inl ⟨_, _, rfl, rfl, km, _, rfl, _, rfl, .inl ⟨a, _, rfl, S, fun p hp => ⟨p, ms, rfl, ?_, _, _, rfl, rfl, nz, .inl ⟨_, _, rfl, rfl, q _ _ (Evl.Ex.new hp)⟩⟩⟩⟩⟩
      rw [hms]
      exact SqL.of upd_same
/-! ### an octet -/
def spOctet : Sp := fun vs H Q _ => ∃ (a : Addr) (n : Int), vs = [.ref a] ∧ Box H a n ∧ n < 90000000 ∧ ∀ (r : Int) (H' : Hp), 0 ≤ r → r ≤ 255 → Exb a H H' → Box H' a (n + 3) → Q (.int r) H'
theorem ok_octet (T : Txt K mg) (F : FnP K "_law_octet" s__law_octet f fd) (C__law_take : Cal P w K mg base CX0 1 "_law_take" ["_law_box_here", "_law_many"] spTake) : Fg P w K mg base CX0 2 f fd ["_law_box_here"] spOctet := by
  refine fg_of F sc__law_octet (fun vs H Q E h => ?_) (fun cdv A outer s H vs Q E hr h => ⟨_, (PSs.nox (pss_one (ps_ret (pe_ix (u_ix (K := K)) (pe_lst (pa_cons pe_int (pa_cons pe_int (pa_cons pe_int (pa_cons pe_int (pa_cons pe_int (pa_cons pe_int (pa_cons pe_int (pa_cons pe_int (pa_cons (pe_cal C__law_take hr.le pass0 (pa_cons (pv 0) (pa_cons pe_int pa_nil))) (pa_cons (pe_cal C__law_take hr.le pass0 (pa_cons (pv 0) (pa_cons pe_int pa_nil))) pa_nil))))))))))) (pe_cal C__law_take hr.le pass0 (pa_cons (pv 0) (pa_cons pe_int pa_nil))) (fun _ _ => rfl))))), ?_⟩)
  · obtain ⟨a, n, rfl, _⟩ := h
    rfl
  · obtain ⟨a, n, rfl, B, hn, q⟩ := h
    refine ⟨_, rfl, a, 256, n, rfl, B, by omega, by omega, by omega, fun r1 H1 p1 p2 e1 B1 => ?_⟩
    refine ⟨_, rfl, a, 256, n + 1, rfl, B1, by omega, by omega, by omega, fun r2 H2 p3 p4 e2 B2 => ?_⟩
    refine ⟨by show 10 ≤ sizeLine; decide, fun p hp => ?_⟩
    refine ⟨_, rfl, a, 10, n + 1 + 1, rfl, B2.ex (Evl.Ex.new hp), by omega, by omega, by omega, fun r3 H3 p5 p6 e3 B3 => ?_⟩
    have hpa := B2.at hp
    have hl := e3 p _ hpa upd_same
    have E := ((e1.trans e2).trans (Exb.new hp)).trans e3
    have B4 : Box H3 a (n + 3) := B3.le (by omega)
    have fin : ∀ v : Int, 0 ≤ v → v ≤ 255 → Q (.int v) H3 := fun v h1 h2 => q v H3 h1 h2 E B4
    obtain ⟨j, rfl⟩ : ∃ j : Nat, r3 = j := ⟨r3.toNat, by omega⟩
    have key : ∃ v : Int, 0 ≤ v ∧ v ≤ 255 ∧ ([V.int 0, .int 255, .int 128, .int 1, .int 127, .int 254, .int 15, .int 240, .int r1, .int r2] : List V)[j]? = some (.int v) := by
      have hj : j < 10 := by omega
      rcases j with _ | _ | _ | _ | _ | _ | _ | _ | _ | _ | j
      · exact ⟨0, by omega, by omega, rfl⟩
      · exact ⟨255, by omega, by omega, rfl⟩
      · exact ⟨128, by omega, by omega, rfl⟩
      · exact ⟨1, by omega, by omega, rfl⟩
      · exact ⟨127, by omega, by omega, rfl⟩
      · exact ⟨254, by omega, by omega, rfl⟩
      · exact ⟨15, by omega, by omega, rfl⟩
      · exact ⟨240, by omega, by omega, rfl⟩
      · exact ⟨r1, by omega, by omega, rfl⟩
      · exact ⟨r2, by omega, by omega, rfl⟩
      · omega
    obtain ⟨v, h1, h2, hv⟩ := key
    exact .inl ⟨p, _, _, _, rfl, rfl, SqL.of hl, atI_nat hv, fin v h1 h2⟩
end
end K01
/-! sequences: lists and tuples alike -/
namespace VB
open PySem PySem.Spec PyProof.Rows L2
/-- a list (false) or a tuple (true) of the values xs -/
def Sv (t : Bool) (K : PySem.W.Frag) (H : Hp) (a : Addr) (xs : List V) : Prop := match t with
  | false => SqL K H a xs
  | true => SqT K H a xs
section
variable {K : PySem.W.Frag} {H H' : Hp} {a : Addr} {xs : List V} {t : Bool}
theorem Sv.ex (h : Sv t K H a xs) (e : Evl.Ex H H') : Sv t K H' a xs := by
  cases t with
  | false => exact Evl.ex_l e (show SqL K H a xs from h)
  | true => exact Evl.ex_t e (show SqT K H a xs from h)
theorem Sv.lst (h : H a = some (.lst xs)) : Sv false K H a xs := SqL.of h
theorem Sv.tup (h : H a = some (.tup xs)) : Sv true K H a xs := SqT.of h
/-- a walk over what stands in a slot -/
theorem seq_var {i : Nat} {σ : L2.St} {R : It → Hp → Prop} (e : σ[i]? = some (some (.ref a))) (S : Sv t K H a xs)
    (h : ∀ J, Walk J xs.length (fun H => Sv t K H a xs) (YAt xs) → R J H) : iSeq K (tVar i) σ H R := by
  cases t with
  | false => exact .inl ⟨_, e, a, rfl, ⟨xs, S⟩, h _ walk_list⟩
  | true => exact .inr ⟨_, e, a, rfl, ⟨xs, S⟩, h _ walk_tup⟩
theorem Sv.len (S : Sv t K H a xs) : LenV K (.ref a) H xs.length := by
  cases t with
  | false => exact .inl ⟨xs, S, rfl⟩
  | true => exact .inr ⟨xs, S, rfl⟩
theorem Sv.ix {x v : V} {i : Int} {Q : VK} (S : Sv t K H a xs) (h : atI xs i = some v) (q : Q v H) : rIx K (.ref a) (.int i) H Q := by
  cases t with
  | false => exact .inl ⟨a, xs, i, v, rfl, rfl, S, h, q⟩
  | true => exact .inr (.inl ⟨a, xs, i, v, rfl, rfl, S, h, q⟩)
theorem Sv.either (S : Sv t K H a xs) : SqL K H a xs ∨ SqT K H a xs := by
  cases t with
  | false => exact .inl S
  | true => exact .inr S
end
/-- a range by a step upward -/
theorem rg_up {n c : Int} (hn : 0 ≤ n) (hn2 : n < 1000000) (hc : 0 < c) (hc2 : c < 1000000) : RgC 0 n c ((n + c - 1) / c).toNat := by
  refine ⟨by omega, by omega, ?_, ?_⟩
  · have z := PyProof.Rows.rangeSize_pos (len := n) (c := c) (by omega) hn
    have d : 0 ≤ (n + c - 1) / c := Int.ediv_nonneg (by omega) (by omega)
    have d2 : (n + c - 1) / c ≤ n + c - 1 := Int.ediv_le_self _ (by omega)
    have d3 : (n + c - 1) / c * c ≤ n + c - 1 := Int.ediv_mul_le _ (by omega)
    unfold Builtin.Range.small
    rw [z]
    simp only [Builtin.Range.rangeFitsLong, Bool.and_eq_true, Bool.or_eq_true, decide_eq_true_eq, beq_iff_eq, hc, gt_iff_lt, if_true]
    omega
  · have d : 0 ≤ (n + c - 1) / c := Int.ediv_nonneg (by omega) (by omega)
    rw [PyProof.Rows.rangeSize_pos (by omega) hn]
    omega
/-- the promises' shapes: a new list, a new tuple, a value; what stood stands -/
abbrev RL (xs : List V) (H : Hp) (Q : VK) : Prop := ∀ (p : Addr) (H' : Hp), H p = none → Evl.Ex H H' → H' p = some (.lst xs) → Q (.ref p) H'
abbrev RT (xs : List V) (H : Hp) (Q : VK) : Prop := ∀ (p : Addr) (H' : Hp), H p = none → Evl.Ex H H' → H' p = some (.tup xs) → Q (.ref p) H'
abbrev RV (v : V) (H : Hp) (Q : VK) : Prop := ∀ H' : Hp, Evl.Ex H H' → Q v H'
/-- ints as values -/
abbrev IV (ns : List Int) : List V := ns.map V.int
theorem iv_get {ns : List Int} {i : Nat} {x : V} (h : (IV ns)[i]? = some x) : ∃ n, ns[i]? = some n ∧ x = .int n := by
  rw [List.getElem?_map] at h
  cases e : ns[i]? with
  | none => rw [e] at h; cases h
  | some n =>
    rw [e] at h
    exact ⟨n, rfl, (Option.some.inj h).symm⟩
theorem iv_at {ns : List Int} {i : Nat} {n : Int} (h : ns[i]? = some n) : atI (IV ns) (i : Int) = some (.int n) := by
  apply atI_nat
  rw [List.getElem?_map, h]
  rfl
theorem iv_len (ns : List Int) : (IV ns).length = ns.length := List.length_map ..
theorem iv_snoc (ns : List Int) (n : Int) : IV ns ++ [V.int n] = IV (ns ++ [n]) := by simp
theorem take_snoc {α : Type} {l : List α} {i : Nat} {x : α} (h : l[i]? = some x) : l.take (i + 1) = l.take i ++ [x] := by
  rw [List.take_add_one, h]
  rfl
/-- a comprehension over a range that changes nothing: us its items -/
theorem lc_pureR {n j : Nat} {us : List Int} {te : TE} {vs : List Nat} {σ : L2.St} {H1 : Hp} {D : Addr} {Qd : Hp → Prop} (hl : us.length = n) (hz : n ≤ 60000) (hD : H1 D = none)
    (hw : ∀ x, wipe ((wipe σ vs).set j x) vs = wipe σ vs)
    (hs : ∀ (i : Nat) (u : Int) (H : Hp) (Q : VK), us[i]? = some u → Evl.Ex H1 H → (∀ H' : Hp, Evl.Ex H H' → Q (.int u) H') → te ((wipe σ vs).set j (some (.int (i : Int)))) H Q)
    (hd : ∀ H, Evl.Ex H1 H → H D = some (.lst (IV us)) → Qd H) :
    ∃ W : Nat → Nat → Hp → Prop, (∃ m, W 0 m (upd H1 D (.lst []))) ∧ ∀ i m H, W i m H →
      ((Itr 0 n).stop i H ∧ Qd H) ∨ ((Itr 0 n).go i H ∧ ∃ Nx : Hp → Prop, (∀ H', Nx H' → ∃ m', m' < m ∧ W (i + 1) m' H') ∧ ∀ x H', (Itr 0 n).yld i H x H' →
        gName j x (wipe σ vs) H' fun σ2 H2 => wipe σ2 vs = wipe σ vs ∧ tYes σ2 H2 fun b H3 =>
        if b = true then te σ2 H3 fun y H4 => ∃ acc, H4 D = some (.lst acc) ∧ acc.length < sizeLine ∧ Nx (upd H4 D (.lst (acc ++ [y]))) else Nx H3) := by
  refine lc_range (lo := 0) (n := n) (fun i H' => Evl.Ex H1 H' ∧ i ≤ n ∧ H' D = some (.lst (IV (us.take i)))) ⟨Evl.Ex.new hD, Nat.zero_le _, upd_same⟩ ?_ ?_
  · rintro i H hi ⟨e1, hi2, h1⟩
    have e0 : (0 : Int) + (i : Int) = (i : Int) := Int.zero_add _
    rw [e0]
    refine ⟨hw _, ?_⟩
    obtain ⟨u, hu⟩ : ∃ u, us[i]? = some u := ⟨us[i]'(by omega), by simp [show i < us.length by omega]⟩
    show te _ H _
    refine hs i u H _ hu e1 fun H' e2 => ⟨_, e2 D _ h1, ?_, Evl.Ex.mut (e1.trans e2) hD, by omega, ?_⟩
    · rw [iv_len, List.length_take]
      exact Evl.sz_lt (by omega)
    · rw [upd_same, iv_snoc, take_snoc hu]
  · rintro H ⟨e1, _, h1⟩
    refine hd H e1 ?_
    rw [h1, ← hl, List.take_length]
/-- .. over a sequence -/
theorem lc_pureS {J : It} {G : Hp → Prop} {n j : Nat} {us : List Int} {xs : List V} {te : TE} {vs : List Nat} {σ : L2.St} {H1 : Hp} {D : Addr} {Qd : Hp → Prop} (wk : Walk J n G (YAt xs)) (hG : ∀ H, Evl.Ex H1 H → G H)
    (hl : us.length = n) (hz : n ≤ 60000) (hD : H1 D = none) (hw : ∀ x, wipe ((wipe σ vs).set j x) vs = wipe σ vs)
    (hs : ∀ (i : Nat) (x : V) (u : Int) (H : Hp) (Q : VK), xs[i]? = some x → us[i]? = some u → Evl.Ex H1 H → (∀ H' : Hp, Evl.Ex H H' → Q (.int u) H') → te ((wipe σ vs).set j (some x)) H Q)
    (hd : ∀ H, Evl.Ex H1 H → H D = some (.lst (IV us)) → Qd H) :
    ∃ W : Nat → Nat → Hp → Prop, (∃ m, W 0 m (upd H1 D (.lst []))) ∧ ∀ i m H, W i m H →
      (J.stop i H ∧ Qd H) ∨ (J.go i H ∧ ∃ Nx : Hp → Prop, (∀ H', Nx H' → ∃ m', m' < m ∧ W (i + 1) m' H') ∧ ∀ x H', J.yld i H x H' →
        gName j x (wipe σ vs) H' fun σ2 H2 => wipe σ2 vs = wipe σ vs ∧ tYes σ2 H2 fun b H3 =>
        if b = true then te σ2 H3 fun y H4 => ∃ acc, H4 D = some (.lst acc) ∧ acc.length < sizeLine ∧ Nx (upd H4 D (.lst (acc ++ [y]))) else Nx H3) := by
  refine lc_it wk (fun i H' => Evl.Ex H1 H' ∧ i ≤ n ∧ H' D = some (.lst (IV (us.take i)))) ⟨Evl.Ex.new hD, Nat.zero_le _, upd_same⟩ (fun i H _ h => hG H h.1) ?_ ?_
  · rintro i x H H' hi ⟨e1, hi2, h1⟩ ⟨rfl, hx⟩
    refine ⟨hw _, ?_⟩
    obtain ⟨u, hu⟩ : ∃ u, us[i]? = some u := ⟨us[i]'(by omega), by simp [show i < us.length by omega]⟩
    show te _ H' _
    refine hs i x u H' _ hx hu e1 fun H'' e2 => ⟨_, e2 D _ h1, ?_, Evl.Ex.mut (e1.trans e2) hD, by omega, ?_⟩
    · rw [iv_len, List.length_take]
      exact Evl.sz_lt (by omega)
    · rw [upd_same, iv_snoc, take_snoc hu]
  · rintro H ⟨e1, _, h1⟩
    refine hd H e1 ?_
    rw [h1, ← hl, List.take_length]
end VB
/-! bits of octets: plain mathematics -/
namespace BM
def bitsOf (o : Int) : List Int := [o / 128 % 2, o / 64 % 2, o / 32 % 2, o / 16 % 2, o / 8 % 2, o / 4 % 2, o / 2 % 2, o / 1 % 2]
def bitsL (os : List Int) : List Int := os.flatMap bitsOf
def octOf (bs : List Int) : Int := bs.foldl (fun n b => 2 * n + b) 0
def octetsN : Nat → List Int → List Int
  | 0, _ => []
  | n + 1, bs => octOf (bs.take 8) :: octetsN n (bs.drop 8)
def octetsL (bs : List Int) : List Int := octetsN ((bs.length + 7) / 8) bs
def Oct (os : List Int) : Prop := ∀ o ∈ os, 0 ≤ o ∧ o ≤ 255
def Bit (bs : List Int) : Prop := ∀ b ∈ bs, b = 0 ∨ b = 1
/-- the indices at which the first is 1 and the second 0 -/
def fallenL : Int → List Int → List Int → List Int
  | k, a :: as, b :: bs => if a = 1 ∧ b = 0 then k :: fallenL (k + 1) as bs else fallenL (k + 1) as bs
  | _, _, _ => []
/-- what a mask leaves on the way -/
def turned : List Int → List Int → Int → List Int
  | a :: as, b :: bs, m => if a = b then a :: turned as bs m else (if m % 2 = 1 then b else a) :: turned as bs (m / 2)
  | _, _, _ => []
def unlike : List Int → List Int → Nat
  | a :: as, b :: bs => (if a = b then 0 else 1) + unlike as bs
  | _, _ => 0

theorem bitsOf_bit {o b : Int} (h : b ∈ bitsOf o) : b = 0 ∨ b = 1 := by
  simp only [bitsOf, List.mem_cons, List.not_mem_nil, or_false] at h
  omega
theorem bitsL_bit (os : List Int) : Bit (bitsL os) := by
  intro b h
  obtain ⟨o, _, ho⟩ := List.mem_flatMap.mp h
  exact bitsOf_bit ho
theorem bitsL_nil : bitsL [] = [] := rfl
theorem bitsL_cons (o : Int) (os : List Int) : bitsL (o :: os) = bitsOf o ++ bitsL os := by simp [bitsL]
theorem bitsOf_len (o : Int) : (bitsOf o).length = 8 := rfl
theorem bitsL_len : ∀ os : List Int, (bitsL os).length = 8 * os.length
  | [] => rfl
  | o :: os => by
    rw [bitsL_cons, List.length_append, bitsL_len os, bitsOf_len, List.length_cons]
    omega
theorem bitsL_append (a b : List Int) : bitsL (a ++ b) = bitsL a ++ bitsL b := by simp [bitsL]
theorem octOf_bitsOf {o : Int} (h : 0 ≤ o ∧ o ≤ 255) : octOf (bitsOf o) = o := by
  have key : ∀ n : Fin 256, octOf (bitsOf ((n : Nat) : Int)) = ((n : Nat) : Int) := by decide +kernel
  have e := key ⟨o.toNat, by omega⟩
  have e2 : ((o.toNat : Nat) : Int) = o := Int.toNat_of_nonneg h.1
  simp only [e2] at e
  exact e
theorem eight {bs : List Int} (h : 8 ≤ bs.length) : ∃ a b c d e f g i r, bs = a :: b :: c :: d :: e :: f :: g :: i :: r := by
  match bs, h with
  | a :: b :: c :: d :: e :: f :: g :: i :: r, _ => exact ⟨a, b, c, d, e, f, g, i, r, rfl⟩
theorem octOf8 (a b c d e f g i : Int) : octOf [a, b, c, d, e, f, g, i] = 128 * a + 64 * b + 32 * c + 16 * d + 8 * e + 4 * f + 2 * g + i := by
  simp only [octOf, List.foldl_cons, List.foldl_nil]
  omega
theorem bit_le {x : Int} (h : x = 0 ∨ x = 1) : 0 ≤ x ∧ x ≤ 1 := by omega
theorem bitsOf_octOf {a b c d e f g i : Int} (h : Bit [a, b, c, d, e, f, g, i]) : bitsOf (octOf [a, b, c, d, e, f, g, i]) = [a, b, c, d, e, f, g, i] := by
  obtain ⟨a0, a1⟩ := bit_le (h a (by simp))
  obtain ⟨b0, b1⟩ := bit_le (h b (by simp))
  obtain ⟨c0, c1⟩ := bit_le (h c (by simp))
  obtain ⟨d0, d1⟩ := bit_le (h d (by simp))
  obtain ⟨e0, e1⟩ := bit_le (h e (by simp))
  obtain ⟨f0, f1⟩ := bit_le (h f (by simp))
  obtain ⟨g0, g1⟩ := bit_le (h g (by simp))
  obtain ⟨i0, i1⟩ := bit_le (h i (by simp))
  clear h
  rw [octOf8]
  simp only [bitsOf, List.cons.injEq, and_true]
  refine ⟨?_, ?_, ?_, ?_, ?_, ?_, ?_, ?_⟩ <;> omega
theorem octOf_range {a b c d e f g i : Int} (h : Bit [a, b, c, d, e, f, g, i]) : 0 ≤ octOf [a, b, c, d, e, f, g, i] ∧ octOf [a, b, c, d, e, f, g, i] ≤ 255 := by
  have ha := h a (by simp)
  have hb := h b (by simp)
  have hc := h c (by simp)
  have hd := h d (by simp)
  have he := h e (by simp)
  have hf := h f (by simp)
  have hg := h g (by simp)
  have hi := h i (by simp)
  rw [octOf8]
  omega
theorem Bit.split8 {a b c d e f g i : Int} {r : List Int} (h : Bit (a :: b :: c :: d :: e :: f :: g :: i :: r)) : Bit [a, b, c, d, e, f, g, i] ∧ Bit r := by
  constructor
  · intro x hx
    refine h x ?_
    simp only [List.mem_cons, List.not_mem_nil, or_false] at hx
    simp only [List.mem_cons]
    rcases hx with q | q | q | q | q | q | q | q <;> simp [q]
  · intro x hx
    exact h x (by simp [hx])
/-- bits of octets of bits -/
theorem octetsN_spec : ∀ (n : Nat) (bs : List Int), bs.length = 8 * n → Bit bs → bitsL (octetsN n bs) = bs ∧ Oct (octetsN n bs) ∧ (octetsN n bs).length = n
  | 0, bs, hl, _ => by
    have e : bs = [] := List.eq_nil_of_length_eq_zero (by omega)
    subst e
    exact ⟨rfl, fun _ h => (by cases h), rfl⟩
  | n + 1, bs, hl, hb => by
    obtain ⟨a, b, c, d, e, f, g, i, r, rfl⟩ := eight (bs := bs) (by omega)
    obtain ⟨h1, h2⟩ := hb.split8
    have hr : r.length = 8 * n := by
      simp only [List.length_cons] at hl
      omega
    obtain ⟨i1, i2, i3⟩ := octetsN_spec n r hr h2
    refine ⟨?_, ?_, ?_⟩
    · show bitsL (octOf [a, b, c, d, e, f, g, i] :: octetsN n r) = _
      rw [bitsL_cons, bitsOf_octOf h1, i1]
      rfl
    · intro o ho
      rcases List.mem_cons.mp ho with q | q
      · rw [q]
        exact octOf_range h1
      · exact i2 o q
    · show (octetsN n r).length + 1 = n + 1
      rw [i3]
theorem octetsL_spec {bs : List Int} {n : Nat} (hl : bs.length = 8 * n) (hb : Bit bs) : bitsL (octetsL bs) = bs ∧ Oct (octetsL bs) ∧ (octetsL bs).length = n := by
  have e : (bs.length + 7) / 8 = n := by omega
  unfold octetsL
  rw [e]
  exact octetsN_spec n bs hl hb
theorem octetsL_bitsL : ∀ {os : List Int}, Oct os → octetsL (bitsL os) = os := by
  intro os
  induction os with
  | nil => intro _; rfl
  | cons o os ih =>
    intro h
    have h1 := h o List.mem_cons_self
    have h2 : Oct os := fun x hx => h x (List.mem_cons_of_mem _ hx)
    have i := ih h2
    have l := bitsL_len os
    have l2 := bitsL_len (o :: os)
    unfold octetsL at i ⊢
    have e1 : ((bitsL os).length + 7) / 8 = os.length := by omega
    have e2 : ((bitsL (o :: os)).length + 7) / 8 = os.length + 1 := by
      rw [l2, List.length_cons]
      omega
    rw [e1] at i
    rw [e2, bitsL_cons]
    show octOf ((bitsOf o ++ bitsL os).take 8) :: octetsN os.length ((bitsOf o ++ bitsL os).drop 8) = _
    have t : (bitsOf o ++ bitsL os).take 8 = bitsOf o := by rw [List.take_append_of_le_length (by rw [bitsOf_len]; omega)]; rfl
    have d : (bitsOf o ++ bitsL os).drop 8 = bitsL os := rfl
    rw [t, d, octOf_bitsOf h1, i]
theorem turned_len : ∀ (as bs : List Int) (m : Int), as.length = bs.length → (turned as bs m).length = as.length
  | [], [], _, _ => rfl
  | a :: as, b :: bs, m, h => by
    unfold turned
    have h' : as.length = bs.length := by simpa using h
    split
    · rw [List.length_cons, turned_len as bs m h', List.length_cons]
    · rw [List.length_cons, turned_len as bs _ h', List.length_cons]
  | [], _ :: _, _, h => by simp at h
  | _ :: _, [], _, h => by simp at h
theorem turned_bit : ∀ (as bs : List Int) (m : Int), Bit as → Bit bs → Bit (turned as bs m)
  | [], _, _, _, _ => by
    unfold turned
    intro x h
    cases h
  | _ :: _, [], _, _, _ => by
    unfold turned
    intro x h
    cases h
  | a :: as, b :: bs, m, ha, hb => by
    have h1 := ha a List.mem_cons_self
    have h2 := hb b List.mem_cons_self
    have h3 : Bit as := fun x hx => ha x (List.mem_cons_of_mem _ hx)
    have h4 : Bit bs := fun x hx => hb x (List.mem_cons_of_mem _ hx)
    unfold turned
    split
    · intro x hx
      rcases List.mem_cons.mp hx with q | q
      · rw [q]; exact h1
      · exact turned_bit as bs m h3 h4 x q
    · intro x hx
      rcases List.mem_cons.mp hx with q | q
      · rw [q]
        split
        · exact h2
        · exact h1
      · exact turned_bit as bs _ h3 h4 x q
/-- below at each place -/
def Le : List Int → List Int → Prop
  | a :: as, b :: bs => a ≤ b ∧ Le as bs
  | [], [] => True
  | _, _ => False
theorem Le.refl : ∀ as : List Int, Le as as
  | [] => True.intro
  | a :: as => ⟨Int.le_refl a, Le.refl as⟩
theorem Le.len : ∀ {as bs : List Int}, Le as bs → as.length = bs.length
  | [], [], _ => rfl
  | _ :: as, _ :: bs, h => by rw [List.length_cons, List.length_cons, Le.len h.2]
  | [], _ :: _, h => h.elim
  | _ :: _, [], h => h.elim
/-- where nothing rises from as to bs, what is left lies between -/
theorem turned_down : ∀ {as bs : List Int} (m : Int), Le bs as → Le bs (turned as bs m) ∧ Le (turned as bs m) as
  | [], [], _, _ => ⟨True.intro, True.intro⟩
  | a :: as, b :: bs, m, h => by
    have i1 := turned_down (as := as) (bs := bs) m h.2
    have i2 := turned_down (as := as) (bs := bs) (m / 2) h.2
    have h1 := h.1
    unfold turned
    split
    · rename_i e
      exact ⟨⟨by omega, i1.1⟩, ⟨Int.le_refl a, i1.2⟩⟩
    · refine ⟨⟨?_, i2.1⟩, ⟨?_, i2.2⟩⟩ <;> split <;> omega
  | [], _ :: _, _, h => h.elim
  | _ :: _, [], _, h => h.elim
theorem turned_up : ∀ {as bs : List Int} (m : Int), Le as bs → Le as (turned as bs m) ∧ Le (turned as bs m) bs
  | [], [], _, _ => ⟨True.intro, True.intro⟩
  | a :: as, b :: bs, m, h => by
    have i1 := turned_up (as := as) (bs := bs) m h.2
    have i2 := turned_up (as := as) (bs := bs) (m / 2) h.2
    have h1 := h.1
    unfold turned
    split
    · rename_i e
      exact ⟨⟨Int.le_refl a, i1.1⟩, ⟨by omega, i1.2⟩⟩
    · refine ⟨⟨?_, i2.1⟩, ⟨?_, i2.2⟩⟩ <;> split <;> omega
  | [], _ :: _, _, h => h.elim
  | _ :: _, [], _, h => h.elim
theorem Le.trans : ∀ {as bs cs : List Int}, Le as bs → Le bs cs → Le as cs
  | [], [], [], _, _ => True.intro
  | _ :: _, _ :: _, _ :: _, h, h' => ⟨Int.le_trans h.1 h'.1, h.2.trans h'.2⟩
  | [], _ :: _, _, h, _ => h.elim
  | _ :: _, [], _, h, _ => h.elim
  | [], [], _ :: _, _, h => h.elim
  | _ :: _, _ :: _, [], _, h => h.elim
/-- nothing falls upward -/
theorem fallen_none : ∀ {as bs : List Int} (k : Int), Le as bs → fallenL k as bs = []
  | [], [], _, _ => rfl
  | a :: as, b :: bs, k, h => by
    have h1 := h.1
    unfold fallenL
    rw [if_neg (by omega)]
    exact fallen_none _ h.2
  | [], _ :: _, _, h => h.elim
  | _ :: _, [], _, h => h.elim
def zc (bs : List Int) : Int := ((bs.count 0 : Nat) : Int)
theorem zc_nil : zc [] = 0 := rfl
theorem zc_cons (b : Int) (bs : List Int) : zc (b :: bs) = (if b = 0 then 1 else 0) + zc bs := by
  unfold zc
  rw [List.count_cons]
  by_cases h : b = 0
  · simp [h]
    omega
  · simp [h]
/-- more zeros below, as many only if equal -/
theorem zc_le : ∀ {as bs : List Int}, Bit as → Bit bs → Le as bs → zc bs ≤ zc as ∧ (zc bs = zc as → as = bs)
  | [], [], _, _, _ => ⟨Int.le_refl _, fun _ => rfl⟩
  | a :: as, b :: bs, ha, hb, h => by
    have h1 := ha a List.mem_cons_self
    have h2 := hb b List.mem_cons_self
    have h3 : Bit as := fun x hx => ha x (List.mem_cons_of_mem _ hx)
    have h4 : Bit bs := fun x hx => hb x (List.mem_cons_of_mem _ hx)
    have h5 := h.1
    obtain ⟨i1, i2⟩ := zc_le h3 h4 h.2
    rw [zc_cons, zc_cons]
    rcases h1 with rfl | rfl <;> rcases h2 with rfl | rfl
    · refine ⟨by simp; omega, fun e => ?_⟩
      rw [i2 (by simp at e; omega)]
    · refine ⟨by simp; omega, fun e => ?_⟩
      simp at e
      omega
    · omega
    · refine ⟨by simp; omega, fun e => ?_⟩
      rw [i2 (by simp at e; omega)]
  | [], _ :: _, _, _, h => h.elim
  | _ :: _, [], _, _, h => h.elim
/-- zeros: what falls more, what rises less -/
theorem zc_diff : ∀ (as bs : List Int) (k l : Int), Bit as → Bit bs → as.length = bs.length → zc bs = zc as + ((fallenL k as bs).length : Int) - ((fallenL l bs as).length : Int)
  | [], [], _, _, _, _, _ => rfl
  | a :: as, b :: bs, k, l, ha, hb, hl => by
    have h1 := ha a List.mem_cons_self
    have h2 := hb b List.mem_cons_self
    have h3 : Bit as := fun x hx => ha x (List.mem_cons_of_mem _ hx)
    have h4 : Bit bs := fun x hx => hb x (List.mem_cons_of_mem _ hx)
    have i := zc_diff as bs (k + 1) (l + 1) h3 h4 (by simpa using hl)
    unfold fallenL
    rw [zc_cons, zc_cons]
    rcases h1 with rfl | rfl <;> rcases h2 with rfl | rfl <;> simp <;> omega
  | [], _ :: _, _, _, _, _, hl => by simp at hl
  | _ :: _, [], _, _, _, _, hl => by simp at hl
/-- both sets empty: equal -/
theorem fallen_both : ∀ (as bs : List Int) (k l : Int), Bit as → Bit bs → as.length = bs.length → fallenL k as bs = [] → fallenL l bs as = [] → as = bs
  | [], [], _, _, _, _, _, _, _ => rfl
  | a :: as, b :: bs, k, l, ha, hb, hl, e1, e2 => by
    have h1 := ha a List.mem_cons_self
    have h2 := hb b List.mem_cons_self
    have h3 : Bit as := fun x hx => ha x (List.mem_cons_of_mem _ hx)
    have h4 : Bit bs := fun x hx => hb x (List.mem_cons_of_mem _ hx)
    unfold fallenL at e1 e2
    rcases h1 with rfl | rfl <;> rcases h2 with rfl | rfl
    · simp at e1 e2
      rw [fallen_both as bs _ _ h3 h4 (by simpa using hl) e1 e2]
    · simp at e2
    · simp at e1
    · simp at e1 e2
      rw [fallen_both as bs _ _ h3 h4 (by simpa using hl) e1 e2]
  | [], _ :: _, _, _, _, _, hl, _, _ => by simp at hl
  | _ :: _, [], _, _, _, _, hl, _, _ => by simp at hl
theorem fallen_self : ∀ (as : List Int) (k : Int), fallenL k as as = []
  | [], _ => rfl
  | a :: as, k => by
    unfold fallenL
    rw [if_neg (by omega)]
    exact fallen_self as _
theorem fallen_len : ∀ (as bs : List Int) (k : Int), (fallenL k as bs).length ≤ as.length
  | [], _, _ => by simp [fallenL]
  | _ :: _, [], _ => by simp [fallenL]
  | a :: as, b :: bs, k => by
    unfold fallenL
    have i := fallen_len as bs (k + 1)
    split <;> simp only [List.length_cons] <;> omega
/-- the mask of no bit, and one that reaches beyond all -/
theorem turned_zero : ∀ (as bs : List Int), as.length = bs.length → turned as bs 0 = as
  | [], [], _ => rfl
  | a :: as, b :: bs, h => by
    have h' : as.length = bs.length := by simpa using h
    unfold turned
    split
    · rw [turned_zero as bs h']
    · have e : (0 : Int) / 2 = 0 := rfl
      rw [if_neg (by decide), e, turned_zero as bs h']
  | [], _ :: _, h => by simp at h
  | _ :: _, [], h => by simp at h
theorem unlike_eq : ∀ (as bs : List Int) (k l : Int), Bit as → Bit bs → as.length = bs.length → unlike as bs = (fallenL k as bs).length + (fallenL l bs as).length
  | [], [], _, _, _, _, _ => rfl
  | a :: as, b :: bs, k, l, ha, hb, hl => by
    have h1 := ha a List.mem_cons_self
    have h2 := hb b List.mem_cons_self
    have h3 : Bit as := fun x hx => ha x (List.mem_cons_of_mem _ hx)
    have h4 : Bit bs := fun x hx => hb x (List.mem_cons_of_mem _ hx)
    have i := unlike_eq as bs (k + 1) (l + 1) h3 h4 (by simpa using hl)
    unfold fallenL unlike
    rcases h1 with rfl | rfl <;> rcases h2 with rfl | rfl <;> simp <;> omega
  | [], _ :: _, _, _, _, _, hl => by simp at hl
  | _ :: _, [], _, _, _, _, hl => by simp at hl
theorem pow2_odd (n : Nat) : ((2 : Int) ^ (n + 1) - 1) % 2 = 1 ∧ ((2 : Int) ^ (n + 1) - 1) / 2 = 2 ^ n - 1 := by
  have e : (2 : Int) ^ (n + 1) = 2 * 2 ^ n := by rw [Int.pow_succ]; omega
  omega
/-- all ones up to the last unlike bit: the new ones -/
theorem turned_ones : ∀ (as bs : List Int) (n : Nat), as.length = bs.length → unlike as bs ≤ n → turned as bs (2 ^ n - 1) = bs
  | [], [], _, _, _ => rfl
  | a :: as, b :: bs, n, h, hu => by
    have h' : as.length = bs.length := by simpa using h
    unfold unlike at hu
    unfold turned
    split
    · rename_i e
      rw [if_pos e] at hu
      rw [turned_ones as bs n h' (by omega), e]
    · rename_i e
      rw [if_neg e] at hu
      obtain ⟨k, rfl⟩ : ∃ k, n = k + 1 := ⟨n - 1, by omega⟩
      obtain ⟨o1, o2⟩ := pow2_odd k
      rw [if_pos o1, o2, turned_ones as bs k h' (by omega)]
  | [], _ :: _, _, h, _ => by simp at h
  | _ :: _, [], _, h, _ => by simp at h
/-- a mask whose first n bits are 0, where at most n bits are unlike: nothing turns -/
theorem turned_beyond : ∀ (as bs : List Int) (n : Nat), as.length = bs.length → unlike as bs ≤ n → turned as bs (2 ^ n) = as
  | [], [], _, _, _ => rfl
  | a :: as, b :: bs, n, h, hu => by
    have h' : as.length = bs.length := by simpa using h
    unfold unlike at hu
    unfold turned
    split
    · rename_i e
      rw [if_pos e] at hu
      rw [turned_beyond as bs n h' (by omega)]
    · rename_i e
      rw [if_neg e] at hu
      obtain ⟨k, rfl⟩ : ∃ k, n = k + 1 := ⟨n - 1, by omega⟩
      have e1 : (2 : Int) ^ (k + 1) = 2 * 2 ^ k := by rw [Int.pow_succ]; omega
      have e2 : ((2 : Int) ^ (k + 1)) % 2 = 0 := by omega
      have e3 : ((2 : Int) ^ (k + 1)) / 2 = 2 ^ k := by omega
      rw [if_neg (by omega), e3, turned_beyond as bs k h' (by omega)]
  | [], _ :: _, _, h, _ => by simp at h
  | _ :: _, [], _, h, _ => by simp at h
/-- 4096 ones: the first 4096 unlike bits turn, the others stay -/
theorem turned_first : ∀ (n m : Nat), turned (List.replicate (n + m) 1) (List.replicate (n + m) 0) (2 ^ n - 1) = List.replicate n 0 ++ List.replicate m 1
  | 0, m => by
    have e : ((2 : Int) ^ 0 - 1) = 0 := rfl
    rw [e, Nat.zero_add, turned_zero _ _ (by simp)]
    simp
  | n + 1, m => by
    have e : n + 1 + m = (n + m) + 1 := by omega
    rw [e, List.replicate_succ, List.replicate_succ, List.replicate_succ]
    unfold turned
    obtain ⟨o1, o2⟩ := pow2_odd n
    rw [if_neg (by decide), if_pos o1, o2, turned_first n m]
    rfl
theorem fold_bound : ∀ (l : List Int) (n : Int), Bit l → 0 ≤ n → 0 ≤ l.foldl (fun n b => 2 * n + b) n ∧ l.foldl (fun n b => 2 * n + b) n + 1 ≤ (n + 1) * 2 ^ l.length
  | [], n, _, h => by simp [h]
  | b :: l, n, hb, h => by
    have h1 := hb b List.mem_cons_self
    have h2 : Bit l := fun x hx => hb x (List.mem_cons_of_mem _ hx)
    obtain ⟨i1, i2⟩ := fold_bound l (2 * n + b) h2 (by omega)
    refine ⟨i1, ?_⟩
    rw [List.foldl_cons, List.length_cons, Int.pow_succ]
    have p : (0 : Int) ≤ 2 ^ l.length := Int.pow_nonneg (by decide)
    have m : (2 * n + b + 1) * 2 ^ l.length ≤ (2 * (n + 1)) * 2 ^ l.length := Int.mul_le_mul_of_nonneg_right (by omega) p
    have e : (2 * (n + 1)) * 2 ^ l.length = (n + 1) * (2 ^ l.length * 2) := by
      rw [Int.mul_comm 2 (n + 1), Int.mul_assoc, Int.mul_comm 2]
    omega
theorem octOf_bound {l : List Int} (h : Bit l) (hl : l.length ≤ 8) : 0 ≤ octOf l ∧ octOf l < 256 := by
  obtain ⟨h1, h2⟩ := fold_bound l 0 h (Int.le_refl 0)
  have p : (2 : Int) ^ l.length ≤ 2 ^ 8 := by
    have q : (2 : Nat) ^ l.length ≤ 2 ^ 8 := Nat.pow_le_pow_right (by decide) hl
    exact_mod_cast q
  have e : (2 : Int) ^ 8 = 256 := rfl
  unfold octOf
  omega
theorem Bit.take {l : List Int} (h : Bit l) (n : Nat) : Bit (l.take n) := fun x hx => h x (List.mem_of_mem_take hx)
theorem Bit.drop {l : List Int} (h : Bit l) (n : Nat) : Bit (l.drop n) := fun x hx => h x (List.mem_of_mem_drop hx)
end BM
namespace K01
open PySem PySem.Spec PyProof.Rows L2 VB BM
section
variable {P : Program} {w : World} {K : PySem.W.Frag} {mg : Str → Option Value} {base : Heap} {f : Addr} {fd : FuncData}
/-! ### bits -/
abbrev ws8 : List Int := [128, 64, 32, 16, 8, 4, 2, 1]
theorem ws8_get {j : Nat} {u : Int} (h : ws8[j]? = some u) : 0 < u ∧ u ≤ 128 := by
  have m := List.mem_of_getElem? h
  simp only [ws8, List.mem_cons, List.not_mem_nil, or_false] at m
  omega
theorem bitsOf_ws (o : Int) : bitsOf o = ws8.map fun u => o / u % 2 := rfl
def spBits (K : PySem.W.Frag) : Sp := fun vs H Q _ => ∃ (a : Addr) (os : List Int) (t : Bool), vs = [.ref a] ∧ Sv t K H a (IV os) ∧ os.length ≤ 700 ∧ RL (IV (bitsL os)) H Q
theorem ok_bits (T : Txt K mg) (F : FnP K "_law_bits" s__law_bits f fd) : Fg P w K mg base CX0 1 f fd ["_law_octets_here"] (spBits K) := by
  refine fg_of F sc__law_bits (fun vs H Q E h => ?_) (fun cdv A outer s H vs Q E hr h => ⟨_, (PSs.nox (pss_cons (ps_set (i := 1) sc__law_bits.nd rfl (by first | exact Or.inl rfl | exact Or.inr rfl) (pe_lst pa_nil))
  (pss_cons (ps_for PassesOwn.never rfl (pi_seq (K := K) (pv 0)) (pg_name (i := 2) sc__law_bits.nd rfl (by first | exact Or.inl rfl | exact Or.inr rfl))
  (pss_one (ps_for PassesOwn.never rfl (pi_seq (K := K) (pe_lst (pa_cons pe_int (pa_cons pe_int (pa_cons pe_int (pa_cons pe_int (pa_cons pe_int (pa_cons pe_int (pa_cons pe_int (pa_cons pe_int pa_nil)))))))))) (pg_name (i := 3) sc__law_bits.nd rfl (by first | exact Or.inl rfl | exact Or.inr rfl))
  (pss_one (ps_expr (pe_bm PySem.F.plainAttrs_list PySem.F.slot_list_append PySem.F.type_list_append mt_append (pv 1) (pa_cons (pe_op u_mod (pe_callTy call_int1 (by rfl) T.f_int (by decide +kernel) (pa_cons (pe_op u_fdiv (pv 2) (pv 3)) pa_nil)) pe_int) pa_nil)))))))
  (pss_one (ps_ret (pv 1)))))), ?_⟩)
  · obtain ⟨a, os, t, rfl, _⟩ := h
    rfl
  · obtain ⟨a, os, t, rfl, S, hl, q⟩ := h
    have nz : (0 : Int) < 2 := by decide
    refine ⟨by show 0 ≤ sizeLine; decide, fun l hn => seq_var (t := t) rfl (S.ex (Evl.Ex.new hn)) fun J wk => ?_⟩
    rw [iv_len] at wk
    refine for_it wk (fun i σ H' => ∃ v1 v2 : Option V, σ = [some (.ref a), some (.ref l), v1, v2] ∧ Evl.Ex H H' ∧ H' l = some (.lst (IV (bitsL (os.take i))))) ⟨_, _, rfl, Evl.Ex.new hn, upd_same⟩ (fun i σ H' _ h => S.ex h.choose_spec.choose_spec.2.1) ?_ ?_
    · rintro i x σ H1 H2 hi ⟨v1, v2, rfl, e1, h1⟩ ⟨rfl, hx⟩
      obtain ⟨o, ho, rfl⟩ := iv_get hx
      -- the eight worths
      refine .inl ⟨by show 8 ≤ sizeLine; decide, fun p hp => ⟨p, rfl, ⟨_, SqL.of upd_same⟩, ?_⟩⟩
      have hpl : l ≠ p := by
        rintro rfl
        rw [hp] at h1
        cases h1
      refine for_it (walk_list (K := K) (a := p) (xs := IV ws8)) (fun j σ H' => ∃ v2 : Option V, σ = [some (.ref a), some (.ref l), some (.int o), v2] ∧ Evl.Ex H H' ∧ H' p = some (.lst (IV ws8)) ∧ H' l = some (.lst (IV (bitsL (os.take i) ++ (ws8.take j).map fun u => o / u % 2)))) ⟨v2, rfl, e1.trans (Evl.Ex.new hp), upd_same, ?_⟩ (fun j σ H' _ h => SqL.of h.choose_spec.2.2.1) ?_ ?_
      · rw [upd_ne hpl, h1]
        simp
      · rintro j x σ H1' H2' hj ⟨v2', rfl, e2, hp2, h2⟩ ⟨rfl, hx2⟩
        obtain ⟨u, hu, rfl⟩ := iv_get hx2
        obtain ⟨u1, u2⟩ := ws8_get hu
        refine ⟨_, rfl, .inl ⟨rfl, _, SqL.of h2⟩, _, rfl, _, rfl, _, _, rfl, rfl, ⟨by omega, by omega⟩, .inl ⟨_, rfl, _, _, rfl, rfl, nz, l, _, _, rfl, rfl, h2, ?_, ?_⟩⟩
        · rw [iv_len, List.length_append, bitsL_len, List.length_take, List.length_map, List.length_take]
          exact Evl.sz_lt (by simp; omega)
        · refine ⟨_, rfl, Evl.Ex.mut e2 hn, ?_, ?_⟩
          · rw [upd_ne (Ne.symm hpl)]
            exact hp2
          · rw [upd_same]
            dsimp only
            rw [iv_snoc, List.append_assoc, take_snoc hu, List.map_append]
            rfl
      · rintro σ H3 ⟨v3, rfl, e3, hp3, h3⟩
        refine ⟨_, _, rfl, e3, ?_⟩
        rw [h3, take_snoc ho, bitsL_append, bitsL_cons, bitsL_nil, List.append_nil, bitsOf_ws]
        rfl
    · rintro σ H' ⟨v1, v2, rfl, e1, h1⟩
      refine ⟨_, rfl, q l H' hn e1 ?_⟩
      rw [h1, List.take_length]
/-! ### octets -/
def spOctets (K : PySem.W.Frag) : Sp := fun vs H Q _ => ∃ (a : Addr) (bs : List Int), vs = [.ref a] ∧ SqL K H a (IV bs) ∧ Bit bs ∧ bs.length ≤ 6000 ∧ RT (IV (octetsL bs)) H Q
theorem octetsN_snoc : ∀ (n : Nat) (bs : List Int), octetsN (n + 1) bs = octetsN n bs ++ [octOf ((bs.drop (8 * n)).take 8)]
  | 0, bs => rfl
  | n + 1, bs => by
    show octOf (bs.take 8) :: octetsN (n + 1) (bs.drop 8) = octOf (bs.take 8) :: octetsN n (bs.drop 8) ++ _
    rw [octetsN_snoc n (bs.drop 8), List.drop_drop]
    have e : 8 + 8 * n = 8 * (n + 1) := by omega
    rw [e]
    rfl
theorem octetsN_len : ∀ (n : Nat) (bs : List Int), (octetsN n bs).length = n
  | 0, _ => rfl
  | n + 1, bs => by
    show (octetsN n (bs.drop 8)).length + 1 = _
    rw [octetsN_len n]
theorem cut8 (bs : List Int) (i : Nat) (hi : 8 * i ≤ bs.length) : cutV (IV bs) (some (0 + (i : Int) * 8)) (some (0 + (i : Int) * 8 + 8)) = IV ((bs.drop (8 * i)).take 8) := by
  have e1 : (0 : Int) + (i : Int) * 8 = ((8 * i : Nat) : Int) := by omega
  have e2 : ((8 * i : Nat) : Int) + 8 = ((8 * i + 8 : Nat) : Int) := by omega
  unfold cutV
  rw [e1, e2, HT.sIx_nat, HT.sIx_nat, iv_len, ← List.map_drop, ← List.map_take]
  have e3 : min (8 * i) bs.length = 8 * i := by omega
  rw [e3]
  congr 1
  rw [List.take_eq_take_iff, List.length_drop]
  omega
theorem octOf_snoc (bs : List Int) (b : Int) : octOf (bs ++ [b]) = 2 * octOf bs + b := by
  unfold octOf
  rw [List.foldl_append]
  rfl
theorem ok_octets (T : Txt K mg) (F : FnP K "_law_octets" s__law_octets f fd) : Fg P w K mg base CX0 1 f fd ["_law_bits_here"] (spOctets K) := by
  refine fg_of F sc__law_octets (fun vs H Q E h => ?_) (fun cdv A outer s H vs Q E hr h => ⟨_, (PSs.nox (pss_cons (ps_set (i := 1) sc__law_octets.nd rfl (by first | exact Or.inl rfl | exact Or.inr rfl) (pe_lst pa_nil))
  (pss_cons (ps_for PassesOwn.never rfl (pi_range3 rfl T.f_range (pa_cons pe_int (pa_cons (pe_callB (u_len (K := K)) (by rfl) T.f_len (by decide +kernel) (pa_cons (pv 0) pa_nil)) (pa_cons pe_int pa_nil)))) (pg_name (i := 2) sc__law_octets.nd rfl (by first | exact Or.inl rfl | exact Or.inr rfl))
  (pss_cons (ps_set (i := 3) sc__law_octets.nd rfl (by first | exact Or.inl rfl | exact Or.inr rfl) pe_int)
  (pss_cons (ps_for PassesOwn.never rfl (pi_seq (K := K) (pe_slice (u_sl (K := K)) (pv 0) (po_some (pv 2)) (po_some (pe_op (u_add (K := K)) (pv 2) pe_int)))) (pg_name (i := 4) sc__law_octets.nd rfl (by first | exact Or.inl rfl | exact Or.inr rfl))
  (pss_one (ps_set (i := 3) sc__law_octets.nd rfl (by first | exact Or.inl rfl | exact Or.inr rfl) (pe_op (u_add (K := K)) (pe_op (u_mul (K := K)) pe_int (pv 3)) (pv 4)))))
  (pss_one (ps_expr (pe_bm PySem.F.plainAttrs_list PySem.F.slot_list_append PySem.F.type_list_append mt_append (pv 1) (pa_cons (pv 3) pa_nil)))))))
  (pss_one (ps_ret (pe_callTy (u_tup (K := K)) (by rfl) T.f_tuple (by decide +kernel) (pa_cons (pv 1) pa_nil))))))), ?_⟩)
  · obtain ⟨a, bs, rfl, _⟩ := h
    rfl
  · obtain ⟨a, bs, rfl, S, hbit, hl, q⟩ := h
    have rg := rg_up (n := (bs.length : Int)) (c := 8) (by omega) (by omega) (by decide) (by decide)
    have nn : (((bs.length : Int) + 8 - 1) / 8).toNat = (bs.length + 7) / 8 := by omega
    rw [nn] at rg
    refine ⟨by show 0 ≤ sizeLine; decide, fun l hn => ⟨_, rfl, _, _, rfl, .inl ⟨_, Evl.ex_l (Evl.Ex.new hn) S, rfl⟩, 0, bs.length, 8, (bs.length + 7) / 8, by rw [iv_len], rg, ?_⟩⟩
    refine for_rangeC (fun i σ H' => ∃ v1 v2 v3 : Option V, σ = [some (.ref a), some (.ref l), v1, v2, v3] ∧ Evl.Ex H H' ∧ H' l = some (.lst (IV (octetsN i bs)))) ⟨_, _, _, rfl, Evl.Ex.new hn, upd_same⟩ ?_ ?_
    · rintro i σ H1 hi ⟨v1, v2, v3, rfl, e1, h1⟩
      have hi2 : 8 * i ≤ bs.length := by omega
      have S1 := Evl.ex_l e1 S
      refine .inl ⟨_, rfl, _, rfl, _, rfl, _, rfl, .inl ⟨_, _, rfl, rfl, _, rfl, .inl ⟨a, _, rfl, S1, fun p hp => ⟨p, rfl, ⟨_, SqL.of upd_same⟩, ?_⟩⟩⟩⟩
      have hpl : l ≠ p := by
        rintro rfl
        rw [hp] at h1
        cases h1
      have e3 := cut8 bs i hi2
      obtain ⟨c8, hc8⟩ : ∃ c8, c8 = (bs.drop (8 * i)).take 8 := ⟨_, rfl⟩
      rw [← hc8] at e3
      have e4 : octetsN (i + 1) bs = octetsN i bs ++ [octOf c8] := by rw [octetsN_snoc, hc8]
      refine for_it (walk_list (K := K) (a := p) (xs := IV c8)) (fun j σ H' => ∃ v3 : Option V, σ = [some (.ref a), some (.ref l), some (.int (0 + (i : Int) * 8)), some (.int (octOf (c8.take j))), v3] ∧ Evl.Ex H H' ∧ H' p = some (.lst (IV c8)) ∧ H' l = some (.lst (IV (octetsN i bs)))) ⟨v3, rfl, e1.trans (Evl.Ex.new hp), ?_, ?_⟩ (fun j σ H' _ h => SqL.of h.choose_spec.2.2.1) ?_ ?_
      · rw [upd_same]
        exact congrArg (fun z => some (HO.lst z)) e3
      · rw [upd_ne hpl, h1]
      · rintro j x σ H1' H2' hj ⟨v3', rfl, e2, hp2, h2⟩ ⟨rfl, hx2⟩
        obtain ⟨b, hb, rfl⟩ := iv_get hx2
        have km : CMulX 2 (octOf (c8.take j)) := by
          have z := octOf_bound (l := c8.take j) (by rw [hc8]; exact ((hbit.drop _).take _).take _) (by rw [hc8, List.length_take, List.length_take]; omega)
          exact mulx_ok (a := 30) (b := 30) (by decide) (by show _ < 1073741824; omega) (by decide)
        refine ⟨_, rfl, .inl ⟨_, _, rfl, rfl, km, _, rfl, .inl ⟨_, _, rfl, rfl, some (.int b), ?_, e2, hp2, h2⟩⟩⟩
        rw [take_snoc hb, octOf_snoc]
        rfl
      · rintro σ H3 ⟨v3', rfl, e5, hp3, h3⟩
        rw [iv_len, List.take_length]
        refine ⟨_, rfl, .inl ⟨rfl, _, SqL.of h3⟩, _, rfl, l, _, _, rfl, rfl, h3, ?_, ?_⟩
        · rw [iv_len, octetsN_len]
          exact Evl.sz_lt (by omega)
        · refine ⟨_, _, _, rfl, Evl.Ex.mut e5 hn, ?_⟩
          rw [upd_same, e4, iv_snoc]
    · rintro σ H' ⟨v1, v2, v3, rfl, e1, h1⟩
      refine ⟨_, rfl, l, _, rfl, .inl ⟨SqL.of h1, fun p hp => ?_⟩⟩
      exact q p _ (Evl.fresh_back e1 hp) (e1.trans (Evl.Ex.new hp)) upd_same
end
end K01
/-! bits of octets and the operators on bits -/
namespace BM
/-- bit k of a number, as an int -/
def tb (n k : Nat) : Int := if n.testBit k then 1 else 0
theorem tb_div (n k : Nat) : ((n : Int) / ((2 ^ k : Nat) : Int)) % 2 = tb n k := by
  unfold tb
  rw [Nat.testBit_eq_decide_div_mod_eq]
  have e : ((n : Int) / ((2 ^ k : Nat) : Int)) % 2 = ((n / 2 ^ k % 2 : Nat) : Int) := by simp
  rw [e]
  by_cases h : n / 2 ^ k % 2 = 1
  · rw [h]
    simp
  · have h0 : n / 2 ^ k % 2 = 0 := by omega
    rw [h0]
    simp
theorem bitsOf_tb (n : Nat) : bitsOf (n : Int) = [tb n 7, tb n 6, tb n 5, tb n 4, tb n 3, tb n 2, tb n 1, tb n 0] := by
  have h7 := tb_div n 7
  have h6 := tb_div n 6
  have h5 := tb_div n 5
  have h4 := tb_div n 4
  have h3 := tb_div n 3
  have h2 := tb_div n 2
  have h1 := tb_div n 1
  have h0 := tb_div n 0
  unfold bitsOf
  rw [← h7, ← h6, ← h5, ← h4, ← h3, ← h2, ← h1, ← h0]
  rfl
theorem tb_bit (n k : Nat) : tb n k = 0 ∨ tb n k = 1 := by
  unfold tb
  split
  · exact .inr rfl
  · exact .inl rfl
theorem tb_and (a b k : Nat) : tb (a &&& b) k = if tb a k = 1 ∧ tb b k = 1 then 1 else 0 := by
  unfold tb
  rw [Nat.testBit_and]
  cases a.testBit k <;> cases b.testBit k <;> simp
theorem tb_or (a b k : Nat) : tb (a ||| b) k = if tb a k = 1 ∨ tb b k = 1 then 1 else 0 := by
  unfold tb
  rw [Nat.testBit_or]
  cases a.testBit k <;> cases b.testBit k <;> simp
theorem tb_xor (a b k : Nat) : tb (a ^^^ b) k = if tb a k = tb b k then 0 else 1 := by
  unfold tb
  rw [Nat.testBit_xor]
  cases a.testBit k <;> cases b.testBit k <;> simp
theorem le_app : ∀ {a b c d : List Int}, Le a b → Le c d → Le (a ++ c) (b ++ d)
  | [], [], _, _, _, h => h
  | _ :: _, _ :: _, _, _, h, h' => ⟨h.1, le_app h.2 h'⟩
  | [], _ :: _, _, _, h, _ => h.elim
  | _ :: _, [], _, _, h, _ => h.elim
theorem and_le (a b : Nat) : Le (bitsOf ((a &&& b : Nat) : Int)) (bitsOf (a : Int)) := by
  have key : ∀ k, tb (a &&& b) k ≤ tb a k := by
    intro k
    rw [tb_and]
    have := tb_bit a k
    split <;> omega
  rw [bitsOf_tb, bitsOf_tb]
  exact ⟨key 7, key 6, key 5, key 4, key 3, key 2, key 1, key 0, True.intro⟩
theorem le_or (a b : Nat) : Le (bitsOf (a : Int)) (bitsOf ((a ||| b : Nat) : Int)) := by
  have key : ∀ k, tb a k ≤ tb (a ||| b) k := by
    intro k
    rw [tb_or]
    have := tb_bit a k
    split <;> omega
  rw [bitsOf_tb, bitsOf_tb]
  exact ⟨key 7, key 6, key 5, key 4, key 3, key 2, key 1, key 0, True.intro⟩
theorem bits255 : bitsOf 255 = [1, 1, 1, 1, 1, 1, 1, 1] := by decide
theorem le_255 (o : Int) : Le (bitsOf o) (bitsOf 255) := by
  have key : ∀ b ∈ bitsOf o, b ≤ 1 := fun b hb => by
    have := bitsOf_bit hb
    omega
  rw [bits255]
  unfold bitsOf at key ⊢
  exact ⟨key _ (by simp), key _ (by simp), key _ (by simp), key _ (by simp), key _ (by simp), key _ (by simp), key _ (by simp), key _ (by simp), True.intro⟩
/-- lists of octets, pair by pair -/
theorem bitsL_le : ∀ {xs ys : List Int}, xs.length = ys.length → (∀ p ∈ xs.zip ys, Le (bitsOf p.1) (bitsOf p.2)) → Le (bitsL xs) (bitsL ys)
  | [], [], _, _ => True.intro
  | x :: xs, y :: ys, hl, h => by
    rw [bitsL_cons, bitsL_cons]
    exact le_app (h (x, y) (by simp)) (bitsL_le (by simpa using hl) fun p hp => h p (by simp [hp]))
  | [], _ :: _, hl, _ => by simp at hl
  | _ :: _, [], hl, _ => by simp at hl
theorem nat_of {o : Int} (h : 0 ≤ o) : ∃ n : Nat, o = n := ⟨o.toNat, by omega⟩
theorem and_oct {a b : Nat} (ha : a ≤ 255) : (a &&& b) ≤ 255 := Nat.le_trans Nat.and_le_left ha
theorem or_oct {a b : Nat} (ha : a ≤ 255) (hb : b ≤ 255) : (a ||| b) ≤ 255 := by
  have h : (a ||| b) < 2 ^ 8 := Nat.or_lt_two_pow (by omega) (by omega)
  omega
theorem xor_oct {a b : Nat} (ha : a ≤ 255) (hb : b ≤ 255) : (a ^^^ b) ≤ 255 := by
  have h : (a ^^^ b) < 2 ^ 8 := Nat.xor_lt_two_pow (by omega) (by omega)
  omega
/-- one more bit -/
theorem fallen_snoc : ∀ (as bs : List Int) (k x y : Int), as.length = bs.length → fallenL k (as ++ [x]) (bs ++ [y]) = fallenL k as bs ++ (if x = 1 ∧ y = 0 then [k + (as.length : Int)] else [])
  | [], [], k, x, y, _ => by
    simp [fallenL]
  | a :: as, b :: bs, k, x, y, h => by
    have i := fallen_snoc as bs (k + 1) x y (by simpa using h)
    rw [List.cons_append, List.cons_append]
    unfold fallenL
    have e : k + 1 + (as.length : Int) = k + ((a :: as).length : Int) := by
      rw [List.length_cons]
      omega
    rw [e] at i
    split <;> simp [i]
  | [], _ :: _, _, _, _, h => by simp at h
  | _ :: _, [], _, _, _, h => by simp at h
end BM
namespace K01
open PySem PySem.Spec PyProof.Rows L2 VB BM
section
variable {P : Program} {w : World} {K : PySem.W.Frag} {mg : Str → Option Value} {base : Heap} {f : Addr} {fd : FuncData}
theorem if_ne {x y : Int} {A B : Prop} (h1 : x ≠ y → A) (h2 : x = y → B) : if (!decide (V.int x = V.int y)) = true then A else B := by
  by_cases e : x = y
  · rw [decide_eq_true (congrArg V.int e)]
    exact iteF (h2 e)
  · rw [decide_eq_false (fun z => e (V.int.inj z))]
    exact iteT (h1 e)
theorem if_eq {x y : Int} {A B : Prop} (h1 : x = y → A) (h2 : x ≠ y → B) : if decide (V.int x = V.int y) = true then A else B := by
  by_cases e : x = y
  · rw [decide_eq_true (congrArg V.int e)]
    exact iteT (h1 e)
  · rw [decide_eq_false (fun z => e (V.int.inj z))]
    exact iteF (h2 e)
theorem drop_get {α : Type} {l : List α} {i : Nat} {x : α} (h : l[i]? = some x) : l.drop i = x :: l.drop (i + 1) := by
  obtain ⟨hi, e⟩ := List.getElem?_eq_some_iff.mp h
  rw [List.drop_eq_getElem_cons hi, e]
theorem get_lt {α : Type} {l : List α} {i : Nat} (h : i < l.length) : ∃ x, l[i]? = some x := ⟨l[i], by simp [h]⟩
theorem iv_set (pre post : List Int) (x y : Int) : (IV (pre ++ x :: post)).set pre.length (V.int y) = IV (pre ++ y :: post) := by
  rw [← List.map_set, List.set_append_right _ _ (Nat.le_refl _)]
  simp
theorem turned_cons (x y m : Int) (as bs : List Int) : turned (x :: as) (y :: bs) m = if x = y then x :: turned as bs m else (if m % 2 = 1 then y else x) :: turned as bs (m / 2) := by
  rw [turned]
/-! ### what a cut leaves, bit by bit -/
def spTurned (K : PySem.W.Frag) : Sp := fun vs H Q _ => ∃ (a b : Addr) (as bs : List Int) (m : Int), vs = [.ref a, .ref b, .int m] ∧ SqL K H a (IV as) ∧ SqL K H b (IV bs) ∧ as.length = bs.length ∧ as.length ≤ 6000 ∧ RL (IV (turned as bs m)) H Q
theorem ok_turned (T : Txt K mg) (F : FnP K "_law_turned" s__law_turned f fd) : Fg P w K mg base CX0 1 f fd ["_law_old", "_law_new", "_law_mask_here"] (spTurned K) := by
  refine fg_of F sc__law_turned (fun vs H Q E h => ?_) (fun cdv A outer s H vs Q E hr h => ⟨_, (PSs.nox (pss_cons (ps_par (i := 3) (j := 4) rfl sc__law_turned.nd rfl rfl (by decide) rfl rfl (pa_cons (pe_callTy (u_list (K := K)) (by rfl) T.f_list (by decide +kernel) (pa_cons (pv 0) pa_nil)) (pa_cons (pv 2) pa_nil)) (by rfl))
  (pss_cons (ps_for PassesOwn.never rfl (pi_range1 rfl T.f_range (pa_cons (pe_callB (u_len (K := K)) (by rfl) T.f_len (by decide +kernel) (pa_cons (pv 0) pa_nil)) pa_nil)) (pg_name (i := 5) sc__law_turned.nd rfl (by first | exact Or.inl rfl | exact Or.inr rfl))
  (pss_one (ps_if (pt_cmpR (u_ne (K := K) hr) (pe_ix (u_ix (K := K)) (pv 0) (pv 5) (fun _ _ => rfl)) (pe_ix (u_ix (K := K)) (pv 1) (pv 5) (fun _ _ => rfl)) (nomark _))
  (pss_cons (ps_if (pt_cmpR (u_eq (K := K) hr) (pe_op u_mod (pe_callTy call_int1 (by rfl) T.f_int (by decide +kernel) (pa_cons (pv 4) pa_nil)) pe_int) pe_int (nomark _))
  (pss_one (ps_asg (pe_ix (u_ix (K := K)) (pv 1) (pv 5) (fun _ _ => rfl)) (pg_sub (pv 3) (pv 5) set_list))) pss_nil)
  (pss_one (ps_set (i := 4) sc__law_turned.nd rfl (by first | exact Or.inl rfl | exact Or.inr rfl) (pe_op u_fdiv (pv 4) pe_int)))) pss_nil)))
  (pss_one (ps_ret (pv 3)))))), ?_⟩)
  · obtain ⟨a, b, as, bs, m, rfl, _⟩ := h
    rfl
  · obtain ⟨a, b, as, bs, m, rfl, Sa, Sb, hl, hz, q⟩ := h
    have n2 : (0 : Int) < 2 := by decide
    refine ⟨_, rfl, a, _, rfl, .inl Sa, fun l hn => ⟨_, rfl, _, _, rfl, ?_⟩⟩
    have Sa1 := Evl.ex_l (Evl.Ex.new (o := .lst (IV as)) hn) Sa
    refine ⟨_, rfl, _, _, rfl, .inl ⟨_, Sa1, rfl⟩, (as.length : Int), ?_, by omega, by omega, ?_⟩
    · rw [iv_len]
    refine for_range (lo := 0) (n := ((as.length : Int)).toNat) (fun i σ H' => ∃ (v : Option V) (pre : List Int) (left : Int), σ = [some (.ref a), some (.ref b), some (.int m), some (.ref l), some (.int left), v] ∧ Evl.Ex H H' ∧ pre.length = i ∧ i ≤ as.length ∧
      H' l = some (.lst (IV (pre ++ as.drop i))) ∧ turned as bs m = pre ++ turned (as.drop i) (bs.drop i) left) ⟨none, [], m, rfl, Evl.Ex.new hn, rfl, Nat.zero_le _, upd_same, rfl⟩ ?_ ?_
    · rintro i σ H1 hi ⟨v, pre, left, rfl, e1, hp, hi2, h1, ht⟩
      have hia : i < as.length := by omega
      obtain ⟨x, hx⟩ := get_lt hia
      obtain ⟨y, hy⟩ := get_lt (l := bs) (i := i) (by omega)
      rw [drop_get hx, drop_get hy] at ht
      rw [drop_get hx] at h1
      have Sa2 := Evl.ex_l e1 Sa
      have Sb2 := Evl.ex_l e1 Sb
      have e0 : (0 : Int) + (i : Int) = (i : Int) := Int.zero_add _
      rw [e0]
      refine ⟨_, rfl, _, rfl, .inl ⟨a, _, _, _, rfl, rfl, Sa2, iv_at hx, _, rfl, _, rfl, .inl ⟨b, _, _, _, rfl, rfl, Sb2, iv_at hy, .inl ⟨rfl, _, rfl, ?_⟩⟩⟩⟩
      refine if_ne (fun ne => ?_) (fun e => ?_)
      · rw [turned_cons, if_neg ne] at ht
        refine ⟨_, rfl, .inl ⟨_, rfl, _, _, rfl, rfl, n2, .inl ⟨rfl, _, rfl, ?_⟩⟩⟩
        refine if_eq (fun o1 => ?_) (fun o0 => ?_)
        · rw [if_pos o1] at ht
          refine ⟨_, rfl, _, rfl, .inl ⟨b, _, _, _, rfl, rfl, Sb2, iv_at hy, _, rfl, _, rfl, l, _, _, i, rfl, rfl, h1, ?_, ?_⟩⟩
          · rw [iv_len, List.length_append, List.length_cons]
            exact Evl.ixN_nat (by omega)
          · refine ⟨_, rfl, _, _, rfl, rfl, ⟨n2, by decide⟩, _, pre ++ [y], left / 2, rfl, Evl.Ex.mut e1 hn, ?_, by omega, ?_, ?_⟩
            · rw [List.length_append, hp]
              rfl
            · rw [upd_same, ← hp, iv_set, List.append_assoc]
              rfl
            · rw [ht, List.append_assoc]
              rfl
        · rw [if_neg o0] at ht
          refine ⟨_, rfl, _, _, rfl, rfl, ⟨n2, by decide⟩, _, pre ++ [x], left / 2, rfl, e1, ?_, by omega, ?_, ?_⟩
          · rw [List.length_append, hp]
            rfl
          · rw [h1, List.append_assoc]
            rfl
          · rw [ht, List.append_assoc]
            rfl
      · rw [turned_cons, if_pos e] at ht
        refine ⟨_, pre ++ [x], left, rfl, e1, ?_, by omega, ?_, ?_⟩
        · rw [List.length_append, hp]
          rfl
        · rw [h1, List.append_assoc]
          rfl
        · rw [ht, List.append_assoc]
          rfl
    · rintro σ H' ⟨v, pre, left, rfl, e1, hp, hi2, h1, ht⟩
      have nn : ((as.length : Int)).toNat = as.length := by omega
      rw [nn] at h1 ht
      refine ⟨_, rfl, q l H' hn e1 ?_⟩
      rw [h1, ht, List.drop_length, hl, List.drop_length]
      rfl
/-! ### which bits fall -/
def spFallen (K : PySem.W.Frag) : Sp := fun vs H Q _ => ∃ (a b : Addr) (as bs : List Int), vs = [.ref a, .ref b] ∧ SqL K H a (IV as) ∧ SqL K H b (IV bs) ∧ as.length = bs.length ∧ as.length ≤ 6000 ∧ RL (IV (fallenL 0 as bs)) H Q
theorem ok_fallen (T : Txt K mg) (F : FnP K "_law_fallen" s__law_fallen f fd) : Fg P w K mg base CX0 1 f fd ["_law_old", "_law_new"] (spFallen K) := by
  refine fg_of F sc__law_fallen (fun vs H Q E h => ?_) (fun cdv A outer s H vs Q E hr h => ⟨_, (PSs.nox (pss_one (ps_ret (pe_lc (own := [("_law_at", 2)]) rfl sc__law_fallen.nd (pi_range1 rfl T.f_range (pa_cons (pe_callB (u_len (K := K)) (by rfl) T.f_len (by decide +kernel) (pa_cons (pv 0) pa_nil)) pa_nil)) (blkOk_by (own := [("_law_at", 2)]) (N := ["_law_old", "_law_new", "_law_at"]) (sc := defScope s__law_fallen) (by decide +kernel)) (fun _ _ _ _ _ => (pg_name (i := 2) sc__law_fallen.nd rfl (by first | exact Or.inl rfl | exact Or.inr rfl))) (fun _ _ _ _ _ => (pts_one (PW.pt (pw_and (pt_cmpR (u_eq (K := K) hr) (pe_ix (u_ix (K := K)) (pv 0) (pv 2) (fun _ _ => rfl)) pe_int (nomark _)) (pw_and1 (pt_cmpR (u_eq (K := K) hr) (pe_ix (u_ix (K := K)) (pv 1) (pv 2) (fun _ _ => rfl)) pe_int (nomark _))))))) (fun _ _ _ _ _ => (pv 2)))))), ?_⟩)
  · obtain ⟨a, b, as, bs, rfl, _⟩ := h
    rfl
  · obtain ⟨a, b, as, bs, rfl, Sa, Sb, hl, hz, q⟩ := h
    refine ⟨_, rfl, _, _, rfl, .inl ⟨_, Sa, rfl⟩, (as.length : Int), ?_, by omega, by omega, fun D hD => ?_⟩
    · rw [iv_len]
    refine lc_range (lo := 0) (n := ((as.length : Int)).toNat) (fun i H' => Evl.Ex H H' ∧ i ≤ as.length ∧ H' D = some (.lst (IV (fallenL 0 (as.take i) (bs.take i))))) ⟨Evl.Ex.new hD, Nat.zero_le _, upd_same⟩ ?_ ?_
    · rintro i H1 hi ⟨e1, hi2, h1⟩
      have hia : i < as.length := by omega
      obtain ⟨x, hx⟩ := get_lt hia
      obtain ⟨y, hy⟩ := get_lt (l := bs) (i := i) (by omega)
      have Sa2 := Evl.ex_l e1 Sa
      have Sb2 := Evl.ex_l e1 Sb
      have e0 : (0 : Int) + (i : Int) = (i : Int) := Int.zero_add _
      have len : (as.take i).length = i := by rw [List.length_take]; omega
      have sn := fallen_snoc (as.take i) (bs.take i) 0 x y (by rw [List.length_take, List.length_take]; omega)
      rw [len, e0] at sn
      rw [e0]
      have lt : (IV (fallenL 0 (as.take i) (bs.take i))).length < sizeLine := by
        rw [iv_len]
        have := fallen_len (as.take i) (bs.take i) 0
        exact Evl.sz_lt (by omega)
      refine ⟨rfl, _, rfl, _, rfl, .inl ⟨a, _, _, _, rfl, rfl, Sa2, iv_at hx, .inl ⟨rfl, _, rfl, ?_⟩⟩⟩
      refine if_eq (fun x1 => ?_) (fun x0 => ?_)
      · refine ⟨_, rfl, _, rfl, .inl ⟨b, _, _, _, rfl, rfl, Sb2, iv_at hy, .inl ⟨rfl, _, rfl, ?_⟩⟩⟩
        refine if_eq (fun y1 => ?_) (fun y0 => ?_)
        · refine ⟨_, rfl, _, h1, lt, Evl.Ex.mut e1 hD, by omega, ?_⟩
          rw [upd_same, take_snoc hx, take_snoc hy, sn, if_pos ⟨x1, y1⟩, iv_snoc]
        · refine ⟨e1, by omega, ?_⟩
          rw [h1, take_snoc hx, take_snoc hy, sn, if_neg (fun z => y0 z.2), List.append_nil]
      · refine iteF ⟨e1, by omega, ?_⟩
        rw [h1, take_snoc hx, take_snoc hy, sn, if_neg (fun z => x0 z.1), List.append_nil]
    · rintro H' ⟨e1, hi2, h1⟩
      have nn : ((as.length : Int)).toNat = as.length := by omega
      rw [nn, List.take_length, hl, List.take_length] at h1
      exact q D H' hD e1 h1
end
end K01
namespace K01
open PySem PySem.Spec PyProof.Rows L2 VB BM
/-! ### masks -/
/-- beyond all masks -/
def MM : Int := 2 ^ 4096
theorem MM_eq : (1 : Int) * 2 ^ (4096 : Int).toNat = MM := by
  have e : (4096 : Int).toNat = 4096 := rfl
  rw [e, Int.one_mul]
  rfl
theorem pow_nn (k : Nat) : (0 : Int) < 2 ^ k := Int.pow_pos (by decide)
theorem pow_mono {a b : Nat} (h : a ≤ b) : (2 : Int) ^ a ≤ 2 ^ b := by
  have q : (2 : Nat) ^ a ≤ 2 ^ b := Nat.pow_le_pow_right (by decide) h
  have q2 : (((2 : Nat) ^ a : Nat) : Int) ≤ ((2 ^ b : Nat) : Int) := Int.ofNat_le.mpr q
  simpa using q2
theorem MM_half {k : Nat} (h : k ≤ 4095) : 2 * (2 : Int) ^ k ≤ MM := by
  have q := pow_mono (a := k + 1) (b := 4096) (by omega)
  rw [Int.pow_succ] at q
  unfold MM
  omega
theorem lt_natAbs {x : Int} {n : Nat} (h0 : 0 ≤ x) (h : x < 2 ^ n) : x.natAbs < 2 ^ n := by
  have e : (x.natAbs : Int) = x := Int.natAbs_of_nonneg h0
  have q : (x.natAbs : Int) < ((2 ^ n : Nat) : Int) := by
    rw [e]
    simpa using h
  exact Int.ofNat_lt.mp q
theorem more_bits {x w : Int} {n : Nat} (h0 : 0 ≤ x) (h : x < 2 ^ n) (w0 : 0 ≤ w) (w1 : w < 2 ^ 48) : 0 ≤ x * 2 ^ 48 + w ∧ x * 2 ^ 48 + w < 2 ^ (n + 48) := by
  rw [Int.pow_add]
  have p : (0 : Int) < 2 ^ 48 := pow_nn 48
  have m : (x + 1) * 2 ^ 48 ≤ 2 ^ n * 2 ^ 48 := Int.mul_le_mul_of_nonneg_right (by omega) (Int.le_of_lt p)
  rw [Int.add_mul, Int.one_mul] at m
  have m0 : 0 ≤ x * 2 ^ 48 := Int.mul_nonneg h0 (Int.le_of_lt p)
  omega
section
variable {P : Program} {w : World} {K : PySem.W.Frag} {mg : Str → Option Value} {base : Heap} {f : Addr} {fd : FuncData}
def spMask : Sp := fun vs H Q _ => ∃ (a : Addr) (many n : Int), vs = [.ref a, .int many] ∧ Box H a n ∧ 0 ≤ many ∧ many ≤ 4000 ∧ n < 80000000 ∧
  ∀ (m : Int) (H' : Hp), 0 ≤ m → m < MM → Exb a H H' → Box H' a (n + 9) → Q (.int m) H'
theorem ok_mask (T : Txt K mg) (F : FnP K "_law_mask" s__law_mask f fd) (C__law_take : Cal P w K mg base CX0 1 "_law_take" ["_law_box_here", "_law_many"] spTake) : Fg P w K mg base CX0 2 f fd ["_law_box_here", "_law_many"] spMask := by
  refine fg_of F sc__law_mask (fun vs H Q E h => ?_) (fun cdv A outer s H vs Q E hr h => ⟨_, (PSs.nox (pss_cons (ps_par3 (i := 2) (j := 3) (l := 4) rfl sc__law_mask.nd rfl rfl rfl (by decide) (by decide) (by decide) rfl rfl rfl (pa_cons (pe_op op_sub (pe_op (op_oneShl.or op_shl) pe_int pe_int) pe_int) (pa_cons (pe_cal C__law_take hr.le pass0 (pa_cons (pv 0) (pa_cons pe_int pa_nil))) (pa_cons (pe_cal C__law_take hr.le pass0 (pa_cons (pv 0) (pa_cons (pe_op (u_add (K := K)) (pv 1) pe_int) pa_nil))) pa_nil))) (by rfl))
  (pss_cons (ps_if (pt_cmpR (u_eq (K := K) hr) (pv 3) pe_int (nomark _))
  (pss_one (ps_ret pe_int)) pss_nil)
  (pss_cons (ps_if (pt_cmpR (u_eq (K := K) hr) (pv 3) pe_int (nomark _))
  (pss_one (ps_ret (pv 2))) pss_nil)
  (pss_cons (ps_if (pt_cmpR (u_eq (K := K) hr) (pv 3) pe_int (nomark _))
  (pss_one (ps_ret (pe_op (op_oneShl.or op_shl) pe_int (pv 4)))) pss_nil)
  (pss_cons (ps_if (pt_cmpR (u_eq (K := K) hr) (pv 3) pe_int (nomark _))
  (pss_one (ps_ret (pe_op op_sub (pv 2) (pe_op (op_oneShl.or op_shl) pe_int (pv 4))))) pss_nil)
  (pss_cons (ps_if (pt_cmpR (u_eq (K := K) hr) (pv 3) pe_int (nomark _))
  (pss_one (ps_ret (pe_op (op_oneShl.or op_shl) pe_int pe_int))) pss_nil)
  (pss_cons (ps_set (i := 5) sc__law_mask.nd rfl (by first | exact Or.inl rfl | exact Or.inr rfl) pe_int)
  (pss_cons (ps_for PassesOwn.never rfl (pi_range1 rfl T.f_range (pa_cons pe_int pa_nil)) (pg_name (i := 6) sc__law_mask.nd rfl (by first | exact Or.inl rfl | exact Or.inr rfl))
  (pss_one (ps_set (i := 5) sc__law_mask.nd rfl (by first | exact Or.inl rfl | exact Or.inr rfl) (pe_op (u_add (K := K)) (pe_op (u_mul (K := K)) (pv 5) pe_int) (pe_cal C__law_take hr.le pass0 (pa_cons (pv 0) (pa_cons pe_int pa_nil)))))))
  (pss_cons (ps_set (i := 7) sc__law_mask.nd rfl (by first | exact Or.inl rfl | exact Or.inr rfl) (pv 5))
  (pss_cons (ps_for PassesOwn.never rfl (pi_range1 rfl T.f_range (pa_cons (pe_ix (u_ix (K := K)) (pe_lst (pa_cons pe_int (pa_cons pe_int (pa_cons pe_int (pa_cons pe_int pa_nil))))) (pe_cal C__law_take hr.le pass0 (pa_cons (pv 0) (pa_cons pe_int pa_nil))) (fun _ _ => rfl)) pa_nil)) (pg_name (i := 6) sc__law_mask.nd rfl (by first | exact Or.inl rfl | exact Or.inr rfl))
  (pss_one (ps_set (i := 7) sc__law_mask.nd rfl (by first | exact Or.inl rfl | exact Or.inr rfl) (pe_op (u_add (K := K)) (pe_op (u_mul (K := K)) (pv 7) (pe_op op_pow pe_int pe_int)) (pv 5)))))
  (pss_one (ps_ret (pv 7)))))))))))))), ?_⟩)
  · obtain ⟨a, many, n, rfl, _⟩ := h
    rfl
  · obtain ⟨a, many, n, rfl, B, m0, m1, hn, q⟩ := h
    have cq : CPow 2 48 := ⟨by decide, by decide, by decide⟩
    refine .inl ⟨4096, rfl, rfl, by decide, _, _, rfl, rfl, _, rfl, a, 8, n, rfl, B, by omega, by omega, by omega, fun r1 H1 p1 p2 e1 B1 => ?_⟩
    refine ⟨_, rfl, _, rfl, .inl ⟨_, _, rfl, rfl, a, _, n + 1, rfl, B1, by omega, by omega, by omega, fun r2 H2 p3 p4 e2 B2 => ⟨_, _, _, rfl, ?_⟩⟩⟩
    have MMe : MM = 2 ^ 4096 := rfl
    rw [← MMe]
    have M0 := MM_half (k := 0) (by omega)
    have M0' : 2 ≤ MM := by simpa using M0
    have out : ∀ (m : Int) (H' : Hp) (n' : Int), 0 ≤ m → m < MM → Exb a H2 H' → Box H' a n' → n' ≤ n + 9 → Q (.int m) H' := fun m H' n' h0 h1 e b l => q m H' h0 h1 ((e1.trans e2).trans e) (b.le l)
    have rfl2 : Exb a H2 H2 := fun _ _ _ e => e
    obtain ⟨k, rfl⟩ : ∃ k : Nat, r2 = k := ⟨r2.toNat, by omega⟩
    have hk1 := pow_nn k
    have hk2 := MM_half (k := k) (by omega)
    refine ⟨_, rfl, .inl ⟨rfl, _, rfl, if_eq (fun _ => ?_) fun _ => ?_⟩⟩
    · exact out _ _ _ (by omega) (by omega) rfl2 B2 (by omega)
    refine ⟨_, rfl, .inl ⟨rfl, _, rfl, if_eq (fun _ => ?_) fun _ => ?_⟩⟩
    · exact ⟨_, rfl, out _ _ _ (by omega) (by omega) rfl2 B2 (by omega)⟩
    refine ⟨_, rfl, .inl ⟨rfl, _, rfl, if_eq (fun _ => ?_) fun _ => ?_⟩⟩
    · refine ⟨_, rfl, .inl ⟨k, rfl, rfl, by omega, ?_⟩⟩
      exact out _ _ _ (by omega) (by omega) rfl2 B2 (by omega)
    refine ⟨_, rfl, .inl ⟨rfl, _, rfl, if_eq (fun _ => ?_) fun _ => ?_⟩⟩
    · refine ⟨_, rfl, _, rfl, .inl ⟨k, rfl, rfl, by omega, _, _, rfl, rfl, ?_⟩⟩
      exact out _ _ _ (by omega) (by omega) rfl2 B2 (by omega)
    refine ⟨_, rfl, .inl ⟨rfl, _, rfl, if_eq (fun _ => ?_) fun _ => ?_⟩⟩
    · have h95 := MM_half (k := 4095) (by omega)
      have p95 := pow_nn 4095
      refine .inl ⟨4095, rfl, rfl, by decide, ?_⟩
      exact out _ _ _ (by omega) (by omega) rfl2 B2 (by omega)
    -- the word
    refine ⟨6, rfl, by decide, by decide, ?_⟩
    refine for_range (lo := 0) (n := 6) (fun i σ H' => ∃ (v6 v7 : Option V) (wd : Int), σ = [some (.ref a), some (.int many), some (.int (MM - 1)), some (.int r1), some (.int (k : Int)), some (.int wd), v6, v7] ∧ Exb a H2 H' ∧ Box H' a (n + 2 + i) ∧ i ≤ 6 ∧ 0 ≤ wd ∧ wd < 2 ^ (8 * i)) ⟨_, _, 0, rfl, rfl2, B2.le (by omega), by omega, by omega, by decide⟩ ?_ ?_
    · rintro i σ H3 hi ⟨v6, v7, wd, rfl, e3, B3, hi6, w0, w1⟩
      have wb : wd < 2 ^ 48 := Int.lt_of_lt_of_le w1 (pow_mono (by omega))
      have km : CMulX wd 256 := mulx_ok (a := 48) (b := 9) (lt_natAbs w0 wb) (by decide) (by decide)
      refine ⟨_, rfl, .inl ⟨_, _, rfl, rfl, km, _, rfl, a, 256, n + 2 + i, rfl, B3, by omega, by omega, by omega, fun r H4 q1 q2 e4 B4 => .inl ⟨_, _, rfl, rfl, some (.int (0 + (i : Int))), v7, wd * 256 + r, rfl, e3.trans e4, B4.le (by omega), by omega, by omega, ?_⟩⟩⟩
      have e8 : (2 : Int) ^ (8 * (i + 1)) = 2 ^ (8 * i) * 256 := by
        rw [Nat.mul_add, Int.pow_add]
        rfl
      omega
    rintro σ H3 ⟨v6, v7, wd, rfl, e3, B3, _, w0, w1⟩
    have w48 : wd < 2 ^ 48 := w1
    -- the word again and again
    refine ⟨_, rfl, by show 4 ≤ sizeLine; decide, fun p hp => ?_⟩
    refine ⟨_, rfl, a, 4, n + 2 + (6 : Nat), rfl, B3.ex (Evl.Ex.new hp), by omega, by omega, by omega, fun r3 H4 p5 p6 e4 B4 => ?_⟩
    have hpa := B3.at hp
    have hl := e4 p _ hpa upd_same
    obtain ⟨j, rfl⟩ : ∃ j : Nat, r3 = j := ⟨r3.toNat, by omega⟩
    have key : ∃ c : Nat, c ≤ 84 ∧ ([V.int 0, .int 1, .int 8, .int 84] : List V)[j]? = some (.int (c : Int)) := by
      have hj : j < 4 := by omega
      rcases j with _ | _ | _ | _ | j
      · exact ⟨0, by omega, rfl⟩
      · exact ⟨1, by omega, rfl⟩
      · exact ⟨8, by omega, rfl⟩
      · exact ⟨84, by omega, rfl⟩
      · omega
    obtain ⟨c, hc, hcv⟩ := key
    have e5 := (e3.trans (Exb.new (a := a) hp)).trans e4
    refine .inl ⟨p, _, _, _, rfl, rfl, SqL.of hl, atI_nat hcv, (c : Int), rfl, by omega, by omega, ?_⟩
    have nn : ((c : Int)).toNat = c := by omega
    rw [nn]
    refine for_range (lo := 0) (n := c) (fun i σ H' => ∃ (v6 : Option V) (fo : Int), σ = [some (.ref a), some (.int many), some (.int (MM - 1)), some (.int r1), some (.int (k : Int)), some (.int wd), v6, some (.int fo)] ∧ H' = H4 ∧ 0 ≤ fo ∧ fo < 2 ^ (48 * (i + 1)) ∧ i ≤ c) ⟨_, wd, rfl, rfl, w0, w48, by omega⟩ ?_ ?_
    · rintro i σ H5 hi ⟨v6', fo, rfl, rfl, f0, f1, _⟩
      have fb : fo < 2 ^ 4096 := Int.lt_of_lt_of_le f1 (pow_mono (by omega))
      have km : CMulX fo (2 ^ (48 : Int).toNat) := mulx_ok (a := 4096) (b := 49) (lt_natAbs f0 fb) (by decide) (by decide)
      obtain ⟨g0, g1⟩ := more_bits f0 f1 w0 w48
      have e48 : 48 * (i + 1) + 48 = 48 * (i + 1 + 1) := by omega
      rw [e48] at g1
      exact ⟨_, rfl, _, _, rfl, rfl, cq, .inl ⟨_, _, rfl, rfl, km, _, rfl, .inl ⟨_, _, rfl, rfl, _, _, rfl, rfl, g0, g1, by omega⟩⟩⟩
    · rintro σ H5 ⟨v6', fo, rfl, rfl, f0, f1, _⟩
      have fb : fo < MM := Int.lt_of_lt_of_le f1 (pow_mono (a := 48 * (c + 1)) (b := 4096) (by omega))
      exact ⟨_, rfl, out fo _ _ f0 fb e5 B4 (by omega)⟩
end
end K01
namespace K01
open PySem PySem.Spec PyProof.Rows L2 VB BM
/-- what _law_two gives: a way and two lists of octets of one length -/
structure Two (a : Addr) (n : Int) (H H' : Hp) (p da db : Addr) (way : Int) (xs ys : List Int) : Prop where
  tup : H' p = some (.tup [.int way, .ref da, .ref db])
  one : H' da = some (.lst (IV xs))
  two : H' db = some (.lst (IV ys))
  apart : p ≠ a ∧ da ≠ a ∧ db ≠ a
  ox : Oct xs
  oy : Oct ys
  len : xs.length = ys.length
  most : xs.length ≤ 40
  down : way = 0 ∨ way = 1 ∨ way = 5 → Le (bitsL ys) (bitsL xs)
  up : way = 0 ∨ way = 2 ∨ way = 6 → Le (bitsL xs) (bitsL ys)
  ways : 0 ≤ way ∧ way ≤ 6
  rest : Exb a H H'
  box : Box H' a (n + 250)
def spTwo : Sp := fun vs H Q _ => ∃ (a : Addr) (n : Int), vs = [.ref a] ∧ Box H a n ∧ n < 70000000 ∧ ∀ (p da db : Addr) (H' : Hp) (way : Int) (xs ys : List Int), Two a n H H' p da db way xs ys → Q (.ref p) H'
theorem oct_snoc {xs : List Int} {r : Int} (h : Oct xs) (h0 : 0 ≤ r) (h1 : r ≤ 255) : Oct (xs ++ [r]) := by
  intro o ho
  rcases List.mem_append.mp ho with q | q
  · exact h o q
  · have e : o = r := by simpa using q
    omega
theorem zip_get {xs ys : List Int} {p : Int × Int} (h : p ∈ xs.zip ys) : ∃ i : Nat, xs[i]? = some p.1 ∧ ys[i]? = some p.2 := by
  obtain ⟨i, hi⟩ := List.mem_iff_getElem?.mp h
  obtain ⟨q1, q2⟩ := List.getElem?_zip_eq_some.mp hi
  exact ⟨i, q1, q2⟩
theorem bitAnd_pp {x y : Int} (hx : 0 ≤ x) (hy : 0 ≤ y) : Builtin.bitAnd x y = ((x.toNat &&& y.toNat : Nat) : Int) := by
  obtain ⟨a, rfl⟩ := nat_of hx
  obtain ⟨b, rfl⟩ := nat_of hy
  rfl
/-- two lists of octets, item by item -/
def both (f : Int → Int → Int) (xs ys : List Int) : List Int := (xs.zip ys).map fun p => f p.1 p.2
theorem both_len {f : Int → Int → Int} {xs ys : List Int} (h : xs.length = ys.length) : (both f xs ys).length = xs.length := by
  unfold both
  rw [List.length_map, List.length_zip]
  omega
theorem both_get {f : Int → Int → Int} {xs ys : List Int} {i : Nat} {u : Int} (h : (both f xs ys)[i]? = some u) : ∃ x y, xs[i]? = some x ∧ ys[i]? = some y ∧ u = f x y := by
  unfold both at h
  rw [List.getElem?_map] at h
  cases e : (xs.zip ys)[i]? with
  | none => rw [e] at h; cases h
  | some p =>
    rw [e] at h
    obtain ⟨q1, q2⟩ := List.getElem?_zip_eq_some.mp e
    exact ⟨p.1, p.2, q1, q2, (Option.some.inj h).symm⟩
theorem both_oct {f : Int → Int → Int} {xs ys : List Int} (ox : Oct xs) (oy : Oct ys) (h : ∀ x y, 0 ≤ x ∧ x ≤ 255 → 0 ≤ y ∧ y ≤ 255 → 0 ≤ f x y ∧ f x y ≤ 255) : Oct (both f xs ys) := by
  intro o ho
  obtain ⟨i, hi⟩ := List.mem_iff_getElem?.mp ho
  obtain ⟨x, y, hx, hy, rfl⟩ := both_get hi
  exact h x y (ox x (List.mem_of_getElem? hx)) (oy y (List.mem_of_getElem? hy))
theorem oct_and {x y : Int} (hx : 0 ≤ x ∧ x ≤ 255) (hy : 0 ≤ y ∧ y ≤ 255) : (0 ≤ Builtin.bitAnd x y ∧ Builtin.bitAnd x y ≤ 255) ∧ Le (bitsOf (Builtin.bitAnd x y)) (bitsOf x) := by
  rw [bitAnd_pp hx.1 hy.1]
  have e : ((x.toNat : Nat) : Int) = x := by omega
  have h := and_oct (a := x.toNat) (b := y.toNat) (by omega)
  refine ⟨by omega, ?_⟩
  have q := and_le x.toNat y.toNat
  rw [e] at q
  exact q
theorem oct_or {x y : Int} (hx : 0 ≤ x ∧ x ≤ 255) (hy : 0 ≤ y ∧ y ≤ 255) : (0 ≤ Builtin.bitOr x y ∧ Builtin.bitOr x y ≤ 255) ∧ Le (bitsOf x) (bitsOf (Builtin.bitOr x y)) := by
  rw [Bits.bitOr_pp hx.1 hy.1]
  have e : ((x.toNat : Nat) : Int) = x := by omega
  have h := or_oct (a := x.toNat) (b := y.toNat) (by omega) (by omega)
  refine ⟨by omega, ?_⟩
  have q := le_or x.toNat y.toNat
  rw [e] at q
  exact q
theorem bitsL_le' {xs ys : List Int} (hl : xs.length = ys.length) (h : ∀ (i : Nat) x y, xs[i]? = some x → ys[i]? = some y → Le (bitsOf x) (bitsOf y)) : Le (bitsL xs) (bitsL ys) :=
  bitsL_le hl fun p hp => by
    obtain ⟨i, h1, h2⟩ := zip_get hp
    exact h i _ _ h1 h2
theorem oct_255 (c : Nat) : Oct (List.replicate c 255) := fun o ho => by
  have e := List.eq_of_mem_replicate ho
  omega
theorem iv_rep (c : Nat) (o : Int) : IV (List.replicate c o) = List.replicate c (V.int o) := List.map_replicate ..
section
variable {P : Program} {w : World} {K : PySem.W.Frag} {mg : Str → Option Value} {base : Heap} {f : Addr} {fd : FuncData}
/-- one more octet of a comprehension over a box -/
def Grown (a D : Addr) (H0 : Hp) (m : Int) (i : Nat) (H' : Hp) : Prop := Exb a H0 H' ∧ Box H' a (m + 3 * i) ∧ ∃ xs : List Int, xs.length = i ∧ Oct xs ∧ H' D = some (.lst (IV xs))
theorem Grown.start {a D : Addr} {H : Hp} {m : Int} (B : Box H a m) (hD : H D = none) : Grown a D H m 0 (upd H D (.lst [])) :=
  ⟨Exb.new hD, (B.ex (Evl.Ex.new hD)).le (by omega), [], rfl, fun _ h => (by cases h), upd_same⟩
theorem Grown.more {a D : Addr} {H0 H1 H2 : Hp} {m r : Int} {i : Nat} (g : Grown a D H0 m i H1) (hD : D ≠ a) (hn : H0 D = none) (hi : i ≤ 1000) (e : Exb a H1 H2) (B : Box H2 a (m + 3 * i + 3)) (r0 : 0 ≤ r) (r1 : r ≤ 255) :
    ∃ acc, H2 D = some (.lst acc) ∧ acc.length < sizeLine ∧ Grown a D H0 m (i + 1) (upd H2 D (.lst (acc ++ [V.int r]))) := by
  obtain ⟨e1, B1, xs, hl, ho, h⟩ := g
  have B2 : Box (upd H2 D (.lst (IV xs ++ [V.int r]))) a (m + 3 * i + 3) := by
    obtain ⟨d, m', c, k, hb, q⟩ := B
    exact ⟨d, m', c, k, by rw [upd_ne (Ne.symm hD)]; exact hb, q⟩
  refine ⟨IV xs, e D _ hD h, by rw [iv_len, hl]; exact Evl.sz_lt (by omega), ?_, B2.le (by omega), xs ++ [r], by simp [hl], oct_snoc ho r0 r1, by rw [upd_same, iv_snoc]⟩
  intro b o n q
  have hb : b ≠ D := by
    rintro rfl
    rw [hn] at q
    cases q
  rw [upd_ne hb]
  exact e b o n (e1 b o n q)
theorem ok_two (T : Txt K mg) (F : FnP K "_law_two" s__law_two f fd) (C__law_take : Cal P w K mg base CX0 1 "_law_take" ["_law_box_here", "_law_many"] spTake) (C__law_octet : Cal P w K mg base CX0 2 "_law_octet" ["_law_box_here"] spOctet) :
    Fg P w K mg base CX0 3 f fd ["_law_box_here"] spTwo := by
  refine fg_of F sc__law_two (fun vs H Q E h => ?_) (fun cdv A outer s H vs Q E hr h => ⟨_, (PSs.nox (pss_cons (ps_par (i := 1) (j := 2) rfl sc__law_two.nd rfl rfl (by decide) rfl rfl (pa_cons (pe_cal C__law_take hr.le pass0 (pa_cons (pv 0) (pa_cons pe_int pa_nil))) (pa_cons (pe_cal C__law_take hr.le pass0 (pa_cons (pv 0) (pa_cons pe_int pa_nil))) pa_nil)) (by rfl))
  (pss_cons (ps_set (i := 3) sc__law_two.nd rfl (by first | exact Or.inl rfl | exact Or.inr rfl) (pe_ix (u_ix (K := K)) (pe_lst (pa_cons pe_int (pa_cons pe_int (pa_cons pe_int (pa_cons pe_int (pa_cons pe_int (pa_cons pe_int (pa_cons (pe_cal C__law_take hr.le pass0 (pa_cons (pv 0) (pa_cons pe_int pa_nil))) pa_nil)))))))) (pv 2) (fun _ _ => rfl)))
  (pss_cons (ps_set (i := 4) sc__law_two.nd rfl (by first | exact Or.inl rfl | exact Or.inr rfl) (pe_lc (own := [("_law_k", 6)]) rfl sc__law_two.nd (pi_range1 rfl T.f_range (pa_cons (pv 3) pa_nil)) (blkOk_by (own := [("_law_k", 6)]) (N := ["_law_box_here", "_law_way", "_law_kind", "_law_size", "_law_old", "_law_other", "_law_k", "_law_octet_here"]) (sc := defScope s__law_two) (by decide +kernel)) (fun _ _ _ _ _ => (pg_name (i := 6) sc__law_two.nd rfl (by first | exact Or.inl rfl | exact Or.inr rfl))) (fun _ _ _ _ _ => pts_nil) (fun _ _ _ _ _ => (pe_cal C__law_octet hr.le pass0 (pa_cons (pv 0) pa_nil)))))
  (pss_cons (ps_set (i := 5) sc__law_two.nd rfl (by first | exact Or.inl rfl | exact Or.inr rfl) (pe_lc (own := [("_law_k", 6)]) rfl sc__law_two.nd (pi_range1 rfl T.f_range (pa_cons (pv 3) pa_nil)) (blkOk_by (own := [("_law_k", 6)]) (N := ["_law_box_here", "_law_way", "_law_kind", "_law_size", "_law_old", "_law_other", "_law_k", "_law_octet_here"]) (sc := defScope s__law_two) (by decide +kernel)) (fun _ _ _ _ _ => (pg_name (i := 6) sc__law_two.nd rfl (by first | exact Or.inl rfl | exact Or.inr rfl))) (fun _ _ _ _ _ => pts_nil) (fun _ _ _ _ _ => (pe_cal C__law_octet hr.le pass0 (pa_cons (pv 0) pa_nil)))))
  (pss_cons (ps_if (pt_cmpR (u_eq (K := K) hr) (pv 1) pe_int (nomark _))
  (pss_one (ps_ret (pe_tup (pa_cons (pv 1) (pa_cons (pv 4) (pa_cons (pe_callTy (u_list (K := K)) (by rfl) T.f_list (by decide +kernel) (pa_cons (pv 4) pa_nil)) pa_nil)))))) pss_nil)
  (pss_cons (ps_if (pt_cmpR (u_eq (K := K) hr) (pv 1) pe_int (nomark _))
  (pss_one (ps_ret (pe_tup (pa_cons (pv 1) (pa_cons (pv 4) (pa_cons (pe_lc (own := [("_law_k", 6)]) rfl sc__law_two.nd (pi_range1 rfl T.f_range (pa_cons (pv 3) pa_nil)) (blkOk_by (own := [("_law_k", 6)]) (N := ["_law_box_here", "_law_way", "_law_kind", "_law_size", "_law_old", "_law_other", "_law_k", "_law_octet_here"]) (sc := defScope s__law_two) (by decide +kernel)) (fun _ _ _ _ _ => (pg_name (i := 6) sc__law_two.nd rfl (by first | exact Or.inl rfl | exact Or.inr rfl))) (fun _ _ _ _ _ => pts_nil) (fun _ _ _ _ _ => (pe_op op_and (pe_ix (u_ix (K := K)) (pv 4) (pv 6) (fun _ _ => rfl)) (pe_ix (u_ix (K := K)) (pv 5) (pv 6) (fun _ _ => rfl))))) pa_nil)))))) pss_nil)
  (pss_cons (ps_if (pt_cmpR (u_eq (K := K) hr) (pv 1) pe_int (nomark _))
  (pss_one (ps_ret (pe_tup (pa_cons (pv 1) (pa_cons (pv 4) (pa_cons (pe_lc (own := [("_law_k", 6)]) rfl sc__law_two.nd (pi_range1 rfl T.f_range (pa_cons (pv 3) pa_nil)) (blkOk_by (own := [("_law_k", 6)]) (N := ["_law_box_here", "_law_way", "_law_kind", "_law_size", "_law_old", "_law_other", "_law_k", "_law_octet_here"]) (sc := defScope s__law_two) (by decide +kernel)) (fun _ _ _ _ _ => (pg_name (i := 6) sc__law_two.nd rfl (by first | exact Or.inl rfl | exact Or.inr rfl))) (fun _ _ _ _ _ => pts_nil) (fun _ _ _ _ _ => (pe_op op_or (pe_ix (u_ix (K := K)) (pv 4) (pv 6) (fun _ _ => rfl)) (pe_ix (u_ix (K := K)) (pv 5) (pv 6) (fun _ _ => rfl))))) pa_nil)))))) pss_nil)
  (pss_cons (ps_if (pt_cmpR (u_eq (K := K) hr) (pv 1) pe_int (nomark _))
  (pss_one (ps_ret (pe_tup (pa_cons (pv 1) (pa_cons (pv 4) (pa_cons (pv 5) pa_nil)))))) pss_nil)
  (pss_cons (ps_if (pt_cmpR (u_eq (K := K) hr) (pv 1) pe_int (nomark _))
  (pss_one (ps_ret (pe_tup (pa_cons (pv 1) (pa_cons (pv 4) (pa_cons (pe_lc (own := [("_law_octet_here", 7)]) rfl sc__law_two.nd (pi_seq (K := K) (pv 4)) (blkOk_by (own := [("_law_octet_here", 7)]) (N := ["_law_box_here", "_law_way", "_law_kind", "_law_size", "_law_old", "_law_other", "_law_k", "_law_octet_here"]) (sc := defScope s__law_two) (by decide +kernel)) (fun _ _ _ _ _ => (pg_name (i := 7) sc__law_two.nd rfl (by first | exact Or.inl rfl | exact Or.inr rfl))) (fun _ _ _ _ _ => pts_nil) (fun _ _ _ _ _ => (pe_op op_sub pe_int (pv 7)))) pa_nil)))))) pss_nil)
  (pss_one (ps_ret (pe_ifExp (pt_cmpR (u_eq (K := K) hr) (pv 1) pe_int (nomark _)) (pe_tup (pa_cons (pv 1) (pa_cons (pe_op (u_mul (K := K)) (pe_lst (pa_cons pe_int pa_nil)) (pv 3)) (pa_cons (pv 5) pa_nil)))) (pe_tup (pa_cons (pv 1) (pa_cons (pv 4) (pa_cons (pe_op (u_mul (K := K)) (pe_lst (pa_cons pe_int pa_nil)) (pv 3)) pa_nil))))))))))))))))), ?_⟩)
  · obtain ⟨a, n, rfl, _⟩ := h
    rfl
  · obtain ⟨a, n, rfl, B, hn, q⟩ := h
    refine ⟨_, rfl, a, 7, n, rfl, B, by omega, by omega, by omega, fun way H1 p1 p2 e1 B1 => ?_⟩
    refine ⟨_, rfl, a, 7, n + 1, rfl, B1, by omega, by omega, by omega, fun r2 H2 p3 p4 e2 B2 => ⟨_, _, rfl, ?_⟩⟩
    -- the size
    refine ⟨_, rfl, a, 33, n + 1 + 1, rfl, B2, by omega, by omega, by omega, fun r3 H3 p5 p6 e3 B3 => ⟨by show 7 ≤ sizeLine; decide, fun p hp => ⟨_, rfl, ?_⟩⟩⟩
    obtain ⟨j, rfl⟩ : ∃ j : Nat, r2 = j := ⟨r2.toNat, by omega⟩
    have key : ∃ c : Nat, c ≤ 40 ∧ ([V.int 0, .int 1, .int 2, .int 9, .int 31, .int 40, .int r3] : List V)[j]? = some (.int (c : Int)) := by
      have hj : j < 7 := by omega
      rcases j with _ | _ | _ | _ | _ | _ | _ | j
      · exact ⟨0, by omega, rfl⟩
      · exact ⟨1, by omega, rfl⟩
      · exact ⟨2, by omega, rfl⟩
      · exact ⟨9, by omega, rfl⟩
      · exact ⟨31, by omega, rfl⟩
      · exact ⟨40, by omega, rfl⟩
      · refine ⟨r3.toNat, by omega, ?_⟩
        have e : ((r3.toNat : Nat) : Int) = r3 := by omega
        rw [e]
        rfl
      · omega
    obtain ⟨c, hc, hcv⟩ := key
    refine .inl ⟨p, _, _, _, rfl, rfl, SqL.of upd_same, atI_nat hcv, ?_⟩
    have B4 := B3.ex (Evl.Ex.new (o := .lst [V.int 0, .int 1, .int 2, .int 9, .int 31, .int 40, .int r3]) hp)
    have E4 := ((e1.trans e2).trans e3).trans (Exb.new (a := a) (o := .lst [V.int 0, .int 1, .int 2, .int 9, .int 31, .int 40, .int r3]) hp)
    have nn : ((c : Int)).toNat = c := by omega
    -- the old ones
    refine ⟨_, rfl, (c : Int), rfl, by omega, by omega, fun D1 hD1 => ?_⟩
    have n1 := B4.at hD1
    rw [nn]
    refine lc_range (lo := 0) (n := c) (Grown a D1 _ (n + 3)) (Grown.start (B4.le (by omega)) hD1) ?_ ?_
    · rintro i H5 hi g
      exact ⟨rfl, _, rfl, a, n + 3 + 3 * i, rfl, g.2.1, by omega, fun r H6 r0 r1 e B => g.more n1 hD1 (by omega) e B r0 r1⟩
    rintro H5 ⟨e5, B5, xs, lx, ox, hx⟩
    -- the others
    refine ⟨_, rfl, (c : Int), rfl, by omega, by omega, fun D2 hD2 => ?_⟩
    have n2 := B5.at hD2
    have d12 : D1 ≠ D2 := by
      rintro rfl
      rw [hD2] at hx
      cases hx
    rw [nn]
    refine lc_range (lo := 0) (n := c) (Grown a D2 _ (n + 3 + 3 * c)) (Grown.start B5 hD2) ?_ ?_
    · rintro i H6 hi g
      exact ⟨rfl, _, rfl, a, n + 3 + 3 * c + 3 * i, rfl, g.2.1, by omega, fun r H7 r0 r1 e B => g.more n2 hD2 (by omega) e B r0 r1⟩
    rintro H6 ⟨e6, B6, ys, ly, oy, hy⟩
    have hx6 := e6 D1 _ n1 hx
    have E6 := (E4.trans e5).trans e6
    have out : ∀ (H' : Hp) (da db : Addr) (us vs : List Int), Evl.Ex H6 H' → H' da = some (.lst (IV us)) → H' db = some (.lst (IV vs)) → da ≠ a → db ≠ a → Oct us → Oct vs → us.length = c → vs.length = c →
        (way = 0 ∨ way = 1 ∨ way = 5 → Le (bitsL vs) (bitsL us)) → (way = 0 ∨ way = 2 ∨ way = 6 → Le (bitsL us) (bitsL vs)) →
        3 ≤ sizeLine ∧ ∀ t, H' t = none → Q (.ref t) (upd H' t (.tup [.int way, .ref da, .ref db])) := by
      intro H' da db us vs ex h1 h2 a1 a2 o1 o2 l1 l2 dn up
      refine ⟨by decide, fun t ht => ?_⟩
      have ex2 := Evl.Ex.new (o := .tup [.int way, .ref da, .ref db]) ht
      exact q t da db _ way us vs ⟨upd_same, ex2 _ _ h1, ex2 _ _ h2, ⟨(B6.ex ex).at ht, a1, a2⟩, o1, o2, by omega, by omega, dn, up, by omega,
        E6.trans (Exb.of (ex.trans ex2)), ((B6.ex ex).ex ex2).le (by omega)⟩
    have X0 : Evl.Ex H6 H6 := Evl.Ex.refl H6
    -- way 0
    refine ⟨_, rfl, .inl ⟨rfl, _, rfl, if_eq (fun h0 => ?_) (fun h0 => ?_)⟩⟩
    · refine ⟨_, rfl, _, rfl, _, rfl, D1, _, rfl, .inl (SqL.of hx6), fun l hl => ?_⟩
      have ex := Evl.Ex.new (o := .lst (IV xs)) hl
      exact out _ D1 l xs xs ex (ex _ _ hx6) upd_same n1 (B6.at hl) ox ox lx lx (fun _ => Le.refl _) (fun _ => Le.refl _)
    -- way 1
    refine ⟨_, rfl, .inl ⟨rfl, _, rfl, if_eq (fun h1 => ?_) (fun h1 => ?_)⟩⟩
    · refine ⟨_, rfl, _, rfl, _, rfl, (c : Int), rfl, by omega, by omega, fun D3 hD3 => ?_⟩
      rw [nn]
      have L := both_len (f := Builtin.bitAnd) (xs := xs) (ys := ys) (by omega)
      refine lc_pureR (us := both Builtin.bitAnd xs ys) (by omega) (by omega) hD3 (fun _ => rfl) ?_ ?_
      · intro i u H' Q' hu ex k
        obtain ⟨x, y, hxi, hyi, rfl⟩ := both_get hu
        exact ⟨_, rfl, _, rfl, .inl ⟨D1, _, _, _, rfl, rfl, SqL.of (ex _ _ hx6), iv_at hxi, _, rfl, _, rfl, .inl ⟨D2, _, _, _, rfl, rfl, SqL.of (ex _ _ hy), iv_at hyi, _, _, rfl, rfl, k H' (Evl.Ex.refl _)⟩⟩⟩
      · intro H' ex h3
        refine out H' D1 D3 xs _ ex (ex _ _ hx6) h3 n1 (B6.at hD3) ox (both_oct ox oy fun x y a b => (oct_and a b).1) lx (by omega) (fun _ => ?_) (fun z => by omega)
        refine bitsL_le' (by omega) fun i u x hu hxi => ?_
        obtain ⟨x', y, hx', hyi, rfl⟩ := both_get hu
        rw [hx'] at hxi
        cases hxi
        exact (oct_and (ox _ (List.mem_of_getElem? hx')) (oy _ (List.mem_of_getElem? hyi))).2
    -- way 2
    refine ⟨_, rfl, .inl ⟨rfl, _, rfl, if_eq (fun h2 => ?_) (fun h2 => ?_)⟩⟩
    · refine ⟨_, rfl, _, rfl, _, rfl, (c : Int), rfl, by omega, by omega, fun D3 hD3 => ?_⟩
      rw [nn]
      have L := both_len (f := Builtin.bitOr) (xs := xs) (ys := ys) (by omega)
      refine lc_pureR (us := both Builtin.bitOr xs ys) (by omega) (by omega) hD3 (fun _ => rfl) ?_ ?_
      · intro i u H' Q' hu ex k
        obtain ⟨x, y, hxi, hyi, rfl⟩ := both_get hu
        exact ⟨_, rfl, _, rfl, .inl ⟨D1, _, _, _, rfl, rfl, SqL.of (ex _ _ hx6), iv_at hxi, _, rfl, _, rfl, .inl ⟨D2, _, _, _, rfl, rfl, SqL.of (ex _ _ hy), iv_at hyi, _, _, rfl, rfl, k H' (Evl.Ex.refl _)⟩⟩⟩
      · intro H' ex h3
        refine out H' D1 D3 xs _ ex (ex _ _ hx6) h3 n1 (B6.at hD3) ox (both_oct ox oy fun x y a b => (oct_or a b).1) lx (by omega) (fun z => by omega) (fun _ => ?_)
        refine bitsL_le' (by omega) fun i x u hxi hu => ?_
        obtain ⟨x', y, hx', hyi, rfl⟩ := both_get hu
        rw [hx'] at hxi
        cases hxi
        exact (oct_or (ox _ (List.mem_of_getElem? hx')) (oy _ (List.mem_of_getElem? hyi))).2
    -- way 3
    refine ⟨_, rfl, .inl ⟨rfl, _, rfl, if_eq (fun h3 => ?_) (fun h3 => ?_)⟩⟩
    · exact ⟨_, rfl, _, rfl, _, rfl, out H6 D1 D2 xs ys X0 hx6 hy n1 n2 ox oy lx ly (fun z => by omega) (fun z => by omega)⟩
    -- way 4
    refine ⟨_, rfl, .inl ⟨rfl, _, rfl, if_eq (fun h4 => ?_) (fun h4 => ?_)⟩⟩
    · refine ⟨_, rfl, _, rfl, seq_var (t := false) (xs := IV xs) rfl (SqL.of hx6) fun J wk D3 hD3 => ?_⟩
      rw [iv_len] at wk
      refine lc_pureS (us := xs.map fun o => 255 - o) wk (fun H' ex => (Sv.lst hx6).ex ex) (by simp) (by omega) hD3 (fun _ => rfl) ?_ ?_
      · intro i x u H' Q' hxi hu ex k
        obtain ⟨o, ho, rfl⟩ := iv_get hxi
        rw [List.getElem?_map, ho] at hu
        cases hu
        exact ⟨_, rfl, _, _, rfl, rfl, k H' (Evl.Ex.refl _)⟩
      · intro H' ex h3
        refine out H' D1 D3 xs _ ex (ex _ _ hx6) h3 n1 (B6.at hD3) ox ?_ lx (by simp [lx]) (fun z => by omega) (fun z => by omega)
        intro o ho
        obtain ⟨o', ho', rfl⟩ := List.mem_map.mp ho
        have := ox o' ho'
        omega
    -- ways 5 and 6
    refine ⟨_, rfl, .inl ⟨rfl, _, rfl, if_eq (fun h5 => ?_) (fun h5 => ?_)⟩⟩
    · refine ⟨_, rfl, by show 1 ≤ sizeLine; decide, fun l0 hl0 => ⟨_, rfl, .inr (.inl ⟨l0, _, _, rfl, rfl, upd_same, by omega, by omega, ?_, fun l hl => ?_⟩)⟩⟩
      · rw [nn]
        exact Evl.sz_of (by simp; omega)
      · rw [nn]
        have e3 : (List.replicate c [V.int 255]).flatten = IV (List.replicate c 255) := by rw [iv_rep]; simp
        have ex0 := Evl.Ex.new (o := .lst [V.int 255]) hl0
        have ex1 := Evl.Ex.new (o := .lst (List.replicate c [V.int 255]).flatten) hl
        have ex := ex0.trans ex1
        refine ⟨_, rfl, out _ l D2 _ ys ex ?_ (ex _ _ hy) ((B6.ex ex0).at hl) n2 (oct_255 c) oy (by simp) ly (fun _ => ?_) (fun z => by omega)⟩
        · rw [upd_same, e3]
        · refine bitsL_le' (by simp; omega) fun i x y hxi hyi => ?_
          rw [List.eq_of_mem_replicate (List.mem_of_getElem? hyi)]
          exact le_255 x
    · refine ⟨_, rfl, _, rfl, by show 1 ≤ sizeLine; decide, fun l0 hl0 => ⟨_, rfl, .inr (.inl ⟨l0, _, _, rfl, rfl, upd_same, by omega, by omega, ?_, fun l hl => ?_⟩)⟩⟩
      · rw [nn]
        exact Evl.sz_of (by simp; omega)
      · rw [nn]
        have e3 : (List.replicate c [V.int 255]).flatten = IV (List.replicate c 255) := by rw [iv_rep]; simp
        have ex0 := Evl.Ex.new (o := .lst [V.int 255]) hl0
        have ex1 := Evl.Ex.new (o := .lst (List.replicate c [V.int 255]).flatten) hl
        have ex := ex0.trans ex1
        refine out _ D1 l xs _ ex (ex _ _ hx6) ?_ n1 ((B6.ex ex0).at hl) ox (oct_255 c) lx (by simp) (fun z => by omega) (fun _ => ?_)
        · rw [upd_same, e3]
        · refine bitsL_le' (by simp; omega) fun i x y hxi hyi => ?_
          rw [List.eq_of_mem_replicate (List.mem_of_getElem? hyi)]
          exact le_255 x
end
end K01
/-! data of ints: what stands, what repr shows, what == says -/
namespace VB
open PySem PySem.Spec PyProof.Rows L2
abbrev DL (ns : List Int) : PyData := .list (ns.map .int)
abbrev DT (ns : List Int) : PyData := .tuple (ns.map .int)
section
variable {K : PySem.W.Frag} {H H' : Hp} {a : Addr} {ns : List Int} {t : Bool}
theorem dpAll_ints : ∀ ns : List Int, DpAll K H (IV ns) (ns.map .int)
  | [] => .nil
  | n :: ns => .cons (.int n) (dpAll_ints ns)
theorem dp_l (h : SqL K H a (IV ns)) : Dp K H (.ref a) (DL ns) := .lst h (dpAll_ints ns)
theorem dp_t (h : SqT K H a (IV ns)) : Dp K H (.ref a) (DT ns) := .tup h (dpAll_ints ns)
end
/-- what can be shown, its depth and its text's length bounded -/
structure Sh (d : PyData) (h b : Nat) : Prop where
  ok : d.showable = true
  dep : d.depth ≤ h
  len : d.shown.length ≤ b
theorem Sh.le {d : PyData} {h b h' b' : Nat} (s : Sh d h b) (h1 : h ≤ h' := by omega) (h2 : b ≤ b' := by omega) : Sh d h' b' :=
  ⟨s.ok, Nat.le_trans s.dep h1, Nat.le_trans s.len h2⟩
theorem pow2_lt : ∀ n : Nat, n < 2 ^ n
  | 0 => by decide
  | n + 1 => by
    have := pow2_lt n
    rw [Nat.pow_succ]
    omega
theorem log2_le_self (n : Nat) : n.log2 ≤ n := by
  by_cases h : n = 0
  · subst h
    decide
  · have q := Nat.log2_self_le h
    have p := pow2_lt n.log2
    omega
theorem sh_int {n : Int} (h : 0 ≤ n ∧ n < 10000 ∧ n.natAbs.log2 < 1920) : Sh (.int n) 0 4 := by
  refine ⟨by simp only [PyData.showable, decide_eq_true_eq]; exact h.2.2, by simp only [PyData.depth]; exact Nat.le_refl _, ?_⟩
  rw [PyData.shown_int]
  exact toString_length_le h.1 (by decide) (by omega)
theorem log_small {n : Int} (h : 0 ≤ n) (h2 : n < 10000) : n.natAbs.log2 < 1920 := by
  by_cases z : n.natAbs = 0
  · rw [z]
    decide
  · have q := Nat.log2_lt z (k := 1920)
    refine q.mpr (Nat.lt_of_lt_of_le (m := 2 ^ 14) (by omega) (Nat.pow_le_pow_right (by decide) (by decide)))
theorem piled_le {b : Nat} : ∀ ts : List Str, (∀ t ∈ ts, t.length ≤ b) → piled ts ≤ (b + 2) * ts.length
  | [], _ => Nat.zero_le _
  | t :: ts, h => by
    have a := h t (List.mem_cons_self ..)
    have c := piled_le ts fun u hu => h u (List.mem_cons_of_mem _ hu)
    rw [piled_cons, List.length_cons, Nat.mul_succ]
    omega
theorem join_le {b : Nat} (ts : List Str) (h : ∀ t ∈ ts, t.length ≤ b) : (Str.join ", " ts).length ≤ (b + 2) * ts.length := by
  by_cases z : ts = []
  · subst z
    exact Nat.zero_le _
  · have j := join_length_add ts z
    have p := piled_le ts h
    omega
theorem mem_shown {x : Str} : ∀ {ds : List PyData}, x ∈ PyData.shownAll ds → ∃ d ∈ ds, x = d.shown
  | [], h => by
    rw [PyData.shownAll_nil] at h
    cases h
  | d :: ds, h => by
    rw [PyData.shownAll_cons] at h
    cases h with
    | head => exact ⟨d, List.mem_cons_self .., rfl⟩
    | tail _ h =>
      obtain ⟨e, he, q⟩ := mem_shown h
      exact ⟨e, List.mem_cons_of_mem _ he, q⟩
theorem depAll {h : Nat} : ∀ {ds : List PyData}, (∀ d ∈ ds, d.depth ≤ h) → PyData.depthAll ds ≤ h
  | [], _ => by simp only [PyData.depthAll]; exact Nat.zero_le _
  | d :: ds, q => by
    simp only [PyData.depthAll]
    exact Nat.max_le.mpr ⟨q d (List.mem_cons_self ..), depAll fun e he => q e (List.mem_cons_of_mem _ he)⟩
theorem str_app (a b : Str) : (a ++ b).length = a.length + b.length := by
  exact strLen_append a b
theorem sh_list {ds : List PyData} {h b n : Nat} (q : ∀ d ∈ ds, Sh d h b) (hn : ds.length ≤ n) : Sh (.list ds) (h + 1) ((b + 2) * n + 4) := by
  refine ⟨?_, ?_, ?_⟩
  · simp only [PyData.showable]
    exact PySem.Spec.showableAll_of fun d hd => (q d hd).ok
  · simp only [PyData.depth]
    exact Nat.succ_le_succ (depAll fun d hd => (q d hd).dep)
  · rw [PyData.shown_list, str_app, str_app]
    have j := join_le (b := b) (PyData.shownAll ds) (by
      intro t ht
      obtain ⟨d, hd, rfl⟩ := mem_shown ht
      exact (q d hd).len)
    rw [PyData.shownAll_length] at j
    have l1 : ("[" : Str).length = 1 := by decide
    have l2 : ("]" : Str).length = 1 := by decide
    have m : (b + 2) * ds.length ≤ (b + 2) * n := Nat.mul_le_mul_left _ hn
    omega
theorem sh_tup {ds : List PyData} {h b n : Nat} (q : ∀ d ∈ ds, Sh d h b) (hn : ds.length ≤ n) : Sh (.tuple ds) (h + 1) ((b + 2) * n + 4) := by
  refine ⟨?_, ?_, ?_⟩
  · simp only [PyData.showable]
    exact PySem.Spec.showableAll_of fun d hd => (q d hd).ok
  · simp only [PyData.depth]
    exact Nat.succ_le_succ (depAll fun d hd => (q d hd).dep)
  · rw [PyData.shown_tuple, str_app, str_app]
    have j := join_le (b := b) (PyData.shownAll ds) (by
      intro t ht
      obtain ⟨d, hd, rfl⟩ := mem_shown ht
      exact (q d hd).len)
    rw [PyData.shownAll_length] at j
    have l1 : ("(" : Str).length = 1 := by decide
    have l2 : (if ds.length == 1 then ",)" else ")" : Str).length ≤ 2 := by
      split <;> decide
    have m : (b + 2) * ds.length ≤ (b + 2) * n := Nat.mul_le_mul_left _ hn
    have l3 : (Str.ofString (if ds.length == 1 then ",)" else ")" : String)).length ≤ 2 := by
      split <;> decide
    omega
/-- ints below 10000 -/
def Sm (ns : List Int) : Prop := ∀ n ∈ ns, 0 ≤ n ∧ n < 10000
theorem sm_ds {ns : List Int} (h : Sm ns) : ∀ d ∈ ns.map PyData.int, Sh d 0 4 := by
  intro d hd
  obtain ⟨n, hn, rfl⟩ := List.mem_map.mp hd
  have := h n hn
  exact sh_int ⟨this.1, this.2, log_small this.1 this.2⟩
theorem sh_l {ns : List Int} (h : Sm ns) (hl : ns.length ≤ 6000) : Sh (DL ns) 1 40000 := (sh_list (sm_ds h) (n := 6000) (by simpa using hl)).le
theorem sh_t {ns : List Int} (h : Sm ns) (hl : ns.length ≤ 6000) : Sh (DT ns) 1 40000 := (sh_tup (sm_ds h) (n := 6000) (by simpa using hl)).le
section
variable {K : PySem.W.Frag} {H : Hp} {a b : Addr} {ns ms : List Int} {Q : VK}
theorem rp {d : PyData} {h n : Nat} (e : Dp K H (.ref a) d) (s : Sh d h n) (q : Q (.str d.shown) H) (hh : h ≤ 60 := by decide) (hn : n ≤ 1000000 := by omega) : rRepr K [.ref a] H Q := by
  unfold rRepr
  exact ⟨a, d, rfl, e, s.ok, Nat.le_trans s.dep hh, Nat.le_trans (Nat.le_trans s.len hn) (by decide), q⟩
theorem rp_l (e : SqL K H a (IV ns)) (h : Sm ns) (hl : ns.length ≤ 6000) (q : Q (.str (DL ns).shown) H) : rRepr K [.ref a] H Q := rp (dp_l e) (sh_l h hl) q
theorem rp_t (e : SqT K H a (IV ns)) (h : Sm ns) (hl : ns.length ≤ 6000) (q : Q (.str (DT ns).shown) H) : rRepr K [.ref a] H Q := rp (dp_t e) (sh_t h hl) q
theorem eqvAll_ints : ∀ xs ys : List Int, PyData.eqvAll (xs.map .int) (ys.map .int) = decide (xs = ys)
  | [], [] => by simp [PyData.eqvAll]
  | [], _ :: _ => by simp [PyData.eqvAll]
  | _ :: _, [] => by simp [PyData.eqvAll]
  | x :: xs, y :: ys => by
    simp only [List.map_cons, PyData.eqvAll, PyData.eqv, eqvAll_ints xs ys]
    by_cases h : x = y <;> by_cases h2 : xs = ys <;> simp [h, h2]
theorem canAll : ∀ ns : List Int, PyData.canLayAll0 (ns.map .int) = true
  | [] => by simp [PyData.canLayAll0]
  | n :: ns => by simp [PyData.canLayAll0, PyData.canLay0, canAll ns]
theorem depInts : ∀ ns : List Int, PyData.depthAll (ns.map .int) = 0
  | [] => by simp [PyData.depthAll]
  | n :: ns => by simp [PyData.depthAll, PyData.depth, depInts ns]
theorem shp_l (ns : List Int) : SeqAt.shaped (DL ns) = true := by simp [SeqAt.shaped, PyData.canLay0, PyData.depth, canAll, depInts]
theorem shp_t (ns : List Int) : SeqAt.shaped (DT ns) = true := by simp [SeqAt.shaped, PyData.canLay0, PyData.depth, canAll, depInts]
theorem req_l (e : SqL K H a (IV ns)) (e' : SqL K H b (IV ms)) (q : Q (.bl (decide (ns = ms))) H) : rEqD K (.ref a) (.ref b) H Q := by
  refine ⟨DL ns, DL ms, dp_l e, dp_l e', shp_l _, shp_l _, ?_⟩
  rw [show PyData.eqv (DL ns) (DL ms) = decide (ns = ms) by simp only [DL, PyData.eqv]; exact eqvAll_ints ns ms]
  exact q
theorem req_t (e : SqT K H a (IV ns)) (e' : SqT K H b (IV ms)) (q : Q (.bl (decide (ns = ms))) H) : rEqD K (.ref a) (.ref b) H Q := by
  refine ⟨DT ns, DT ms, dp_t e, dp_t e', shp_t _, shp_t _, ?_⟩
  rw [show PyData.eqv (DT ns) (DT ms) = decide (ns = ms) by simp only [DT, PyData.eqv]; exact eqvAll_ints ns ms]
  exact q
theorem rne_l (e : SqL K H a (IV ns)) (e' : SqL K H b (IV ms)) (q : Q (.bl (!decide (ns = ms))) H) : rNeD K (.ref a) (.ref b) H Q := by
  refine ⟨DL ns, DL ms, dp_l e, dp_l e', shp_l _, shp_l _, ?_⟩
  rw [show PyData.eqv (DL ns) (DL ms) = decide (ns = ms) by simp only [DL, PyData.eqv]; exact eqvAll_ints ns ms]
  exact q
end
end VB
namespace K01
open PySem PySem.Spec PyProof.Rows L2 VB BM
/-! ### what the program's defs promise -/
def spZeros (K : PySem.W.Frag) : Sp := fun vs H Q _ => ∃ (a : Addr) (os : List Int) (t : Bool), vs = [.ref a] ∧ Sv t K H a (IV os) ∧ Oct os ∧ os.length ≤ 700 ∧ RV (.int (zc (bitsL os))) H Q
def spFalls (K : PySem.W.Frag) : Sp := fun vs H Q _ => ∃ (a b : Addr) (xs ys : List Int) (t u : Bool), vs = [.ref a, .ref b] ∧ Sv t K H a (IV xs) ∧ Sv u K H b (IV ys) ∧ Oct xs ∧ Oct ys ∧ xs.length = ys.length ∧ xs.length ≤ 700 ∧
  RL (IV (fallenL 0 (bitsL xs) (bitsL ys))) H Q
def spRises (K : PySem.W.Frag) : Sp := fun vs H Q _ => ∃ (a b : Addr) (xs ys : List Int) (t u : Bool), vs = [.ref a, .ref b] ∧ Sv t K H a (IV xs) ∧ Sv u K H b (IV ys) ∧ Oct xs ∧ Oct ys ∧ xs.length = ys.length ∧ xs.length ≤ 700 ∧
  RL (IV (fallenL 0 (bitsL ys) (bitsL xs))) H Q
def spChanged (K : PySem.W.Frag) : Sp := fun vs H Q _ => ∃ (a b : Addr) (xs ys : List Int) (t u : Bool) (m : Int), vs = [.ref a, .ref b, .int m] ∧ Sv t K H a (IV xs) ∧ Sv u K H b (IV ys) ∧ Oct xs ∧ Oct ys ∧ xs.length = ys.length ∧ xs.length ≤ 700 ∧
  0 ≤ m ∧ m < MM ∧ RT (IV (octetsL (turned (bitsL xs) (bitsL ys) m))) H Q
/-- keywords in other orders than the parameters' -/
abbrev g1 : List Value → List Value → List Value := fun _ ws => [ws.getD 0 .none]
abbrev g1V : List V → List V → List V := fun _ ws => [ws.getD 0 .non]
abbrev g21 : List Value → List Value → List Value := fun _ ws => [ws.getD 1 .none, ws.getD 0 .none]
abbrev g21V : List V → List V → List V := fun _ ws => [ws.getD 1 .non, ws.getD 0 .non]
abbrev g321 : List Value → List Value → List Value := fun _ ws => [ws.getD 2 .none, ws.getD 1 .none, ws.getD 0 .none]
abbrev g321V : List V → List V → List V := fun _ ws => [ws.getD 2 .non, ws.getD 1 .non, ws.getD 0 .non]
theorem same_ne {x : V} {A B : Prop} (h : B) : if (!decide (x = x)) = true then A else B := by
  rw [decide_eq_true rfl]
  exact iteF h
theorem same_int {x y : Int} {A B : Prop} (e : x = y) (h : B) : if (!decide (V.int x = V.int y)) = true then A else B := by
  subst e
  exact same_ne h
theorem same_bl {x y : Bool} {A B : Prop} (e : x = y) (h : B) : if (!decide (V.bl x = V.bl y)) = true then A else B := by
  subst e
  exact same_ne h
theorem if_dec {p : Prop} [Decidable p] {A B : Prop} (h1 : p → A) (h2 : ¬ p → B) : if decide p = true then A else B := by
  by_cases z : p
  · rw [decide_eq_true z]
    exact iteT (h1 z)
  · rw [decide_eq_false z]
    exact iteF (h2 z)
theorem two_ways {x y : Int} {ta tb : TE} {σ : L2.St} {H : Hp} {Q : VK} (S : V → Hp → Prop) (ha : x = y → ∀ Q' : VK, (∀ v H', S v H' → Q' v H') → ta σ H Q')
    (hb : x ≠ y → ∀ Q' : VK, (∀ v H', S v H' → Q' v H') → tb σ H Q') (hQ : ∀ v H', S v H' → Q v H') : if decide (V.int x = V.int y) = true then ta σ H Q else tb σ H Q :=
  if_eq (fun z => ha z Q hQ) (fun z => hb z Q hQ)
theorem sm_fallen (n : Nat) (as bs : List Int) : ∀ (k : Int), 0 ≤ k → k + (as.length : Int) ≤ 10000 → Sm (fallenL k as bs) := by
  induction as generalizing bs with
  | nil =>
    intro k _ _
    cases bs <;> exact fun n hn => by cases hn
  | cons a as ih =>
    intro k hk hl
    cases bs with
    | nil => exact fun n hn => by cases hn
    | cons b bs =>
      have r := ih bs (k + 1) (by omega) (by simp at hl; omega)
      rw [fallenL]
      split
      · intro n hn
        cases hn with
        | head => simp at hl; omega
        | tail _ hn => exact r n hn
      · exact r
section
variable {P : Program} {w : World} {K : PySem.W.Frag} {mg : Str → Option Value} {base : Heap} {f : Addr} {fd : FuncData}
def spTold (K : PySem.W.Frag) : Sp := fun vs H Q _ => ∃ (a b : Addr) (xs ys : List Int), vs = [.ref a, .ref b] ∧ SqL K H a (IV (bitsL xs)) ∧ SqL K H b (IV (bitsL ys)) ∧ Oct xs ∧ Oct ys ∧ xs.length = ys.length ∧ xs.length ≤ 600 ∧ RV (.bl true) H Q
theorem ok_told (T : Txt K mg) (F : FnP K "_law_told_right" s__law_told_right f fd) (C__law_octets : Cal P w K mg base CX0 1 "_law_octets" ["_law_bits_here"] (spOctets K))
    (C__law_fallen : Cal P w K mg base CX0 1 "_law_fallen" ["_law_old", "_law_new"] (spFallen K))
    (C_zeros : Cal P w K mg base CX0 6 "zeros" ["octets"] (spZeros K)) (CK_zeros_0_octets : CalK P w K mg base CX0 6 "zeros" ["octets"] 0 ["octets"] g1 g1V (spZeros K))
    (C_falls : Cal P w K mg base CX0 6 "falls" ["old", "new"] (spFalls K)) (CK_falls_0_new_old : CalK P w K mg base CX0 6 "falls" ["old", "new"] 0 ["new", "old"] g21 g21V (spFalls K))
    (C_rises : Cal P w K mg base CX0 6 "rises" ["old", "new"] (spRises K)) (CK_rises_0_new_old : CalK P w K mg base CX0 6 "rises" ["old", "new"] 0 ["new", "old"] g21 g21V (spRises K)) :
    Fg P w K mg base CX0 7 f fd ["_law_old", "_law_new"] (spTold K) := by
  refine fg_of F sc__law_told_right (fun vs H Q E h => ?_) (fun cdv A outer s H vs Q E hr h => ⟨_, (PSs.nox (pss_cons (ps_par (i := 2) (j := 3) rfl sc__law_told_right.nd rfl rfl (by decide) rfl rfl (pa_cons (pe_callTy (u_list (K := K)) (by rfl) T.f_list (by decide +kernel) (pa_cons (pe_cal C__law_octets hr.le pass0 (pa_cons (pv 0) pa_nil)) pa_nil)) (pa_cons (pe_cal C__law_octets hr.le pass0 (pa_cons (pv 1) pa_nil)) pa_nil)) (by rfl))
  (pss_cons (ps_par (i := 4) (j := 5) rfl sc__law_told_right.nd rfl rfl (by decide) rfl rfl (pa_cons (pe_callTy (u_list (K := K)) (by rfl) T.f_list (by decide +kernel) (pa_cons (pv 2) pa_nil)) (pa_cons (pe_callTy (u_list (K := K)) (by rfl) T.f_list (by decide +kernel) (pa_cons (pv 3) pa_nil)) pa_nil)) (by rfl))
  (pss_cons (ps_for PassesOwn.never rfl (pi_range1 rfl T.f_range (pa_cons pe_int pa_nil)) (pg_name (i := 6) sc__law_told_right.nd rfl (by first | exact Or.inl rfl | exact Or.inr rfl))
  (pss_cons (ps_set (i := 7) sc__law_told_right.nd rfl (by first | exact Or.inl rfl | exact Or.inr rfl) (pe_ifExp (pt_cmpR (u_eq (K := K) hr) (pv 6) pe_int (nomark _)) (pe_cal C_zeros hr.le pass0 (pa_cons (pv 2) pa_nil)) (pe_calk CK_zeros_0_octets hr.le pass0 (pk_cons (pv 3) pk_nil))))
  (pss_cons (ps_if (PW.pt (pw_or (pt_tru (K := K) (pe_callB (u_isi (K := K)) (by rfl) T.f_isinstance (by decide +kernel) (pa_cons (pv 7) (pa_cons (pe_bltn (v := .ty "bool") rfl T.f_bool (by decide +kernel) rfl) pa_nil))) (by intro _; rfl)) (pw_or1 (pt_cmpR (u_ne (K := K) hr) (pv 7) (pe_bm PySem.F.plainAttrs_list PySem.F.slot_list_count PySem.F.type_list_count (u_count (K := K)) (pe_ix (u_ix (K := K)) (pe_lst (pa_cons (pv 0) (pa_cons (pv 1) pa_nil))) (pv 6) (fun _ _ => rfl)) (pa_cons pe_int pa_nil)) (nomark _)))))
  (pss_one (ps_ret pe_bl)) pss_nil)
  (pss_cons (ps_par (i := 8) (j := 9) rfl sc__law_told_right.nd rfl rfl (by decide) rfl rfl (pa_cons (pe_cal C_falls hr.le pass0 (pa_cons (pv 2) (pa_cons (pv 5) pa_nil))) (pa_cons (pe_calk CK_rises_0_new_old hr.le pass0 (pk_cons (pv 5) (pk_cons (pv 2) pk_nil))) pa_nil)) (by rfl))
  (pss_cons (ps_if (PW.pt (pw_or (pt_cmpR (u_ne (K := K) hr) (pe_callB (u_repr (K := K) hr) (by rfl) T.f_repr (by decide +kernel) (pa_cons (pv 8) pa_nil)) (pe_callB (u_repr (K := K) hr) (by rfl) T.f_repr (by decide +kernel) (pa_cons (pe_cal C__law_fallen hr.le pass0 (pa_cons (pv 0) (pa_cons (pv 1) pa_nil))) pa_nil)) (nomark _)) (pw_or1 (pt_cmpR (u_ne (K := K) hr) (pe_callB (u_repr (K := K) hr) (by rfl) T.f_repr (by decide +kernel) (pa_cons (pv 9) pa_nil)) (pe_callB (u_repr (K := K) hr) (by rfl) T.f_repr (by decide +kernel) (pa_cons (pe_cal C__law_fallen hr.le pass0 (pa_cons (pv 1) (pa_cons (pv 0) pa_nil))) pa_nil)) (nomark _)))))
  (pss_one (ps_ret pe_bl)) pss_nil)
  (pss_cons (ps_set (i := 10) sc__law_told_right.nd rfl (by first | exact Or.inl rfl | exact Or.inr rfl) (pe_calk CK_falls_0_new_old hr.le pass0 (pk_cons (pe_callTy (u_tup (K := K)) (by rfl) T.f_tuple (by decide +kernel) (pa_cons (pv 2) pa_nil)) (pk_cons (pe_callTy (u_list (K := K)) (by rfl) T.f_list (by decide +kernel) (pa_cons (pv 3) pa_nil)) pk_nil))))
  (pss_cons (ps_if (PW.pt (pw_or (pt_cmpR (u_ne (K := K) hr) (pe_callB (u_repr (K := K) hr) (by rfl) T.f_repr (by decide +kernel) (pa_cons (pv 10) pa_nil)) (pe_callB (u_repr (K := K) hr) (by rfl) T.f_repr (by decide +kernel) (pa_cons (pv 9) pa_nil)) (nomark _)) (pw_or1 (pt_cmpR (u_ne (K := K) hr) (pe_callB (u_repr (K := K) hr) (by rfl) T.f_repr (by decide +kernel) (pa_cons (pe_cal C_rises hr.le pass0 (pa_cons (pe_callTy (u_list (K := K)) (by rfl) T.f_list (by decide +kernel) (pa_cons (pv 3) pa_nil)) (pa_cons (pv 2) pa_nil))) pa_nil)) (pe_callB (u_repr (K := K) hr) (by rfl) T.f_repr (by decide +kernel) (pa_cons (pv 8) pa_nil)) (nomark _)))))
  (pss_one (ps_ret pe_bl)) pss_nil)
  (pss_cons (ps_if (PW.pt (pw_or (pt_cmpR (u_ne (K := K) hr) (pe_cal C_zeros hr.le pass0 (pa_cons (pv 3) pa_nil)) (pe_op op_sub (pe_op (u_add (K := K)) (pe_cal C_zeros hr.le pass0 (pa_cons (pv 2) pa_nil)) (pe_callB (u_len (K := K)) (by rfl) T.f_len (by decide +kernel) (pa_cons (pv 8) pa_nil))) (pe_callB (u_len (K := K)) (by rfl) T.f_len (by decide +kernel) (pa_cons (pv 9) pa_nil))) (nomark _)) (pw_or1 (pt_cmpR (u_ne (K := K) hr) (pe_and (pe_cmpR (u_eq (K := K) hr) (pv 8) (pe_lst pa_nil) (nomark _)) (pe_one (pe_cmpR (u_eq (K := K) hr) (pv 9) (pe_lst pa_nil) (nomark _)))) (pe_cmpR (u_eq (K := K) hr) (pv 0) (pv 1) (nomark _)) (nomark _)))))
  (pss_one (ps_ret pe_bl)) pss_nil)
  (pss_cons (ps_expr (pe_bm PySem.F.plainAttrs_list PySem.F.slot_list_append PySem.F.type_list_append mt_append (pv 8) (pa_cons pe_int pa_nil)))
  (pss_one (ps_expr (pe_bm PySem.F.plainAttrs_list PySem.F.slot_list_insert PySem.F.type_list_insert mt_insert (pv 9) (pa_cons pe_int (pa_cons (pe_un un_neg pe_int) pa_nil))))))))))))))
  (pss_one (ps_ret (pe_and (pe_cmpR (u_eq (K := K) hr) (pv 2) (pv 4) (nomark _)) (pe_one (pe_cmpR (u_eq (K := K) hr) (pv 5) (pe_callTy (u_list (K := K)) (by rfl) T.f_list (by decide +kernel) (pa_cons (pv 3) pa_nil)) (nomark _)))))))))), ?_⟩)
  · obtain ⟨a, b, xs, ys, rfl, _⟩ := h
    rfl
  · obtain ⟨a, b, xs, ys, rfl, Sa, Sb, ox, oy, hl, hm, q⟩ := h
    have lx := bitsL_len xs
    have ly := bitsL_len ys
    refine ⟨_, rfl, a, bitsL xs, rfl, Sa, bitsL_bit xs, by omega, fun t1 H1 n1 e1 h1 => ⟨t1, _, rfl, .inr (SqT.of h1), fun l1 m1 => ?_⟩⟩
    rw [octetsL_bitsL ox]
    have e2 := e1.trans (Evl.Ex.new (o := .lst (IV xs)) m1)
    refine ⟨_, rfl, b, bitsL ys, rfl, Evl.ex_l e2 Sb, bitsL_bit ys, by omega, fun t2 H2 n2 e3 h2 => ⟨_, _, rfl, ?_⟩⟩
    rw [octetsL_bitsL oy] at h2
    have h3 := e3 l1 _ upd_same
    have E3 := e2.trans e3
    refine ⟨_, rfl, l1, _, rfl, .inl (SqL.of h3), fun l3 m3 => ?_⟩
    have e4 := Evl.Ex.new (o := .lst (IV xs)) m3
    refine ⟨_, rfl, t2, _, rfl, .inr (SqT.of (e4 _ _ h2)), fun l4 m4 => ⟨_, _, rfl, ?_⟩⟩
    have e5 := Evl.Ex.new (o := .lst (IV ys)) m4
    have E5 := (E3.trans e4).trans e5
    have k1 := e5 _ _ (e4 _ _ h3)
    have k2 := e5 _ _ (e4 _ _ h2)
    have k3 := e5 l3 _ upd_same
    have k4 : upd (upd H2 l3 (.lst (IV xs))) l4 (.lst (IV ys)) l4 = some (.lst (IV ys)) := upd_same
    have Ka := Evl.ex_l E5 Sa
    have Kb := Evl.ex_l E5 Sb
    have q2 : RV (.bl true) (upd (upd H2 l3 (.lst (IV xs))) l4 (.lst (IV ys))) Q := fun H' e => q H' (E5.trans e)
    generalize upd (upd H2 l3 (.lst (IV xs))) l4 (.lst (IV ys)) = H0 at k1 k2 k3 k4 Ka Kb q2 ⊢
    refine ⟨2, rfl, by omega, by omega, for_range (lo := 0) (n := 2) (fun i σ H' => ∃ v6 v7 v8 v9 v10 : Option V, σ = [some (.ref a), some (.ref b), some (.ref l1), some (.ref t2), some (.ref l3), some (.ref l4), v6, v7, v8, v9, v10] ∧ Evl.Ex H0 H')
      ⟨none, none, none, none, none, rfl, Evl.Ex.refl _⟩ ?_ ?_⟩
    · rintro i σ H1 hi ⟨v6, v7, v8, v9, v10, rfl, E1⟩
      have e0 : (0 : Int) + (i : Int) = (i : Int) := Int.zero_add _
      rw [e0]
      -- the count
      refine ⟨_, rfl, .inl ⟨rfl, _, rfl, two_ways (fun v H' => ∃ os, v = .int (zc (bitsL os)) ∧ Evl.Ex H0 H' ∧ [bitsL xs, bitsL ys][i]? = some (bitsL os)) (fun z Q' k => ?_) (fun z Q' k => ?_) ?_⟩⟩
      · refine ⟨_, rfl, l1, xs, false, rfl, Sv.lst (E1 _ _ k1), ox, by omega, fun H2 e => k _ _ ⟨xs, rfl, E1.trans e, ?_⟩⟩
        have z' : i = 0 := by omega
        rw [z']
        rfl
      · refine ⟨_, rfl, rfl, rfl, t2, ys, true, rfl, Sv.tup (E1 _ _ k2), oy, by omega, fun H2 e => k _ _ ⟨ys, rfl, E1.trans e, ?_⟩⟩
        have z' : i = 1 := by omega
        rw [z']
        rfl
      rintro _ H2 ⟨os, rfl, E2, hos⟩
      obtain ⟨p, hp, Sp⟩ : ∃ p, [V.ref a, V.ref b][i]? = some (.ref p) ∧ SqL K H0 p (IV (bitsL os)) := by
        have hi' : i = 0 ∨ i = 1 := by omega
        rcases hi' with rfl | rfl
        · rw [← Option.some.inj hos]
          exact ⟨a, rfl, Ka⟩
        · rw [← Option.some.inj hos]
          exact ⟨b, rfl, Kb⟩
      refine ⟨_, rfl, _, _, _, _, false, rfl, .ty _, .base (.int _), kit_ty rfl, false, rfl, iteF ⟨_, rfl, _, rfl, _, rfl, by show 2 ≤ sizeLine; decide, fun D hD => ⟨_, rfl, .inl ⟨D, _, _, _, rfl, rfl, SqL.of upd_same, atI_nat hp, ?_⟩⟩⟩⟩
      have eD := Evl.Ex.new (o := .lst [V.ref a, V.ref b]) hD
      have E3 := E2.trans eD
      refine ⟨.inl ⟨rfl, _, Evl.ex_l E3 Sp⟩, p, _, _, rfl, rfl, Evl.ex_l E3 Sp, .inl ⟨rfl, _, rfl, same_ne ?_⟩⟩
      generalize upd H2 D (.lst [V.ref a, V.ref b]) = H3 at E3 ⊢
      clear eD hD
      -- what falls, what rises
      have smF : Sm (fallenL 0 (bitsL xs) (bitsL ys)) := sm_fallen 0 _ _ _ (by omega) (by omega)
      have smG : Sm (fallenL 0 (bitsL ys) (bitsL xs)) := sm_fallen 0 _ _ _ (by omega) (by omega)
      have lF : (fallenL 0 (bitsL xs) (bitsL ys)).length ≤ 6000 := Nat.le_trans (fallen_len _ _ _) (by omega)
      have lG : (fallenL 0 (bitsL ys) (bitsL xs)).length ≤ 6000 := Nat.le_trans (fallen_len _ _ _) (by omega)
      refine ⟨_, rfl, _, rfl, l1, l4, xs, ys, false, false, rfl, Sv.lst (E3 _ _ k1), Sv.lst (E3 _ _ k4), ox, oy, hl, by omega, fun p8 H4 n8 e4 h8 => ?_⟩
      have E4 := E3.trans e4
      have f8 := Evl.fresh_back E3 n8
      refine ⟨_, rfl, _, rfl, rfl, rfl, l1, l4, xs, ys, false, false, rfl, Sv.lst (E4 _ _ k1), Sv.lst (E4 _ _ k4), ox, oy, hl, by omega, fun p9 H5 n9 e5 h9 => ⟨_, _, rfl, ?_⟩⟩
      have E5 := E4.trans e5
      have f9 := Evl.fresh_back E4 n9
      have n89 : p8 ≠ p9 := by
        rintro rfl
        rw [h8] at n9
        cases n9
      have h8' := e5 _ _ h8
      refine ⟨_, rfl, rp_l (SqL.of h8') smF lF ⟨_, rfl, _, rfl, a, b, _, _, rfl, Evl.ex_l E5 Ka, Evl.ex_l E5 Kb, by omega, by omega, fun r1 H6 _ e6 hr1 => rp_l (SqL.of hr1) smF lF (.inl ⟨rfl, _, rfl, same_ne ?_⟩)⟩⟩
      have E6 := E5.trans e6
      refine ⟨_, rfl, rp_l (SqL.of (e6 _ _ h9)) smG lG ⟨_, rfl, _, rfl, b, a, _, _, rfl, Evl.ex_l E6 Kb, Evl.ex_l E6 Ka, by omega, by omega, fun r2 H7 _ e7 hr2 => rp_l (SqL.of hr2) smG lG (.inl ⟨rfl, _, rfl, same_ne ?_⟩)⟩⟩
      have E7 := E6.trans e7
      have X8 := e7 _ _ (e6 _ _ h8')
      have X9 := e7 _ _ (e6 _ _ h9)
      clear hr1 hr2 e6 E6 h8' h9 h8 e5 e4 e7
      -- and back
      refine ⟨_, rfl, l1, _, rfl, .inl ⟨SqL.of (E7 _ _ k1), fun l5 m5 => ?_⟩⟩
      have e8 := Evl.Ex.new (o := .tup (IV xs)) m5
      have E8 := E7.trans e8
      refine ⟨_, rfl, t2, _, rfl, .inr (SqT.of (E8 _ _ k2)), fun l6 m6 => ⟨rfl, rfl, l6, l5, ys, xs, false, true, rfl, Sv.lst upd_same, ?_, oy, ox, hl.symm, by omega, fun p10 H8 n10 e10 h10 => ?_⟩⟩
      · exact Sv.tup (Evl.Ex.new (o := .lst (IV ys)) m6 _ _ upd_same)
      have e9 := (e8.trans (Evl.Ex.new (o := .lst (IV ys)) m6)).trans e10
      have E9 := E7.trans e9
      have Y8 := e9 _ _ X8
      have Y9 := e9 _ _ X9
      clear e8 E8 e10 e9 X8 X9 m5 m6
      refine ⟨_, rfl, rp_l (SqL.of h10) smG lG ⟨_, rfl, rp_l (SqL.of Y9) smG lG (.inl ⟨rfl, _, rfl, same_ne ?_⟩)⟩⟩
      refine ⟨_, rfl, t2, _, rfl, .inr (SqT.of (E9 _ _ k2)), fun l7 m7 => ?_⟩
      have e11 := Evl.Ex.new (o := .lst (IV ys)) m7
      refine ⟨_, rfl, l7, l1, ys, xs, false, false, rfl, Sv.lst upd_same, Sv.lst (e11 _ _ (E9 _ _ k1)), oy, ox, hl.symm, by omega, fun p11 H9 n11 e12 h11 => rp_l (SqL.of h11) smF lF ⟨_, rfl, ?_⟩⟩
      have e13 := e11.trans e12
      have E10 := E9.trans e13
      have Z8 := e13 _ _ Y8
      have Z9 := e13 _ _ Y9
      refine rp_l (SqL.of Z8) smF lF (.inl ⟨rfl, _, rfl, same_ne ?_⟩)
      clear e11 e12 e13 Y8 Y9 E9 h11 m7 h10
      -- the counts
      refine ⟨_, rfl, t2, ys, true, rfl, Sv.tup (E10 _ _ k2), oy, by omega, fun H10 e14 => ?_⟩
      have E11 := E10.trans e14
      refine ⟨_, rfl, l1, xs, false, rfl, Sv.lst (E11 _ _ k1), ox, by omega, fun H11 e15 => ?_⟩
      have E12 := E11.trans e15
      have e16 := e14.trans e15
      have A8 := e16 _ _ Z8
      have A9 := e16 _ _ Z9
      clear e14 e15 e16 E10 E11 Z8 Z9
      have zd := zc_diff (bitsL xs) (bitsL ys) 0 0 (bitsL_bit xs) (bitsL_bit ys) (by omega)
      refine ⟨_, rfl, _, _, rfl, .inl ⟨_, SqL.of A8, rfl⟩, .inl ⟨_, _, rfl, rfl, _, rfl, _, _, rfl, .inl ⟨_, SqL.of A9, rfl⟩, _, _, rfl, rfl, .inl ⟨rfl, _, rfl, ?_⟩⟩⟩
      refine same_int (by rw [iv_len, iv_len]; exact zd) ?_
      -- nothing turns exactly if both are alike
      refine ⟨_, rfl, by show 0 ≤ sizeLine; decide, fun d1 w1 => .inr (req_l (ms := []) (SqL.of (Evl.Ex.new w1 _ _ A8)) (SqL.of upd_same) ?_)⟩
      have e17 := Evl.Ex.new (o := .lst []) w1
      have E13 := E12.trans e17
      have B8 := e17 _ _ A8
      have B9 := e17 _ _ A9
      generalize upd H11 d1 (.lst []) = H12 at E13 B8 B9 ⊢
      clear e17 A8 A9 E12 w1
      have both : fallenL 0 (bitsL xs) (bitsL ys) = [] → (decide (fallenL 0 (bitsL ys) (bitsL xs) = []) = decide (bitsL xs = bitsL ys)) := by
        intro hF
        by_cases hG : fallenL 0 (bitsL ys) (bitsL xs) = []
        · rw [decide_eq_true hG, decide_eq_true (fallen_both _ _ 0 0 (bitsL_bit xs) (bitsL_bit ys) (by omega) hF hG)]
        · rw [decide_eq_false hG, decide_eq_false]
          intro e
          rw [e] at hG
          exact hG (fallen_self _ _)
      have lt8 : (IV (fallenL 0 (bitsL xs) (bitsL ys))).length < sizeLine := by
        rw [iv_len]
        exact Evl.sz_lt (by omega)
      have lt9 : (IV (fallenL 0 (bitsL ys) (bitsL xs))).length < sizeLine := by
        rw [iv_len]
        exact Evl.sz_lt (by omega)
      refine ⟨_, rfl, if_dec (fun hF => ?_) (fun hF => ?_)⟩
      · refine ⟨_, rfl, by show 0 ≤ sizeLine; decide, fun d2 w2 => .inr (req_l (ms := []) (SqL.of (Evl.Ex.new w2 _ _ B9)) (SqL.of upd_same) ?_)⟩
        have e18 := Evl.Ex.new (o := .lst []) w2
        have E14 := E13.trans e18
        have C8 := e18 _ _ B8
        have C9 := e18 _ _ B9
        refine ⟨_, rfl, _, rfl, .inr (req_l (Evl.ex_l E14 Ka) (Evl.ex_l E14 Kb) (.inl ⟨rfl, _, rfl, same_bl (both hF) ?_⟩))⟩
        generalize upd H12 d2 (.lst []) = H13 at E14 C8 C9 ⊢
        refine ⟨_, rfl, .inl ⟨rfl, _, SqL.of C8⟩, p8, _, _, rfl, rfl, C8, lt8, ?_⟩
        refine ⟨_, rfl, .inl ⟨rfl, _, SqL.of ((upd_ne (Ne.symm n89)).trans C9)⟩, _, rfl, p9, _, _, _, rfl, rfl, (upd_ne (Ne.symm n89)).trans C9, lt9, by omega, by omega, ?_⟩
        exact ⟨_, _, _, _, _, rfl, Evl.Ex.mut (Evl.Ex.mut E14 f8) f9⟩
      · have ne : ¬ bitsL xs = bitsL ys := by
          intro e
          rw [e] at hF
          exact hF (fallen_self _ _)
        refine ⟨_, rfl, _, rfl, .inr (req_l (Evl.ex_l E13 Ka) (Evl.ex_l E13 Kb) (.inl ⟨rfl, _, rfl, same_bl (decide_eq_false ne).symm ?_⟩))⟩
        refine ⟨_, rfl, .inl ⟨rfl, _, SqL.of B8⟩, p8, _, _, rfl, rfl, B8, lt8, ?_⟩
        refine ⟨_, rfl, .inl ⟨rfl, _, SqL.of ((upd_ne (Ne.symm n89)).trans B9)⟩, _, rfl, p9, _, _, _, rfl, rfl, (upd_ne (Ne.symm n89)).trans B9, lt9, by omega, by omega, ?_⟩
        exact ⟨_, _, _, _, _, rfl, Evl.Ex.mut (Evl.Ex.mut E13 f8) f9⟩
    · rintro σ H1 ⟨v6, v7, v8, v9, v10, rfl, E1⟩
      have S2 := SqL.of (K := K) (E1 _ _ k1)
      have S4 := SqL.of (K := K) (E1 _ _ k3)
      have S5 := SqL.of (K := K) (E1 _ _ k4)
      refine ⟨_, rfl, _, rfl, .inr (req_l S2 S4 ⟨_, rfl, ?_⟩)⟩
      rw [decide_eq_true rfl]
      refine iteT ⟨_, rfl, _, rfl, t2, _, rfl, .inr (SqT.of (E1 _ _ k2)), fun l8 m8 => .inr (req_l (Evl.ex_l (Evl.Ex.new m8) S5) (SqL.of upd_same) ?_)⟩
      rw [decide_eq_true rfl]
      exact q2 _ (E1.trans (Evl.Ex.new m8))
end
end K01
/-! min of one list or tuple of ints -/
namespace VB
open PySem PySem.Spec PyProof.Rows L2 PySem.W
theorem ints_reads (h : Heap) : ∀ {os : List Int} {its : List Value}, Vals (os.map V.int) its → ∃ as, ReadsAll h its (os.map PyData.int) as
  | [], _, r => by
    cases r
    exact ⟨[], .nil⟩
  | o :: os, _, r => by
    cases r with
    | cons r1 r2 =>
      obtain ⟨t, rfl⟩ := r1
      obtain ⟨as, ha⟩ := ints_reads h r2
      exact ⟨_, .cons (.int o t) ha⟩
theorem ints_alike (os : List Int) : AlikeAll (os.map PyData.int) := by
  refine ⟨fun x hx y hy => ?_, fun x hx => ?_⟩
  · obtain ⟨a, _, rfl⟩ := List.mem_map.mp hx
    obtain ⟨b, _, rfl⟩ := List.mem_map.mp hy
    rfl
  · obtain ⟨a, _, rfl⟩ := List.mem_map.mp hx
    exact fun z => nomatch z
theorem ints_depth : ∀ os : List Int, PyData.depthAll (os.map PyData.int) = 0
  | [] => rfl
  | o :: os => by
    show Nat.max 0 (PyData.depthAll (os.map PyData.int)) = 0
    rw [ints_depth os]
    rfl
theorem foldl_min_mem : ∀ (os : List Int) (n : Int), os.foldl min n ∈ n :: os
  | [], n => List.mem_cons_self ..
  | o :: os, n => by
    have h := foldl_min_mem os (min n o)
    rw [List.foldl_cons]
    rcases List.mem_cons.mp h with z | z
    · rw [z]
      by_cases c : n ≤ o
      · rw [Int.min_eq_left c]
        exact List.mem_cons_self ..
      · rw [Int.min_eq_right (by omega)]
        exact List.mem_cons_of_mem _ (List.mem_cons_self ..)
    · exact List.mem_cons_of_mem _ (List.mem_cons_of_mem _ z)
theorem foldl_min_le : ∀ (os : List Int) (n : Int), (os.foldl min n ≤ n) ∧ ∀ y ∈ os, os.foldl min n ≤ y
  | [], n => ⟨Int.le_refl _, fun y hy => nomatch hy⟩
  | o :: os, n => by
    obtain ⟨h1, h2⟩ := foldl_min_le os (min n o)
    rw [List.foldl_cons]
    refine ⟨by omega, fun y hy => ?_⟩
    rcases List.mem_cons.mp hy with z | z
    · omega
    · exact h2 y z
def rMin1 (K : PySem.W.Frag) : List V → Hp → VK → Prop := fun vs H Q => ∃ (a : Addr) (os : List Int) (t : Bool), vs = [.ref a] ∧ Sv t K H a (IV os) ∧ 0 < os.length ∧ ∀ m, m ∈ os → (∀ y, y ∈ os → m ≤ y) → Q (.int m) H
section
variable {X : Cx} {K : PySem.W.Frag}
theorem u_min1 {k : Nat} (hr : Rm k X.A) (hc : X.calm = true) (hK : X.K = K := by rfl) : CallR X (.builtin "min") (rMin1 K) := by
  subst hK
  intro pins s σ H vs us Q I r h
  obtain ⟨a, os, t, rfl, hs, hne, q⟩ := h
  cases t with
  | false => exact cr_min hc pins s σ H [.ref a] us Q I r ⟨a, os, rfl, hs, hne, q⟩
  | true =>
    obtain ⟨its, rv, ⟨⟨cls, dd, data, sl⟩, ho, hcl, n, hd⟩, hsz⟩ := I.tuple hs
    simp only at hcl hd
    subst hcl hd
    rw [Vals.ref1 r]
    obtain ⟨as, ra⟩ := ints_reads s.heap (show Vals (os.map V.int) its from rv)
    cases os with
    | nil => exact absurd hne (Nat.lt_irrefl 0)
    | cons o os =>
      have u2 := hr.rm.units
      have un : X.A.units + 1 + PyData.depthAll (PyData.int o :: os.map PyData.int) < cLine := by
        have e : PyData.depthAll (PyData.int o :: os.map PyData.int) = 0 := ints_depth (o :: os)
        rw [e]
        omega
      have ra' : ReadsAll s.heap its.toArray.toList (PyData.int o :: os.map PyData.int) as := by simpa using ra
      refine min_tuple_data (I.ok.hd hc) (vs := its.toArray) ⟨_, ho, rfl, n, rfl⟩ ra' (ints_alike (o :: os)) un fun i v h' tk bs hv rd hk => ?_
      rw [minD_ints] at rd
      cases rd with
      | int _ t =>
        obtain ⟨h1, h2⟩ := foldl_min_le os o
        exact ⟨.int _, H, I.kept hk, ⟨_, rfl⟩, q _ (foldl_min_mem os o) fun y hy => by
          rcases List.mem_cons.mp hy with z | z
          · rw [z]
            exact h1
          · exact h2 y z⟩
end
end VB
/-! zip of two sequences, each a list or a tuple -/
namespace VB
open PySem PySem.Spec PyProof.Rows L2
/-- a list (false) or a tuple (true) at l -/
def Sq (t : Bool) (h : Heap) (l : Addr) (xs : Array Value) : Prop := match t with
  | false => h.IsList l xs
  | true => h.IsTuple l xs
/-- its iterator at i, at the k-th place -/
def Si (t : Bool) (h : Heap) (i l : Addr) (k : Nat) : Prop := match t with
  | false => h.IsListIter i l k
  | true => h.IsTupleIter i l k
section
variable {t u : Bool} {h h' : Heap} {i l b : Addr} {k : Nat} {xs ys : Array Value}
theorem Sq.ext (x : Sq t h l xs) (e : Heap.ExtBut b h h') (n : l ≠ b) : Sq t h' l xs := by
  cases t with
  | false => exact Heap.IsList.extBut (show h.IsList l xs from x) e n
  | true => exact Heap.IsTuple.extBut (show h.IsTuple l xs from x) e n
theorem Si.ext (x : Si t h i l k) (e : Heap.ExtBut b h h') (n : i ≠ b) : Si t h' i l k := by
  cases t with
  | false => exact Heap.IsListIter.extBut (show h.IsListIter i l k from x) e n
  | true => exact Heap.IsTupleIter.extBut (show h.IsTupleIter i l k from x) e n
theorem Sq.psh (x : Sq t h l xs) (o : Obj) : Sq t (h.push o) l xs := by
  cases t with
  | false => exact Heap.IsList.push (show h.IsList l xs from x) o
  | true => exact Heap.IsTuple.push (show h.IsTuple l xs from x) o
theorem Si.stay (x : Si t h i l k) (e : ∀ o, h.get? i = some o → h'.get? i = some o) : Si t h' i l k := by
  cases t with
  | false => exact Heap.IsListIter.at (show h.IsListIter i l k from x) e
  | true => exact Heap.IsTupleIter.at (show h.IsTupleIter i l k from x) e
theorem Si.obj (x : Si t h i l k) : ∃ o, h.get? i = some o ∧ ∀ v, o.data ≠ .cell v := by
  cases t with
  | false =>
    obtain ⟨o, e, _, d⟩ := (show h.IsListIter i l k from x)
    exact ⟨o, e, fun v q => by rw [d] at q; cases q⟩
  | true =>
    obtain ⟨o, e, _, d⟩ := (show h.IsTupleIter i l k from x)
    exact ⟨o, e, fun v q => by rw [d] at q; cases q⟩
end
section
variable {prog : Program} {w : World} {A : Around} {E : Value → Shared → Prop} {s : Shared} {t u : Bool}
  {z T1 T2 i1 i2 l1 l2 : Addr} {k1 k2 : Nat} {xs ys : Array Value} {x y c d : Value}
theorem draw_item {it l : Addr} {k : Nat} {Q : Value → Shared → Prop} (hi : Si t s.heap it l k) (hl : Sq t s.heap l xs)
    (hx : xs[k]? = some x) (hq : ∀ h', Si t h' it l (k + 1) → Heap.SameBut it s.heap h' → Q x { s with heap := h' }) :
    wpAny (model prog w) A (Builtin.SmallTypes.nextOf (.ref it)) Q E s := by
  cases t with
  | false => exact wpAny_nextOf_list_item (show s.heap.IsListIter it l k from hi) (show s.heap.IsList l xs from hl) hx hq
  | true => exact RZ.nextOf_tuple_item (show s.heap.IsTupleIter it l k from hi) (show s.heap.IsTuple l xs from hl) hx hq
theorem draw_end {it l : Addr} {k : Nat} {Q : Value → Shared → Prop} (hh : A.handled = none) (hi : Si t s.heap it l k)
    (hl : Sq t s.heap l xs) (hx : xs[k]? = none)
    (he : ∀ h' e, Heap.ExtBut it s.heap h' → (∃ o, h'.get? e = some o ∧ o.cls = .type "StopIteration") → E (.ref e) { s with heap := h' }) :
    wpAny (model prog w) A (Builtin.SmallTypes.nextOf (.ref it)) Q E s := by
  cases t with
  | false => exact wpAny_nextOf_list_end hh (show s.heap.IsListIter it l k from hi) (show s.heap.IsList l xs from hl) hx he
  | true => exact RZ.nextOf_tuple_end hh (show s.heap.IsTupleIter it l k from hi) (show s.heap.IsTuple l xs from hl) hx he

/-- what a turn of the zip object leaves -/
structure ZTurn (t u : Bool) (h h' : Heap) (z T1 T2 i1 i2 l1 l2 : Addr) (k1 k2 : Nat) (x y : Value) : Prop where
  zip : IsZip h' z T1 T2 (rawInt h.objs.size)
  out : IsPair h' T2 x y
  it1 : Si t h' i1 l1 (k1 + 1)
  it2 : Si u h' i2 l2 (k2 + 1)
  new : IsPair h' h.objs.size x y
  size : h'.objs.size = h.objs.size + 1
  keep : ∀ b o, b ≠ z → b ≠ T2 → b ≠ i1 → b ≠ i2 → h.get? b = some o → h'.get? b = some o

theorem zmix_item {Q : Value → Shared → Prop} (D : ZipApart z T1 T2 i1 i2 l1 l2) (hz : IsZip s.heap z T1 T2 .none)
    (h1 : IsPair s.heap T1 (.ref i1) (.ref i2)) (h2 : IsPair s.heap T2 c d) (a1 : Si t s.heap i1 l1 k1) (a2 : Si u s.heap i2 l2 k2)
    (b1 : Sq t s.heap l1 xs) (b2 : Sq u s.heap l2 ys) (hx : xs[k1]? = some x) (hy : ys[k2]? = some y)
    (hq : ∀ h', ZTurn t u s.heap h' z T1 T2 i1 i2 l1 l2 k1 k2 x y → Q (.ref s.heap.objs.size) { s with heap := h' }) :
    wpAny (model prog w) A (Builtin.«zip.__next__» ⟨[.ref z], []⟩) (fun fin s' => ∃ v, fin = .done (.ret v) ∧ Q v s') E s := by
  show wpAny _ _ (field (.ref z) 2 >>= _) _ _ _
  refine wpAny_bind (wpAny_field hz rfl (x := .bool false) rfl ?_)
  show wpAny _ _ (field (.ref z) 3 >>= _) _ _ _
  refine wpAny_bind (wpAny_field hz rfl (x := .ref T1) rfl ?_)
  refine wpAny_bind (wpAny_seqItems h1 rfl ?_)
  show wpAny _ _ (Builtin.SmallTypes.ownedTupleIsFree (.ref z) >>= _) _ _ _
  refine wpAny_bind ?_
  unfold Builtin.SmallTypes.ownedTupleIsFree
  refine wpAny_bind (wpAny_field hz rfl (x := .none) rfl (wpAny_pure ?_))
  simp only [if_true]
  refine wpAny_bind (wpAny_rule ?_)
  refine wpAny_bind (wpAny_field hz rfl (x := .ref T2) rfl ?_)
  refine wpAny_bind (wpAny_setField_rec hz (by simp) ?_)
  intro g1 zg1 s1
  replace zg1 : IsZip g1 z T1 T2 .ellipsis := zg1
  refine wpAny_bind ?_
  simp only [List.zipIdx_cons, List.zipIdx_nil, List.forIn_cons, List.forIn_nil]
  -- the first one's item
  refine wpAny_bind (wpAny_bind (wpAny_onRaise ?_))
  show wpAny _ _ (Builtin.SmallTypes.nextOf (.ref i1) >>= _) _ _ _
  refine wpAny_bind (draw_item (a1.ext s1.extBut D.i1z) (b1.ext s1.extBut D.l1z) hx ?_)
  intro g2 n1 s2
  refine wpAny_pure ?_
  have o2 : IsPair g2 T2 c d := s2.extBut _ _ D.TOi1 (s1.extBut _ _ D.TOz h2)
  refine wpAny_bind (wpAny_seqItems o2 rfl ?_)
  refine wpAny_bind (wpAny_updateSeq_pair o2 ?_)
  intro g3 o3 s3
  replace o3 : IsPair g3 T2 x d := o3
  refine wpAny_bind (wpAny_letGo (wpAny_pure ?_))
  -- the second one's
  refine wpAny_bind (wpAny_bind (wpAny_onRaise ?_))
  show wpAny _ _ (Builtin.SmallTypes.nextOf (.ref i2) >>= _) _ _ _
  refine wpAny_bind (draw_item (((a2.ext s1.extBut D.i2z).ext s2.extBut D.i12.symm).ext s3.extBut D.TOi2.symm)
    (((b2.ext s1.extBut D.l2z).ext s2.extBut D.l2i1).ext s3.extBut D.l2TO) hy ?_)
  intro g4 n2 s4
  refine wpAny_pure ?_
  have o4 : IsPair g4 T2 x d := s4.extBut _ _ D.TOi2 o3
  refine wpAny_bind (wpAny_seqItems o4 rfl ?_)
  refine wpAny_bind (wpAny_updateSeq_pair o4 ?_)
  intro g5 o5 s5
  replace o5 : IsPair g5 T2 x y := o5
  refine wpAny_bind (wpAny_letGo (wpAny_pure (wpAny_pure ?_)))
  -- the pair
  refine wpAny_bind (wpAny_seqItems o5 rfl ?_)
  refine wpAny_bind (wpAny_newTuple ?_)
  have sz : g5.objs.size = s.heap.objs.size := by rw [s5.1, s4.1, s3.1, s2.1, s1.1]
  have z5 : IsZip g5 z T1 T2 .ellipsis :=
    s5.extBut _ _ D.TOz.symm (s4.extBut _ _ D.i2z.symm (s3.extBut _ _ D.TOz.symm (s2.extBut _ _ D.i1z.symm zg1)))
  have kp : ∀ b o, b ≠ z → b ≠ T2 → b ≠ i1 → b ≠ i2 → s.heap.get? b = some o → g5.get? b = some o := by
    intro b o e1 e2 e3 e4 e
    exact s5.extBut _ _ e2 (s4.extBut _ _ e4 (s3.extBut _ _ e2 (s2.extBut _ _ e3 (s1.extBut _ _ e1 e))))
  have m1 : Si t g5 i1 l1 (k1 + 1) := ((n1.ext s3.extBut D.TOi1.symm).ext s4.extBut D.i12).ext s5.extBut D.TOi1.symm
  have m2 : Si u g5 i2 l2 (k2 + 1) := n2.ext s5.extBut D.TOi2.symm
  have zlt : z < g5.objs.size := Heap.lt_size z5
  show wpAny _ _ (Builtin.SmallTypes.ownedTupleHandOut (.ref z) (.ref g5.objs.size) >>= _) _ _ _
  refine wpAny_bind ?_
  unfold Builtin.SmallTypes.ownedTupleHandOut
  have z6 : IsZip (g5.push { cls := .type "tuple", data := .seq #[x, y] }) z T1 T2 .ellipsis := Heap.get?_push_of_some _ z5
  refine wpAny_bind (wpAny_setField_rec z6 (by simp) ?_)
  intro g7 z7 s7
  replace z7 : IsZip g7 z T1 T2 (rawInt g5.objs.size) := z7
  refine wpAny_setField_rec z7 (by simp) ?_
  intro g8 z8 s8
  replace z8 : IsZip g8 z T1 T2 (rawInt g5.objs.size) := z8
  have up : ∀ b o, b ≠ z → g5.get? b = some o → g8.get? b = some o := fun b o n e =>
    s8.extBut _ _ n (s7.extBut _ _ n (Heap.get?_push_of_some _ e))
  have nz : g5.objs.size ≠ z := Nat.ne_of_gt zlt
  have p8 : IsPair g8 g5.objs.size x y := s8.extBut _ _ nz (s7.extBut _ _ nz (Heap.get?_push_size _ rfl))
  have l8 : g8.objs.size = g5.objs.size + 1 := by rw [s8.1, s7.1, Heap.size_push]
  rw [sz] at z8 p8 l8
  refine wpAny_pure ⟨_, rfl, ?_⟩
  show Q (.ref g5.objs.size) _
  rw [sz]
  exact hq g8 ⟨z8, up _ _ D.TOz o5, m1.stay (fun o => up _ o D.i1z), m2.stay (fun o => up _ o D.i2z), p8, l8,
    fun b o e1 e2 e3 e4 e => up b o e1 (kp b o e1 e2 e3 e4 e)⟩

theorem zmix_end {Q : Fin → Shared → Prop} (hh : A.handled = none) (D : ZipApart z T1 T2 i1 i2 l1 l2) (hz : IsZip s.heap z T1 T2 .none)
    (h1 : IsPair s.heap T1 (.ref i1) (.ref i2)) (h2 : IsPair s.heap T2 c d) (a1 : Si t s.heap i1 l1 k1) (a2 : Si u s.heap i2 l2 k2)
    (b1 : Sq t s.heap l1 xs) (b2 : Sq u s.heap l2 ys) (hend : xs[k1]? = none ∨ ys[k2]? = none)
    (he : ∀ h' e, (∀ b o, b ≠ z → b ≠ T2 → b ≠ i1 → b ≠ i2 → s.heap.get? b = some o → h'.get? b = some o) →
      (∃ o, h'.get? e = some o ∧ o.cls = .type "StopIteration") → E (.ref e) { s with heap := h' }) :
    wpAny (model prog w) A (Builtin.«zip.__next__» ⟨[.ref z], []⟩) Q E s := by
  show wpAny _ _ (field (.ref z) 2 >>= _) _ _ _
  refine wpAny_bind (wpAny_field hz rfl (x := .bool false) rfl ?_)
  show wpAny _ _ (field (.ref z) 3 >>= _) _ _ _
  refine wpAny_bind (wpAny_field hz rfl (x := .ref T1) rfl ?_)
  refine wpAny_bind (wpAny_seqItems h1 rfl ?_)
  show wpAny _ _ (Builtin.SmallTypes.ownedTupleIsFree (.ref z) >>= _) _ _ _
  refine wpAny_bind ?_
  unfold Builtin.SmallTypes.ownedTupleIsFree
  refine wpAny_bind (wpAny_field hz rfl (x := .none) rfl (wpAny_pure ?_))
  simp only [if_true]
  refine wpAny_bind (wpAny_rule ?_)
  refine wpAny_bind (wpAny_field hz rfl (x := .ref T2) rfl ?_)
  refine wpAny_bind (wpAny_setField_rec hz (by simp) ?_)
  intro g1 zg1 s1
  replace zg1 : IsZip g1 z T1 T2 .ellipsis := zg1
  refine wpAny_bind ?_
  simp only [List.zipIdx_cons, List.zipIdx_nil, List.forIn_cons, List.forIn_nil]
  refine wpAny_bind (wpAny_bind (wpAny_onRaise ?_))
  show wpAny _ _ (Builtin.SmallTypes.nextOf (.ref i1) >>= _) _ _ _
  cases hx : xs[k1]? with
  | none =>
    refine wpAny_bind (draw_end hh (a1.ext s1.extBut D.i1z) (b1.ext s1.extBut D.l1z) hx ?_)
    rintro g2 e s2 ⟨oe, he1, he2⟩
    have zg2 : IsZip g2 z T1 T2 .ellipsis := s2 _ _ D.i1z.symm zg1
    have ez : e ≠ z := by
      rintro rfl
      rw [zg2] at he1
      cases he1
      simp at he2
    refine wpAny_setField_rec zg2 (by simp) ?_
    intro g3 _ s3
    exact he g3 e (fun b o e1 _ e3 _ q => s3.extBut _ _ e1 (s2 _ _ e3 (s1.extBut _ _ e1 q))) ⟨oe, s3.extBut _ _ ez he1, he2⟩
  | some x =>
    have hy : ys[k2]? = none := by
      rcases hend with q | q
      · rw [hx] at q
        cases q
      · exact q
    refine wpAny_bind (draw_item (a1.ext s1.extBut D.i1z) (b1.ext s1.extBut D.l1z) hx ?_)
    intro g2 n1 s2
    refine wpAny_pure ?_
    have o2 : IsPair g2 T2 c d := s2.extBut _ _ D.TOi1 (s1.extBut _ _ D.TOz h2)
    refine wpAny_bind (wpAny_seqItems o2 rfl ?_)
    refine wpAny_bind (wpAny_updateSeq_pair o2 ?_)
    intro g3 o3 s3
    refine wpAny_bind (wpAny_letGo (wpAny_pure ?_))
    refine wpAny_bind (wpAny_bind (wpAny_onRaise ?_))
    show wpAny _ _ (Builtin.SmallTypes.nextOf (.ref i2) >>= _) _ _ _
    refine wpAny_bind (draw_end hh (((a2.ext s1.extBut D.i2z).ext s2.extBut D.i12.symm).ext s3.extBut D.TOi2.symm)
      (((b2.ext s1.extBut D.l2z).ext s2.extBut D.l2i1).ext s3.extBut D.l2TO) hy ?_)
    rintro g4 e s4 ⟨oe, he1, he2⟩
    have zg4 : IsZip g4 z T1 T2 .ellipsis := s4 _ _ D.i2z.symm (s3.extBut _ _ D.TOz.symm (s2.extBut _ _ D.i1z.symm zg1))
    have ez : e ≠ z := by
      rintro rfl
      rw [zg4] at he1
      cases he1
      simp at he2
    refine wpAny_setField_rec zg4 (by simp) ?_
    intro g5 _ s5
    exact he g5 e (fun b o e1 e2 e3 e4 q => s5.extBut _ _ e1 (s4 _ _ e4 (s3.extBut _ _ e2 (s2.extBut _ _ e3 (s1.extBut _ _ e1 q)))))
      ⟨oe, s5.extBut _ _ ez he1, he2⟩
end
end VB
/-! zip of two sequences, each a list or a tuple: its making, its walk -/
namespace VB
open PySem PySem.Spec PyProof.Rows L2
theorem Sv.inj {X : Cx} {pins : List (Addr × Obj)} {σ : L2.St} {H : Hp} {s : Shared} {t : Bool} {a : Addr} {xs ys : List V}
    (I : Inv X pins σ H s) (h : Sv t X.K H a xs) (h' : Sv t X.K H a ys) : xs = ys := by
  cases t with
  | false => exact I.list_inj (show SqL X.K H a xs from h) (show SqL X.K H a ys from h')
  | true => exact I.tuple_inj (show SqT X.K H a xs from h) (show SqT X.K H a ys from h')
theorem Sv.real {X : Cx} {pins : List (Addr × Obj)} {σ : L2.St} {H : Hp} {s : Shared} {t : Bool} {a : Addr} {xs : List V}
    (I : Inv X pins σ H s) (h : Sv t X.K H a xs) : ∃ its : List Value, Vals xs its ∧ Sq t s.heap a its.toArray ∧ a < s.heap.objs.size := by
  cases t with
  | false =>
    obtain ⟨its, r, p, _⟩ := I.list (show SqL X.K H a xs from h)
    exact ⟨its, r, p.isList, p.lt⟩
  | true =>
    obtain ⟨its, r, p, _⟩ := I.tuple (show SqT X.K H a xs from h)
    obtain ⟨o, ho, _⟩ := id p
    exact ⟨its, r, p, Heap.lt_size ho⟩
section
variable {prog : Program} {w : World} {A : Around} {E : Value → Shared → Prop} {s : Shared} {t u : Bool}
  {z T1 T2 i1 i2 l1 l2 : Addr} {k1 k2 : Nat} {xs ys : Array Value} {x y c d : Value}
theorem zmix_next {Q : Option Value → Shared → Prop} (D : ZipApart z T1 T2 i1 i2 l1 l2) (hz : IsZip s.heap z T1 T2 .none)
    (h1 : IsPair s.heap T1 (.ref i1) (.ref i2)) (h2 : IsPair s.heap T2 c d) (a1 : Si t s.heap i1 l1 k1) (a2 : Si u s.heap i2 l2 k2)
    (b1 : Sq t s.heap l1 xs) (b2 : Sq u s.heap l2 ys) (hx : xs[k1]? = some x) (hy : ys[k2]? = some y)
    (hq : ∀ h', ZTurn t u s.heap h' z T1 T2 i1 i2 l1 l2 k1 k2 x y → Q (some (.ref s.heap.objs.size)) { s with heap := h' }) :
    wpAny (model prog w) A (pyNext (.ref z)) Q E s := by
  have ty : s.TypeIs (.ref z) "zip" := ⟨_, hz, rfl⟩
  unfold pyNext
  refine wpAny_bind (wpAny_attempt ?_)
  refine wpAny_callSpecial?_slot (name := Str.ofString "__next__") ty F.slot_zip_next ?_
  refine wpAny_call_entry F.slot_zip_next ty F.entry_zip_next ?_ (F.args_zip_next_1 _)
  exact zmix_item D hz h1 h2 a1 a2 b1 b2 hx hy fun h' q => wpAny_pure (hq h' q)
theorem zmix_stop {Q : Option Value → Shared → Prop} (hh : A.handled = none) (D : ZipApart z T1 T2 i1 i2 l1 l2) (hz : IsZip s.heap z T1 T2 .none)
    (h1 : IsPair s.heap T1 (.ref i1) (.ref i2)) (h2 : IsPair s.heap T2 c d) (a1 : Si t s.heap i1 l1 k1) (a2 : Si u s.heap i2 l2 k2)
    (b1 : Sq t s.heap l1 xs) (b2 : Sq u s.heap l2 ys) (hend : xs[k1]? = none ∨ ys[k2]? = none)
    (hq : ∀ h', (∀ b o, b ≠ z → b ≠ T2 → b ≠ i1 → b ≠ i2 → s.heap.get? b = some o → h'.get? b = some o) → Q none { s with heap := h' }) :
    wpAny (model prog w) A (pyNext (.ref z)) Q E s := by
  have ty : s.TypeIs (.ref z) "zip" := ⟨_, hz, rfl⟩
  unfold pyNext
  refine wpAny_bind (wpAny_attempt ?_)
  refine wpAny_callSpecial?_slot (name := Str.ofString "__next__") ty F.slot_zip_next ?_
  refine wpAny_call_entry F.slot_zip_next ty F.entry_zip_next ?_ (F.args_zip_next_1 _)
  refine zmix_end hh D hz h1 h2 a1 a2 b1 b2 hend ?_
  rintro h' e kp ⟨o, ho, hc⟩
  refine wpAny_bind (wpAny_isInstance (T := "StopIteration") (b := true) ⟨o, ho, hc⟩ isSubtype_stop ?_)
  exact wpAny_pure (hq _ kp)
end
/-- an iterator over l, new -/
def itO (t : Bool) (l : Addr) : Obj := match t with
  | false => { cls := .type "list_iterator", data := .fields #[.ref l, .int 0 0] }
  | true => { cls := .type "tuple_iterator", data := .fields #[.ref l, .int 0 0] }
section
variable (t u : Bool) (h : Heap) (l1 l2 : Addr)
abbrev zm1 : Heap := h.push (itO t l1)
abbrev zm2 : Heap := (zm1 t h l1).push (itO u l2)
abbrev zm3 : Heap := (zm2 t u h l1 l2).push { cls := .type "tuple", data := .seq #[.ref h.objs.size, .ref (zm1 t h l1).objs.size] }
abbrev zm4 : Heap := (zm3 t u h l1 l2).push { cls := .type "tuple", data := .seq #[.none, .none] }
abbrev zm5 : Heap := (zm4 t u h l1 l2).push { cls := .type "zip", data := .fields #[.none, .bool false, .bool false, .ref (zm2 t u h l1 l2).objs.size, .ref (zm3 t u h l1 l2).objs.size] }
end
theorem meets_zmix (t u : Bool) (l1 l2 : Addr) (xs ys : Array Value) :
    Meets (Builtin.«zip.__new__» ⟨[.type "zip", .ref l1, .ref l2], []⟩) (fun _ R s => Sq t s.heap l1 xs ∧ Sq u s.heap l2 ys ∧
      R (.ok (.ret (.ref (zm4 t u s.heap l1 l2).objs.size))) { s with heap := zm5 t u s.heap l1 l2 }) := by
  refine .of_wp ?_
  rintro prog w A R ⟨hp, g, d, tk, os⟩ ⟨b1, b2, h⟩
  have sub := sub_zip
  have c2 : Sq u (hp.push (itO t l1)) l2 ys := b2.psh _
  cases t with
  | false =>
    have e1 : Heap.IsList (Shared.heap ⟨hp, g, d, tk, os⟩) l1 xs := b1
    cases u with
    | false =>
      have e2 : Heap.IsList (Shared.heap ⟨hp.push { cls := .type "list_iterator", data := .fields #[.ref l1, .int 0 0] }, g, d, tk, os⟩) l2 ys := c2
      wp_walk using wpAny_pyIter_list e1, wpAny_pyIter_list e2
      exact ⟨_, rfl, h⟩
    | true =>
      have e2 : Heap.IsTuple (Shared.heap ⟨hp.push { cls := .type "list_iterator", data := .fields #[.ref l1, .int 0 0] }, g, d, tk, os⟩) l2 ys := c2
      wp_walk using wpAny_pyIter_list e1, wpAny_pyIter_tuple e2
      exact ⟨_, rfl, h⟩
  | true =>
    have e1 : Heap.IsTuple (Shared.heap ⟨hp, g, d, tk, os⟩) l1 xs := b1
    cases u with
    | false =>
      have e2 : Heap.IsList (Shared.heap ⟨hp.push { cls := .type "tuple_iterator", data := .fields #[.ref l1, .int 0 0] }, g, d, tk, os⟩) l2 ys := c2
      wp_walk using wpAny_pyIter_tuple e1, wpAny_pyIter_list e2
      exact ⟨_, rfl, h⟩
    | true =>
      have e2 : Heap.IsTuple (Shared.heap ⟨hp.push { cls := .type "tuple_iterator", data := .fields #[.ref l1, .int 0 0] }, g, d, tk, os⟩) l2 ys := c2
      wp_walk using wpAny_pyIter_tuple e1, wpAny_pyIter_tuple e2
      exact ⟨_, rfl, h⟩
theorem si_new {t : Bool} {h : Heap} {i l : Addr} (e : h.get? i = some (itO t l)) : Si t h i l 0 := by
  cases t with
  | false => exact ⟨_, e, rfl, rfl⟩
  | true => exact ⟨_, e, rfl, rfl⟩
section
variable {prog : Program} {w : World} {A : Around} {E : Value → Shared → Prop} {s : Shared} {t u : Bool}
/-- what zip's call leaves -/
structure ZNew (t u : Bool) (h h' : Heap) (l1 l2 : Addr) : Prop where
  zip : IsZip h' (h.objs.size + 4) (h.objs.size + 2) (h.objs.size + 3) .none
  its : IsPair h' (h.objs.size + 2) (.ref h.objs.size) (.ref (h.objs.size + 1))
  out : IsPair h' (h.objs.size + 3) .none .none
  it1 : Si t h' h.objs.size l1 0
  it2 : Si u h' (h.objs.size + 1) l2 0
  keep : ∀ b o, h.get? b = some o → h'.get? b = some o
theorem call_zmix {l1 l2 : Addr} {xs ys : Array Value} {Q : Value → Shared → Prop} (b1 : Sq t s.heap l1 xs) (b2 : Sq u s.heap l2 ys)
    (hq : ∀ h', ZNew t u s.heap h' l1 l2 → Q (.ref (s.heap.objs.size + 4)) { s with heap := h' }) :
    wpAny (model prog w) A (call (.type "zip") [.ref l1, .ref l2]) Q E s := by
  refine callType_new F.called_zip (by decide) (F.typeCall_zip_2 _ _) (F.newCall_zip_2 _ _) (fun obj => F.args_object_init_3 obj _ _)
    F.entry_zip_new (meets_zmix t u l1 l2 xs ys) ⟨b1, b2, ?_⟩
  have n1 : (zm1 t s.heap l1).objs.size = s.heap.objs.size + 1 := Heap.size_push ..
  have n2 : (zm2 t u s.heap l1 l2).objs.size = s.heap.objs.size + 2 := by rw [Heap.size_push, n1]
  have n3 : (zm3 t u s.heap l1 l2).objs.size = s.heap.objs.size + 3 := by rw [Heap.size_push, n2]
  have n4 : (zm4 t u s.heap l1 l2).objs.size = s.heap.objs.size + 4 := by rw [Heap.size_push, n3]
  have f5 : itO t l1 = itO t l1 := rfl
  have nf : ∀ (b : Bool) (l : Addr), (itO b l).isFreed = false := fun b l => by cases b <;> rfl
  have g5 : (zm5 t u s.heap l1 l2).get? (zm4 t u s.heap l1 l2).objs.size = some _ := Heap.get?_push_size _ rfl
  have g4 : (zm5 t u s.heap l1 l2).get? (zm3 t u s.heap l1 l2).objs.size = some _ := Heap.get?_push_of_some _ (Heap.get?_push_size _ rfl)
  have g3 : (zm5 t u s.heap l1 l2).get? (zm2 t u s.heap l1 l2).objs.size = some _ := Heap.get?_push_of_some _ (Heap.get?_push_of_some _ (Heap.get?_push_size _ rfl))
  have g2 : (zm5 t u s.heap l1 l2).get? (zm1 t s.heap l1).objs.size = some (itO u l2) :=
    Heap.get?_push_of_some _ (Heap.get?_push_of_some _ (Heap.get?_push_of_some _ (Heap.get?_push_size _ (nf u l2))))
  have g1 : (zm5 t u s.heap l1 l2).get? s.heap.objs.size = some (itO t l1) :=
    Heap.get?_push_of_some _ (Heap.get?_push_of_some _ (Heap.get?_push_of_some _ (Heap.get?_push_of_some _ (Heap.get?_push_size _ (nf t l1)))))
  show _ ∧ _
  rw [n2, n3, n4] at g5
  rw [n1, n2] at g3
  rw [n3] at g4
  rw [n1] at g2
  rw [n4]
  refine ⟨⟨_, g5, rfl⟩, hq _ ⟨g5, g3, g4, si_new g1, si_new g2, ?_⟩⟩
  intro b o e
  exact Heap.get?_push_of_some _ (Heap.get?_push_of_some _ (Heap.get?_push_of_some _ (Heap.get?_push_of_some _ (Heap.get?_push_of_some _ e))))
end
/-- two sequences as they stand at each turn, the items in new pairs -/
def Itm (t u : Bool) (K : PySem.W.Frag) (a b : Addr) : It :=
  ⟨fun i H => ∃ (xs ys : List V) (x y : V), Sv t K H a xs ∧ Sv u K H b ys ∧ xs[i]? = some x ∧ ys[i]? = some y,
    fun i H v H' => ∃ N x y, v = .ref N ∧ H N = none ∧ H' = upd H N (.tup [x, y]) ∧ (∀ xs, Sv t K H a xs → xs[i]? = some x) ∧ ∀ ys, Sv u K H b ys → ys[i]? = some y,
    fun i H => ∃ xs ys : List V, Sv t K H a xs ∧ Sv u K H b ys ∧ (xs.length ≤ i ∨ ys.length ≤ i)⟩
theorem in5 {a b c d e x : Addr} (h : x ∈ [a, b, c, d, e]) : x = a ∨ x = b ∨ x = c ∨ x = d ∨ x = e := by simpa using h
theorem turn_zmix {P : Program} {w : World} {K : PySem.W.Frag} {t u : Bool} {elts : List Expr} {kk : Nat} {tpos : Pos} {a b z T1 T2 i1 i2 : Addr}
    (D : ZipApart z T1 T2 i1 i2 a b) : Turn P w K (.Tuple elts kk tpos) (Itm t u K a b) [z, T1, T2, i1, i2] z
      (fun i h => IsZip h z T1 T2 .none ∧ IsPair h T1 (.ref i1) (.ref i2) ∧ (∃ x y, IsPair h T2 x y) ∧ Si t h i1 a i ∧ Si u h i2 b i) := by
  refine ⟨by simp, ?_, ?_, ?_, ?_, ?_⟩
  · rintro i h ⟨hz, h1, ⟨x, y, h2⟩, a1, a2⟩ c hc
    rcases in5 hc with rfl | rfl | rfl | rfl | rfl
    · exact ⟨_, hz, fun v q => nomatch q⟩
    · exact ⟨_, h1, fun v q => nomatch q⟩
    · exact ⟨_, h2, fun v q => nomatch q⟩
    · exact a1.obj
    · exact a2.obj
  · rintro i h h' ⟨hz, h1, ⟨x, y, h2⟩, a1, a2⟩ k
    exact ⟨k z (by simp) _ hz, k T1 (by simp) _ h1, ⟨x, y, k T2 (by simp) _ h2⟩, a1.stay fun o q => k i1 (by simp) o q, a2.stay fun o q => k i2 (by simp) o q⟩
  · intro X hP hw hK hc i pins s σ H E I hf st hg
    subst hP hw hK
    obtain ⟨hz, h1, ⟨x0, y0, h2⟩, a1, a2⟩ := st
    obtain ⟨xs, ys, x, y, qx, qy, hx, hy⟩ := hg
    obtain ⟨its, rv, p, _⟩ := qx.real I
    obtain ⟨its2, rv2, p2, _⟩ := qy.real I
    obtain ⟨v1, hv1, r1⟩ := rv.get hx
    obtain ⟨v2, hv2, r2⟩ := rv2.get hy
    have zl : z < s.heap.objs.size := Heap.lt_size hz
    refine zmix_next D hz h1 h2 a1 a2 p p2 (x := v1) (y := v2) (by simpa using hv1) (by simpa using hv2) ?_
    intro g T
    refine ⟨_, rfl, wpAny_letOwnedTupleGo_zip (s := { s with heap := g }) T.zip ?_⟩
    intro g2 z2 sb
    have nN : s.heap.objs.size ≠ z := Nat.ne_of_gt zl
    have pN : g2.get? s.heap.objs.size = some { cls := .type "tuple", data := .seq #[v1, v2] } := (sb.2 _ nN).trans T.new
    have ok : ObjOk X.prog X.w (upd H s.heap.objs.size (.tup [x, y])) g2 s.heap.objs.size (.tup [x, y]) :=
      ⟨by show 2 ≤ sizeLine; decide, [v1, v2], .cons r1 (.cons r2 .nil), ⟨_, pN, rfl, _, rfl⟩⟩
    have J : Inv X pins σ (upd H s.heap.objs.size (.tup [x, y])) { s with heap := g2 } := by
      refine I.turnedNew (t' := s.toks) (ch := [z, T1, T2, i1, i2]) ?_ hf (Nat.le_refl _) ok
      intro c o hb q
      have n : c ≠ z ∧ c ≠ T2 ∧ c ≠ i1 ∧ c ≠ i2 := ⟨fun e => hb (by simp [e]), fun e => hb (by simp [e]), fun e => hb (by simp [e]), fun e => hb (by simp [e])⟩
      exact (sb.2 c n.1).trans (T.keep c o n.1 n.2.1 n.2.2.1 n.2.2.2 q)
    refine ⟨.ref s.heap.objs.size, _, J, rfl, ⟨_, x, y, rfl, I.hok.fresh (Nat.le_refl _), rfl, ?_, ?_⟩, ⟨z2, ?_, ⟨v1, v2, ?_⟩, ?_, ?_⟩, ?_⟩
    · intro l hl
      rw [hl.inj I qx]
      exact hx
    · intro l hl
      rw [hl.inj I qy]
      exact hy
    · exact (sb.2 _ D.TIz).trans (T.keep _ _ D.TIz D.TITO D.TIi1 D.TIi2 h1)
    · exact (sb.2 _ D.TOz).trans T.out
    · exact T.it1.stay fun o q => (sb.2 _ D.i1z).trans q
    · exact T.it2.stay fun o q => (sb.2 _ D.i2z).trans q
    · intro c hcm
      have lt : c < s.heap.objs.size := by
        rcases in5 hcm with rfl | rfl | rfl | rfl | rfl
        · exact zl
        · exact Heap.lt_size h1
        · exact Heap.lt_size h2
        · obtain ⟨_, e, _⟩ := a1.obj
          exact Heap.lt_size e
        · obtain ⟨_, e, _⟩ := a2.obj
          exact Heap.lt_size e
      rw [upd_ne (Nat.ne_of_lt lt)]
      exact (hf c hcm).1
  · intro X hP hw hK hc i pins s σ H E I hf st hg
    subst hP hw hK
    obtain ⟨hz, h1, ⟨x0, y0, h2⟩, a1, a2⟩ := st
    obtain ⟨xs, ys, qx, qy, hend⟩ := hg
    obtain ⟨its, rv, p, _⟩ := qx.real I
    obtain ⟨its2, rv2, p2, _⟩ := qy.real I
    have e1 := rv.length
    have e2 := rv2.length
    have he : its.toArray[i]? = none ∨ its2.toArray[i]? = none := by
      rcases hend with q | q
      · exact .inl (by simp; omega)
      · exact .inr (by simp; omega)
    refine zmix_stop (I.ok.hd hc) D hz h1 h2 a1 a2 p p2 he ?_
    intro g kp
    refine ⟨rfl, I.turnedL (t' := s.toks) (ch := [z, T1, T2, i1, i2]) ?_ hf⟩
    intro c o hb q
    exact kp c o (fun e => hb (by simp [e])) (fun e => hb (by simp [e])) (fun e => hb (by simp [e])) (fun e => hb (by simp [e])) q
  · intro A i s Q E st h
    exact wpAny_pyIter_zip st.1 h
/-- zip(e, e2): lists and tuples, in any mixture -/
def iZm (K : PySem.W.Frag) (ta : TA) : TI := fun σ H R => ta σ H fun vs H1 => ∃ (t u : Bool) (a b : Addr) (xs ys : List V), vs = [.ref a, .ref b] ∧
  Sv t K H1 a xs ∧ Sv u K H1 b ys ∧ R (Itm t u K a b) H1
theorem pi_zm {X : Cx} {K : PySem.W.Frag} {e e2 : Expr} {ta : TA} {p pos tpos : Pos} {elts : List Expr} {kk : Nat} (hg : Gl X "zip") (hm : X.mg "zip" = none) (ha : PA X [e, e2] ta) (hK : X.K = K := by rfl)
    (hs : starEach [e, e2] X.env = (false, eval e X.env) :: starEach [e2] X.env := by rfl) (hpl : (backTo pos (starEach [e2] X.env)).any (·.1) = false := by rfl) :
    PI X (.Tuple elts kk tpos) (.Call (.Name "zip" p) [e, e2] [] pos) (iZm K ta) := by
  subst hK
  constructor
  intro pins s σ H R I h
  refine Call_ (ld_blt I hg hm PyProof.Rows.boot_zip (PyProof.Rows.callWith_type1 (thn (ha.run pos pins s σ H _ I h) ?_) hs hpl))
  rintro us s1 ⟨vs, H1, I1, r1, t, u, a, b, xs, ys, rfl, qx, qy, q⟩
  obtain ⟨w1, w2, rfl, ra, rb⟩ := vals2 r1
  cases (show w1 = Value.ref a from ra)
  cases (show w2 = Value.ref b from rb)
  obtain ⟨its, rv, p1, lt1⟩ := qx.real I1
  obtain ⟨its2, rv2, p2, lt2⟩ := qy.real I1
  refine call_zmix p1 p2 ?_
  intro h' Z
  refine wpAny_pyIter_zip Z.zip ?_
  have I2 : Inv X pins σ H1 { s1 with heap := h' } := I1.kept (t' := s1.toks) Z.keep
  let n := s1.heap.objs.size
  refine ⟨n + 4, [n + 4, n + 2, n + 3, n, n + 1], _, _, H1, rfl, I2, turn_zmix (PySem.W.ktu_apart n a b lt1 lt2), ⟨Z.zip, Z.its, ⟨_, _, Z.out⟩, Z.it1, Z.it2⟩, ?_, q⟩
  intro c hc
  have le : n ≤ c := by
    show s1.heap.objs.size ≤ c
    rcases in5 hc with e | e | e | e | e
    · have e' : @Eq Nat c (s1.heap.objs.size + 4) := e
      omega
    · have e' : @Eq Nat c (s1.heap.objs.size + 2) := e
      omega
    · have e' : @Eq Nat c (s1.heap.objs.size + 3) := e
      omega
    · have e' : @Eq Nat c (s1.heap.objs.size) := e
      omega
    · have e' : @Eq Nat c (s1.heap.objs.size + 1) := e
      omega
  exact I1.fpOk le (I1.hok.fresh le)
/-- the walk -/
theorem walk_zm {t u : Bool} {K : PySem.W.Frag} {a b : Addr} {xs ys : List V} {n : Nat} (hn : n = min xs.length ys.length) :
    Walk (Itm t u K a b) n (fun H => Sv t K H a xs ∧ Sv u K H b ys) (YPair (fun i => xs[i]?) (fun i => ys[i]?)) := by
  subst hn
  refine ⟨?_, ?_, ?_⟩
  · intro i H hi q
    have h1 : i < xs.length := by omega
    have h2 : i < ys.length := by omega
    exact ⟨xs, ys, xs[i], ys[i], q.1, q.2, by simp [h1], by simp [h2]⟩
  · intro H q
    exact ⟨xs, ys, q.1, q.2, by omega⟩
  · rintro i H x H' _ q ⟨N, v, v', h1, h2, h3, h4, h5⟩
    exact ⟨N, v, v', h1, h2, h3, h4 xs q.1, h5 ys q.2⟩
end VB
/-! comprehensions that change nothing, of any values -/
namespace VB
open PySem PySem.Spec PyProof.Rows L2
theorem lc_pureVS {J : It} {G : Hp → Prop} {n j : Nat} {us : List V} {xs : List V} {te : TE} {vs : List Nat} {σ : L2.St} {H1 : Hp} {D : Addr} {Qd : Hp → Prop} (wk : Walk J n G (YAt xs)) (hG : ∀ H, Evl.Ex H1 H → G H)
    (hl : us.length = n) (hz : n ≤ 60000) (hD : H1 D = none) (hw : ∀ x, wipe ((wipe σ vs).set j x) vs = wipe σ vs)
    (hs : ∀ (i : Nat) (x : V) (u : V) (H : Hp) (Q : VK), xs[i]? = some x → us[i]? = some u → Evl.Ex H1 H → (∀ H' : Hp, Evl.Ex H H' → Q u H') → te ((wipe σ vs).set j (some x)) H Q)
    (hd : ∀ H, Evl.Ex H1 H → H D = some (.lst us) → Qd H) :
    ∃ W : Nat → Nat → Hp → Prop, (∃ m, W 0 m (upd H1 D (.lst []))) ∧ ∀ i m H, W i m H →
      (J.stop i H ∧ Qd H) ∨ (J.go i H ∧ ∃ Nx : Hp → Prop, (∀ H', Nx H' → ∃ m', m' < m ∧ W (i + 1) m' H') ∧ ∀ x H', J.yld i H x H' →
        gName j x (wipe σ vs) H' fun σ2 H2 => wipe σ2 vs = wipe σ vs ∧ tYes σ2 H2 fun b H3 =>
        if b = true then te σ2 H3 fun y H4 => ∃ acc, H4 D = some (.lst acc) ∧ acc.length < sizeLine ∧ Nx (upd H4 D (.lst (acc ++ [y]))) else Nx H3) := by
  refine lc_it wk (fun i H' => Evl.Ex H1 H' ∧ i ≤ n ∧ H' D = some (.lst (us.take i))) ⟨Evl.Ex.new hD, Nat.zero_le _, upd_same⟩ (fun i H _ h => hG H h.1) ?_ ?_
  · rintro i x H H' hi ⟨e1, hi2, h1⟩ ⟨rfl, hx⟩
    refine ⟨hw _, ?_⟩
    obtain ⟨u, hu⟩ : ∃ u, us[i]? = some u := ⟨us[i]'(by omega), by simp [show i < us.length by omega]⟩
    show te _ H' _
    refine hs i x u H' _ hx hu e1 fun H'' e2 => ⟨_, e2 D _ h1, ?_, Evl.Ex.mut (e1.trans e2) hD, by omega, ?_⟩
    · rw [List.length_take]
      exact Evl.sz_lt (by omega)
    · rw [upd_same, take_snoc hu]
  · rintro H ⟨e1, _, h1⟩
    refine hd H e1 ?_
    rw [h1, ← hl, List.take_length]
/-- .. over pairs -/
theorem lc_pureVZ {K : PySem.W.Frag} {J : It} {G : Hp → Prop} {n j1 j2 : Nat} {us : List V} {xs ys : Nat → Option V} {te : TE} {vs : List Nat} {σ : L2.St} {H1 : Hp} {D : Addr} {Qd : Hp → Prop} (wk : Walk J n G (YPair xs ys)) (hG : ∀ H, Evl.Ex H1 H → G H)
    (hl : us.length = n) (hz : n ≤ 60000) (hD : H1 D = none) (hw : ∀ x y, wipe (((wipe σ vs).set j1 x).set j2 y) vs = wipe σ vs)
    (hs : ∀ (i : Nat) (x y : V) (u : V) (H : Hp) (Q : VK), xs i = some x → ys i = some y → us[i]? = some u → Evl.Ex H1 H → (∀ H' : Hp, Evl.Ex H H' → Q u H') → te (((wipe σ vs).set j1 (some x)).set j2 (some y)) H Q)
    (hd : ∀ H, Evl.Ex H1 H → H D = some (.lst us) → Qd H) :
    ∃ W : Nat → Nat → Hp → Prop, (∃ m, W 0 m (upd H1 D (.lst []))) ∧ ∀ i m H, W i m H →
      (J.stop i H ∧ Qd H) ∨ (J.go i H ∧ ∃ Nx : Hp → Prop, (∀ H', Nx H' → ∃ m', m' < m ∧ W (i + 1) m' H') ∧ ∀ x H', J.yld i H x H' →
        gTup K 2 (gCons (gName j1) (gCons (gName j2) gNil)) x (wipe σ vs) H' fun σ2 H2 => wipe σ2 vs = wipe σ vs ∧ tYes σ2 H2 fun b H3 =>
        if b = true then te σ2 H3 fun y H4 => ∃ acc, H4 D = some (.lst acc) ∧ acc.length < sizeLine ∧ Nx (upd H4 D (.lst (acc ++ [y]))) else Nx H3) := by
  refine lc_it wk (fun i H' => Evl.Ex H1 H' ∧ i ≤ n ∧ H' D = some (.lst (us.take i))) ⟨Evl.Ex.new hD, Nat.zero_le _, upd_same⟩ (fun i H _ h => hG H h.1) ?_ ?_
  · rintro i v H H' hi ⟨e1, hi2, h1⟩ ⟨T, x, y, rfl, hT, rfl, hx, hy⟩
    have eT := Evl.Ex.new (o := .tup [x, y]) hT
    refine ⟨T, _, rfl, SqT.of upd_same, rfl, x, _, rfl, ⟨y, _, rfl, ?_⟩⟩
    refine ⟨rfl, hw _ _, ?_⟩
    obtain ⟨u, hu⟩ : ∃ u, us[i]? = some u := ⟨us[i]'(by omega), by simp [show i < us.length by omega]⟩
    show te _ _ _
    refine hs i x y u _ _ hx hy hu (e1.trans eT) fun H'' e2 => ⟨_, e2 D _ (eT D _ h1), ?_, Evl.Ex.mut ((e1.trans eT).trans e2) hD, by omega, ?_⟩
    · rw [List.length_take]
      exact Evl.sz_lt (by omega)
    · rw [upd_same, take_snoc hu]
  · rintro H ⟨e1, _, h1⟩
    refine hd H e1 ?_
    rw [h1, ← hl, List.take_length]
/-- a sequence's type -/
theorem Sv.ty {t : Bool} {K : PySem.W.Frag} {H : Hp} {a : Addr} {xs : List V} (h : Sv t K H a xs) : TyX K H (.ref a) (.type (if t then "tuple" else "list")) := by
  cases t with
  | false =>
    have h : SqL K H a xs := h
    rcases h with (h | ⟨o, h⟩) | ⟨o, its, n, h, c, _⟩
    · exact .base (.lst h)
    · exact .base (.frz h)
    · exact .kList h c
  | true =>
    have h : SqT K H a xs := h
    rcases h with (h | ⟨o, h⟩) | ⟨o, its, n, h, c, _⟩
    · exact .base (.tup h)
    · exact .fTuple h
    · exact .kTuple h c
theorem kit_seq (K : PySem.W.Frag) (t : Bool) : PySem.W.kitAny K (.type (if t then "tuple" else "list")) [.type "list", .type "tuple"] = some true := by
  cases t with
  | false => exact kitAny_cons (b := true) (kit_ty (by decide +kernel)) (fun z => nomatch z) (fun _ => rfl)
  | true => exact kitAny_cons (b := false) (kit_ty (by decide +kernel)) (fun _ => kitAny_cons (b := true) (kit_ty (by decide +kernel)) (fun z => nomatch z) (fun _ => rfl)) (fun z => nomatch z)
/-- an int of the module -/
theorem pe_globI {X : Cx} {x : Str} {i : Int} {pos : Pos} (hg : Gl X x) (h : ∃ t, X.mg x = some (.int i t)) (hd : (x == ("__debug__" : Str)) = false := by decide) : PE X (.Name x pos) (tC (.int i)) := by
  obtain ⟨t, h⟩ := h
  exact pe_glob hg h ⟨_, rfl⟩ hd
end VB
/-! f'{n:b}', n an octet -/
namespace PySem.W
open PySem PySem.Calls PyProof.Rows
open Builtin Builtin.Str Builtin.Int Builtin.Float
/-- the binary text of n -/
def binT (n : Nat) : PySem.Str := ⟨((Nat.toDigits 2 n).map Char.toNat).toArray⟩
theorem binT_len : ∀ n : Nat, n < 256 → (binT n).length ≤ 8 := by decide +kernel
theorem meets_bin' {spec : PySem.Str} {f : FormatSpec} (n : Nat) (hn : n < 256) (t u : Tok) (hne : (spec.length == 0) = false)
    (hasc : ((spec.cps.toList.drop 1).any (· ≥ 128) || (spec.cps.getD 0 0 ≥ 128 && !([60, 62, 61, 94] : List Nat).contains (spec.cps.getD 1 0))) = false)
    (hp : parseFormatSpec spec.cps.toList "int" 62 = .ok f) (hf : f = { align := 62, type := some 98 }) :
    Meets (Builtin.«int.__format__» ⟨[.int (n : Int) t, .str spec u], []⟩) (fun _ R s => ∀ t' k, R (.ok (.ret (.str (binT n) t'))) { s with toks := k }) := by
  apply KPc.meets_of
  intro prog w A s Q E h
  unfold Builtin.«int.__format__»
  simp only [selfAndOne, noKeywords, Int.intOfSelf, asInt?, asStr?, List.isEmpty_nil, if_true, pure_bind, bind_pure, bind_assoc, hne, hasc, Bool.false_eq_true, if_false,
    show (Value.str spec u == Value.none) = false from rfl]
  refine wpAny_bind (wpAny_typeNameOf (T := "str") (typeIs_str _ _ _) (by decide) fun _ => ?_)
  refine wpAny_bind (wpAny_typeNameOfCut_int ?_)
  simp only [hp]
  have hty : f.type = some 98 := by rw [hf]
  simp only [hty, Option.getD_some]
  rw [if_pos (by decide)]
  have hpr : f.precision = none := by rw [hf]
  have hz : f.noNeg0 = false := by rw [hf]
  have hal : f.alt = false := by rw [hf]
  have hw : f.width.getD 0 = 0 := by rw [hf]; rfl
  clear hp hasc hne
  show wpAny _ _ (if _ then _ else _) _ _ _
  rw [if_neg (by simp [hpr])]
  show wpAny _ _ (if _ then _ else _) _ _ _
  rw [if_neg (by simp [hz])]
  show wpAny _ _ (if _ then _ else _) _ _ _
  rw [if_neg (by decide)]
  show wpAny _ _ (if _ then _ else _) _ _ _
  rw [if_neg (by decide)]
  show wpAny _ _ (if _ then _ else _) _ _ _
  rw [if_neg (by omega)]
  refine KXf.ret_text (T := binT n) ?_ ?_ h
  · clear h
    subst hf
    clear hty hpr hz hal hw
    revert n
    decide +kernel
  · clear h
    subst hf
    clear hty hpr hz hal hw
    revert n
    decide +kernel
/-- {e:b}, a field of an octet -/
theorem bin_field {prog : Program} {w : World} {A : Around} {E : Value → Shared → Prop} {s : Shared} {n : Nat} {t : Tok} {Q : Value → Shared → Prop} (hn : n < 256) (h : ∀ t' k, Q (.str (binT n) t') { s with toks := k }) :
    wpAny (model prog w) A (formatField (.int (n : Int) t) "b") Q E s :=
  KXf.field_meets (by decide) (fun s' => typeIs_int s' n t) F.slot_int_format F.entry_int_format F.args_int_format_2 (by decide) (fun u => meets_bin' n hn t u (by decide) (by decide) (by rfl) rfl) h
theorem bin_count : ∀ n : Nat, n < 256 → PySem.Txt.count (binT n) "1" = (([n / 128 % 2, n / 64 % 2, n / 32 % 2, n / 16 % 2, n / 8 % 2, n / 4 % 2, n / 2 % 2, n / 1 % 2].count 1 : Nat) : Int) := by decide +kernel
end PySem.W
namespace VB
open PySem PySem.Spec PyProof.Rows L2
section
variable {X : Cx} {e : Expr} {te : TE} {p1 p2 p3 p4 : Pos} {j : Nat}
/-- f'{e:b}', e an octet -/
def tBin (te : TE) : TE := fun σ H Q => te σ H fun x H1 => ∃ n : Nat, x = .int (n : Int) ∧ n < 256 ∧ Q (.str (PySem.W.binT n)) H1
theorem pe_bin (he : PE X e te) : PE X (.JoinedStr [.FormattedValue e (-1) (some (.JoinedStr [.Constant (.str "b") j p1] p2)) p3] p4) (tBin te) := by
  refine pe_joined1 ⟨fun pins s σ H Q I h => wpAny_FormattedValue_spec (thn (he.run pins s σ H _ I h) fun v s1 hv => ?_)⟩
  obtain ⟨x, H1, I1, r1, n, rfl, hn, q⟩ := hv
  obtain ⟨t, rfl⟩ := r1
  refine thn ((pe_joined1 (pos := p2) (pe_str (x := "b") (j := j) (pos := p1))).run pins s1 σ H1 (fun y H2 => y = .str "b" ∧ H2 = H1) I1 ⟨rfl, rfl⟩) fun w s2 hw => ?_
  obtain ⟨y, H2, I2, r2, rfl, rfl⟩ := hw
  obtain ⟨t2, rfl⟩ := r2
  exact ⟨_, _, rfl, PySem.W.bin_field hn fun t' k => ⟨.str (PySem.W.binT n), H2, I2.tok _, ⟨_, rfl⟩, q⟩⟩
end
end VB
namespace K01
open PySem PySem.Spec PyProof.Rows L2 VB BM
section
variable {P : Program} {w : World} {K : PySem.W.Frag} {mg : Str → Option Value} {base : Heap} {f : Addr} {fd : FuncData}
def spIsList (K : PySem.W.Frag) : Sp := fun vs H Q _ => ∃ (a : Addr) (xs : List V) (t : Bool), vs = [.ref a] ∧ Sv t K H a xs ∧ RV (.bl true) H Q
theorem ok_is_list (T : Txt K mg) (F : FnP K "is_list" s_is_list f fd) : Fg P w K mg base CX0 1 f fd ["value"] (spIsList K) := by
  refine fg_of F sc_is_list (fun vs H Q E h => ?_) (fun cdv A outer s H vs Q E hr h => ⟨_, (PSs.nox (pss_one (ps_ret (pe_callB (u_isiT (K := K)) (by rfl) T.f_isinstance (by decide +kernel) (pa_cons (pv 0) (pa_cons (pe_tup (pa_cons (pe_bltn (v := .ty "list") rfl T.f_list (by decide +kernel) rfl) (pa_cons (pe_bltn (v := .ty "tuple") rfl T.f_tuple (by decide +kernel) rfl) pa_nil))) pa_nil)))))), ?_⟩)
  · obtain ⟨a, xs, t, rfl, _⟩ := h
    rfl
  · obtain ⟨a, xs, t, rfl, S, q⟩ := h
    refine ⟨_, rfl, by show 2 ≤ sizeLine; decide, fun tp ht => ?_⟩
    have e0 := Evl.Ex.new (o := .tup [.ty "list", .ty "tuple"]) ht
    exact ⟨_, tp, _, _, [.type "list", .type "tuple"], true, rfl, upd_same, .cons (.ty _) (.cons (.ty _) .nil), (S.ex e0).ty, kit_seq K t, q _ e0⟩
def spIsOct (K : PySem.W.Frag) : Sp := fun vs H Q _ => ∃ (a : Addr) (os : List Int) (t : Bool), vs = [.ref a] ∧ Sv t K H a (IV os) ∧ Oct os ∧ os.length ≤ 20000 ∧ RV (.bl true) H Q
theorem ok_is_octets (T : Txt K mg) (F : FnP K "is_octets" s_is_octets f fd) (C_is_list : Cal P w K mg base CX0 1 "is_list" ["value"] (spIsList K)) : Fg P w K mg base CX0 2 f fd ["value"] (spIsOct K) := by
  refine fg_of F sc_is_octets (fun vs H Q E h => ?_) (fun cdv A outer s H vs Q E hr h => ⟨_, (PSs.nox (pss_one (ps_ret (pe_and (pe_cal C_is_list hr.le pass0 (pa_cons (pv 0) pa_nil)) (pe_one (pe_callB (u_all (K := K) rfl) (by rfl) T.f_all (by decide +kernel) (pa_cons (pe_lc (own := [("octet", 1)]) rfl sc_is_octets.nd (pi_seq (K := K) (pv 0)) (blkOk_by (own := [("octet", 1)]) (N := ["value", "octet"]) (sc := defScope s_is_octets) (by decide +kernel)) (fun _ _ _ _ _ => (pg_name (i := 1) sc_is_octets.nd rfl (by first | exact Or.inl rfl | exact Or.inr rfl))) (fun _ _ _ _ _ => pts_nil) (fun _ _ _ _ _ => (pe_and (pe_callB (u_isi (K := K)) (by rfl) T.f_isinstance (by decide +kernel) (pa_cons (pv 1) (pa_cons (pe_bltn (v := .ty "int") rfl T.f_int (by decide +kernel) rfl) pa_nil))) (pe_and (pe_not (pe_callB (u_isi (K := K)) (by rfl) T.f_isinstance (by decide +kernel) (pa_cons (pv 1) (pa_cons (pe_bltn (v := .ty "bool") rfl T.f_bool (by decide +kernel) rfl) pa_nil)))) (pe_one (pe_chain op_le op_le pe_int (pv 1) pe_int)))))) pa_nil))))))), ?_⟩)
  · obtain ⟨a, os, t, rfl, _⟩ := h
    rfl
  · obtain ⟨a, os, t, rfl, S, ho, hl, q⟩ := h
    refine ⟨_, rfl, a, _, t, rfl, S, fun H0 e0 => ⟨true, rfl, iteT ?_⟩⟩
    refine seq_var (t := t) rfl (S.ex e0) fun J wk D hD => ?_
    rw [iv_len] at wk
    refine lc_pureVS (us := List.replicate os.length (V.bl true)) wk (fun H' ex => (S.ex e0).ex ex) (by simp) (by omega) hD (fun _ => rfl) ?_ ?_
    · intro i x u H' Q' hx hu ex k
      obtain ⟨o, hoi, rfl⟩ := iv_get hx
      have hm := ho o (List.mem_of_getElem? hoi)
      rw [List.eq_of_mem_replicate (List.mem_of_getElem? hu)] at k
      refine ⟨_, rfl, _, _, _, _, true, rfl, .ty _, .base (.int o), kit_ty (by decide +kernel), true, rfl, iteT ?_⟩
      refine ⟨_, rfl, _, _, _, _, false, rfl, .ty _, .base (.int o), kit_ty (by decide +kernel), false, rfl, true, rfl, iteT ?_⟩
      refine ⟨_, rfl, _, _, rfl, rfl, _, rfl, ?_⟩
      rw [decide_eq_true hm.1]
      refine iteT ⟨_, _, rfl, rfl, ?_⟩
      dsimp only
      rw [decide_eq_true hm.2]
      exact k H' (Evl.Ex.refl _)
    · intro H' ex h3
      refine ⟨D, List.replicate os.length true, rfl, SqL.of (by rw [h3, List.map_replicate]), ?_⟩
      have e : (List.replicate os.length true).all id = true := by
        rw [List.all_eq_true]
        intro b hb
        exact List.eq_of_mem_replicate hb
      rw [e]
      exact q _ (e0.trans ex)
end
end K01
namespace K01
open PySem PySem.Spec PyProof.Rows L2 VB BM
/-- the zeros of each half of an octet -/
def zh : List Int := [4, 3, 3, 2, 3, 2, 2, 1, 3, 2, 2, 1, 2, 1, 1, 0]
theorem zh_eq : ∀ n : Nat, n < 256 → zh.getD (n / 16) 0 + zh.getD (n % 16) 0 = (((bitsOf (n : Int)).count 0 : Nat) : Int) := by decide +kernel
def zN (n : Nat) : Int := zh.getD (n / 16) 0 + zh.getD (n % 16) 0
theorem zN_sum : ∀ os : List Int, Oct os → (os.map fun o => zN o.toNat).sum = zc (bitsL os)
  | [], _ => rfl
  | o :: os, h => by
    have r := zN_sum os fun x hx => h x (List.mem_cons_of_mem _ hx)
    have ho := h o (List.mem_cons_self ..)
    obtain ⟨n, rfl⟩ : ∃ n : Nat, o = n := ⟨o.toNat, by omega⟩
    rw [List.map_cons, List.sum_cons, r, Int.toNat_natCast, zN, zh_eq n (by omega)]
    show _ = zc (bitsOf (n : Int) ++ bitsL os)
    unfold zc
    rw [List.count_append]
    omega
theorem and15 : ∀ n : Nat, n < 256 → n &&& 15 = n % 16 := by decide +kernel
theorem zh_at {j : Nat} (h : j < 16) : atI (IV zh) (j : Int) = some (.int (zh.getD j 0)) := by
  have e : zh[j]? = some (zh.getD j 0) := by
    rw [List.getD_eq_getElem?_getD]
    have : j < zh.length := h
    simp [this]
  exact iv_at e
section
variable {P : Program} {w : World} {K : PySem.W.Frag} {mg : Str → Option Value} {base : Heap} {f : Addr} {fd : FuncData}
def spZB (K : PySem.W.Frag) : Sp := fun vs H Q _ => ∃ (a : Addr) (os : List Int) (t : Bool), vs = [.ref a] ∧ Sv t K H a (IV os) ∧ Oct os ∧ os.length ≤ 20000 ∧ RV (.int (zc (bitsL os))) H Q
theorem ok_zero_bits (T : Txt K mg) (F : FnP K "zero_bits" s_zero_bits f fd) : Fg P w K mg base CX0 1 f fd ["octets"] (spZB K) := by
  refine fg_of F sc_zero_bits (fun vs H Q E h => ?_) (fun cdv A outer s H vs Q E hr h => ⟨_, (PSs.nox (pss_one (ps_ret (pe_callB (u_sum (K := K) rfl) (by rfl) T.f_sum (by decide +kernel) (pa_cons (pe_lc (own := [("octet", 1)]) rfl sc_zero_bits.nd (pi_seq (K := K) (pv 0)) (blkOk_by (own := [("octet", 1)]) (N := ["octets", "octet"]) (sc := defScope s_zero_bits) (by decide +kernel)) (fun _ _ _ _ _ => (pg_name (i := 1) sc_zero_bits.nd rfl (by first | exact Or.inl rfl | exact Or.inr rfl))) (fun _ _ _ _ _ => pts_nil) (fun _ _ _ _ _ => (pe_op (u_add (K := K)) (pe_ix (u_ix (K := K)) (pe_glob (v := .ref (He.ga K "ZEROS_OF_HALF")) rfl T.g_ZEROS_OF_HALF rfl) (pe_op op_shrN (pv 1) pe_int) (fun _ _ => rfl)) (pe_ix (u_ix (K := K)) (pe_glob (v := .ref (He.ga K "ZEROS_OF_HALF")) rfl T.g_ZEROS_OF_HALF rfl) (pe_op op_and (pv 1) pe_int) (fun _ _ => rfl))))) pa_nil))))), ?_⟩)
  · obtain ⟨a, os, t, rfl, _⟩ := h
    rfl
  · obtain ⟨a, os, t, rfl, S, ho, hl, q⟩ := h
    refine seq_var (t := t) rfl S fun J wk D hD => ?_
    rw [iv_len] at wk
    refine lc_pureVS (us := IV (os.map fun o => zN o.toNat)) wk (fun H' ex => S.ex ex) (by simp) (by omega) hD (fun _ => rfl) ?_ ?_
    · intro i x u H' Q' hx hu ex k
      obtain ⟨o, hoi, rfl⟩ := iv_get hx
      have hm := ho o (List.mem_of_getElem? hoi)
      obtain ⟨n, rfl⟩ : ∃ n : Nat, o = n := ⟨o.toNat, by omega⟩
      rw [List.getElem?_map, List.getElem?_map, hoi] at hu
      cases hu
      have hz := T.t_ZEROS_OF_HALF H'
      have a15 : Builtin.bitAnd (n : Int) 15 = ((n % 16 : Nat) : Int) := by
        rw [PyProof.Rows.bitAnd_pp (by omega) (by omega)]
        have e := and15 n (by omega)
        exact congrArg Nat.cast e
      have d16 : (n : Int) / 2 ^ 4 = ((n / 16 : Nat) : Int) := by omega
      refine ⟨_, rfl, n, 4, rfl, rfl, Sv.ix (x := .non) (show Sv true K H' _ (IV zh) from hz) (i := (n : Int) / 2 ^ 4) (by rw [d16]; exact zh_at (by omega)) ⟨_, rfl, _, _, rfl, rfl, Sv.ix (x := .non) (show Sv true K H' _ (IV zh) from hz) (i := Builtin.bitAnd (n : Int) 15) (by rw [a15]; exact zh_at (by omega)) ?_⟩⟩
      refine .inl ⟨_, _, rfl, rfl, ?_⟩
      have kk := k H' (Evl.Ex.refl _)
      exact kk
    · intro H' ex h3
      refine ⟨D, os.map fun o => zN o.toNat, rfl, SqL.of h3, ?_⟩
      rw [zN_sum os ho]
      exact q _ ex
end
end K01
/-! bits that are 1, bits that are unlike, one bit turned -/
namespace BM
/-- the indices of the ones, from k on -/
def onesL : Int → List Int → List Int
  | _, [] => []
  | k, b :: r => if b = 1 then k :: onesL (k + 1) r else onesL (k + 1) r
/-- the indices of the unlike ones -/
def diffL : Int → List Int → List Int → List Int
  | k, a :: as, b :: bs => if a = b then diffL (k + 1) as bs else k :: diffL (k + 1) as bs
  | _, _, _ => []
theorem onesL_app : ∀ (a b : List Int) (k : Int), onesL k (a ++ b) = onesL k a ++ onesL (k + (a.length : Int)) b
  | [], b, k => by simp [onesL]
  | x :: a, b, k => by
    have e : k + ((x :: a).length : Int) = k + 1 + (a.length : Int) := by simp; omega
    rw [List.cons_append, onesL, onesL, onesL_app a b (k + 1), e]
    split <;> simp
theorem onesL_snoc (a : List Int) (x : Int) : onesL 0 (a ++ [x]) = onesL 0 a ++ (if x = 1 then [(a.length : Int)] else []) := by
  rw [onesL_app]
  simp [onesL]
theorem onesL_len : ∀ (a : List Int) (k : Int), (onesL k a).length ≤ a.length
  | [], k => by simp [onesL]
  | x :: a, k => by
    have := onesL_len a (k + 1)
    rw [onesL]
    split <;> simp <;> omega
/-- of two bits -/
theorem ones_of {f : Int → Int → Int} (P : List Int → List Int → Int → List Int) (c : Int → Int → Prop) [∀ a b, Decidable (c a b)] (h0 : ∀ k, P [] [] k = []) (h1 : ∀ a as b bs k, P (a :: as) (b :: bs) k = if c a b then k :: P as bs (k + 1) else P as bs (k + 1))
    (h : ∀ a b, (a = 0 ∨ a = 1) → (b = 0 ∨ b = 1) → (f a b = 1 ↔ c a b)) : ∀ (as bs : List Int) (k : Int), as.length = bs.length → Bit as → Bit bs → onesL k (List.zipWith f as bs) = P as bs k
  | [], [], k, _, _, _ => by simp [onesL, h0]
  | [], _ :: _, k, e, _, _ => by simp at e
  | _ :: _, [], k, e, _, _ => by simp at e
  | a :: as, b :: bs, k, e, ha, hb => by
    have r := ones_of P c h0 h1 h as bs (k + 1) (by simpa using e) (fun x hx => ha x (List.mem_cons_of_mem _ hx)) (fun x hx => hb x (List.mem_cons_of_mem _ hx))
    have q := h a b (ha a (List.mem_cons_self ..)) (hb b (List.mem_cons_self ..))
    rw [List.zipWith_cons_cons, onesL, h1, r]
    by_cases z : c a b
    · rw [if_pos z, if_pos (q.mpr z)]
    · rw [if_neg z, if_neg (fun y => z (q.mp y))]
/-- the bits of two lists of octets, put together -/
theorem bitsL_both {g : Int → Int → Int} {f : Int → Int → Int} (h : ∀ x y, 0 ≤ x ∧ x ≤ 255 → 0 ≤ y ∧ y ≤ 255 → bitsOf (g x y) = List.zipWith f (bitsOf x) (bitsOf y)) :
    ∀ xs ys : List Int, Oct xs → Oct ys → bitsL ((xs.zip ys).map fun p => g p.1 p.2) = List.zipWith f (bitsL xs) (bitsL ys)
  | [], ys, _, _ => by simp [bitsL]
  | x :: xs, [], _, _ => by simp [bitsL]
  | x :: xs, y :: ys, hx, hy => by
    have r := bitsL_both h xs ys (fun o ho => hx o (List.mem_cons_of_mem _ ho)) (fun o ho => hy o (List.mem_cons_of_mem _ ho))
    have q := h x y (hx x (List.mem_cons_self ..)) (hy y (List.mem_cons_self ..))
    rw [List.zip_cons_cons, List.map_cons, bitsL_cons, bitsL_cons, bitsL_cons, r, q, List.zipWith_append (by rw [bitsOf_len, bitsOf_len])]
/-- where lists part -/
theorem diff_at : ∀ (as bs : List Int) (k p : Int) (rest : List Int), as.length = bs.length → diffL k as bs = p :: rest →
    ∃ (pre : List Int) (x y : Int) (as' bs' : List Int), as = pre ++ x :: as' ∧ bs = pre ++ y :: bs' ∧ x ≠ y ∧ p = k + (pre.length : Int) ∧ rest = diffL (p + 1) as' bs' ∧ as'.length = bs'.length ∧
      ∀ m, turned as bs m = pre ++ (if m % 2 = 1 then y else x) :: turned as' bs' (m / 2)
  | [], _, k, p, rest, _, h => by simp [diffL] at h
  | _ :: _, [], k, p, rest, e, h => by simp at e
  | a :: as, b :: bs, k, p, rest, e, h => by
    rw [diffL] at h
    by_cases z : a = b
    · rw [if_pos z] at h
      obtain ⟨pre, x, y, as', bs', h1, h2, h3, h4, h5, h6, h7⟩ := diff_at as bs (k + 1) p rest (by simpa using e) h
      refine ⟨a :: pre, x, y, as', bs', by rw [h1]; rfl, by rw [h2, z]; rfl, h3, by simp; omega, h5, h6, fun m => ?_⟩
      rw [turned, if_pos z, h7 m]
      rfl
    · rw [if_neg z] at h
      obtain ⟨rfl, rfl⟩ := List.cons.inj h
      refine ⟨[], a, b, as, bs, rfl, rfl, z, by simp, rfl, by simpa using e, fun m => ?_⟩
      rw [turned, if_neg z]
      rfl
theorem diff_nil : ∀ (as bs : List Int) (k : Int), as.length = bs.length → diffL k as bs = [] → as = bs
  | [], [], k, _, _ => rfl
  | [], _ :: _, k, e, h => by simp at e
  | _ :: _, [], k, e, h => by simp at e
  | a :: as, b :: bs, k, e, h => by
    rw [diffL] at h
    by_cases z : a = b
    · rw [if_pos z] at h
      rw [z, diff_nil as bs (k + 1) (by simpa using e) h]
    · rw [if_neg z] at h
      cases h
theorem turned_same : ∀ (as : List Int) (m : Int), turned as as m = as
  | [], m => by simp [turned]
  | a :: as, m => by rw [turned, if_pos rfl, turned_same as m]
/-- the j-th bit of an octet -/
theorem bit_at : ∀ o : Nat, o < 256 → ∀ j : Nat, j < 8 → (bitsOf (o : Int))[j]? = some (((o &&& (128 / 2 ^ j)) / (128 / 2 ^ j) : Nat) : Int) := by decide +kernel
theorem bit_on : ∀ o : Nat, o < 256 → ∀ j : Nat, j < 8 → (o &&& (128 / 2 ^ j) ≠ 0 ↔ (bitsOf (o : Int))[j]? = some 1) := by decide +kernel
theorem bit_turn : ∀ o : Nat, o < 256 → ∀ j : Nat, j < 8 → o ^^^ (128 / 2 ^ j) < 256 ∧ bitsOf ((o ^^^ (128 / 2 ^ j) : Nat) : Int) = (bitsOf (o : Int)).set j (1 - (bitsOf (o : Int)).getD j 0) := by decide +kernel
theorem bitsL_get : ∀ (os : List Int) (i j : Nat), j < 8 → (bitsL os)[8 * i + j]? = (os[i]?).bind fun o => (bitsOf o)[j]?
  | [], i, j, _ => by simp [bitsL]
  | o :: os, 0, j, h => by
    rw [bitsL_cons, Nat.mul_zero, Nat.zero_add, List.getElem?_append_left (by rw [bitsOf_len]; exact h)]
    simp
  | o :: os, i + 1, j, h => by
    have e : 8 * (i + 1) + j = 8 + (8 * i + j) := by omega
    rw [bitsL_cons, e, List.getElem?_append_right (by rw [bitsOf_len]; omega), bitsOf_len, Nat.add_sub_cancel_left, bitsL_get os i j h]
    simp
theorem bitsL_set : ∀ (os : List Int) (i j : Nat) (o o' : Int) (b : Int), j < 8 → os[i]? = some o → bitsOf o' = (bitsOf o).set j b → bitsL (os.set i o') = (bitsL os).set (8 * i + j) b
  | [], i, j, o, o', b, _, h, _ => by simp at h
  | x :: os, 0, j, o, o', b, hj, h, q => by
    have e : x = o := by simpa using h
    subst e
    rw [List.set_cons_zero, bitsL_cons, bitsL_cons, q, Nat.mul_zero, Nat.zero_add, List.set_append_left _ _ (by rw [bitsOf_len]; exact hj)]
  | x :: os, i + 1, j, o, o', b, hj, h, q => by
    have e : 8 * (i + 1) + j = 8 + (8 * i + j) := by omega
    have h' : os[i]? = some o := by simpa using h
    rw [List.set_cons_succ, bitsL_cons, bitsL_cons, bitsL_set os i j o o' b hj h' q, e, List.set_append_right _ _ (by rw [bitsOf_len]; omega), bitsOf_len, Nat.add_sub_cancel_left]
end BM
namespace K01
open PySem PySem.Spec PyProof.Rows L2 VB BM
/-! ### the program's own defs -/
theorem zip8 {f : Int → Int → Int} {a0 a1 a2 a3 a4 a5 a6 a7 b0 b1 b2 b3 b4 b5 b6 b7 : Int} : List.zipWith f [a7, a6, a5, a4, a3, a2, a1, a0] [b7, b6, b5, b4, b3, b2, b1, b0] = [f a7 b7, f a6 b6, f a5 b5, f a4 b4, f a3 b3, f a2 b2, f a1 b1, f a0 b0] := rfl
theorem xor_bits {x y : Int} (hx : 0 ≤ x ∧ x ≤ 255) (hy : 0 ≤ y ∧ y ≤ 255) : bitsOf (Builtin.bitXor x y) = List.zipWith (fun a b => if a = b then 0 else 1) (bitsOf x) (bitsOf y) := by
  obtain ⟨a, rfl⟩ := nat_of hx.1
  obtain ⟨b, rfl⟩ := nat_of hy.1
  rw [Bits.bitXor_pp hx.1 hy.1, Int.toNat_natCast, Int.toNat_natCast, bitsOf_tb, bitsOf_tb, bitsOf_tb, zip8]
  simp only [tb_xor]
theorem and_bits {x y : Int} (hx : 0 ≤ x ∧ x ≤ 255) (hy : 0 ≤ y ∧ y ≤ 255) : bitsOf (Builtin.bitAnd x y) = List.zipWith (fun a b => if a = 1 ∧ b = 1 then 1 else 0) (bitsOf x) (bitsOf y) := by
  obtain ⟨a, rfl⟩ := nat_of hx.1
  obtain ⟨b, rfl⟩ := nat_of hy.1
  rw [bitAnd_pp hx.1 hy.1, Int.toNat_natCast, Int.toNat_natCast, bitsOf_tb, bitsOf_tb, bitsOf_tb, zip8]
  simp only [tb_and]
theorem xor_range {x y : Int} (hx : 0 ≤ x ∧ x ≤ 255) (hy : 0 ≤ y ∧ y ≤ 255) : 0 ≤ Builtin.bitXor x y ∧ Builtin.bitXor x y ≤ 255 := by
  rw [Bits.bitXor_pp hx.1 hy.1]
  have h := xor_oct (a := x.toNat) (b := y.toNat) (by omega) (by omega)
  omega
/-- what falls, octet by octet -/
def fallO (x y : Int) : Int := Builtin.bitAnd x (Builtin.bitXor x y)
def riseO (x y : Int) : Int := Builtin.bitAnd y (Builtin.bitXor x y)
theorem fallO_range {x y : Int} (hx : 0 ≤ x ∧ x ≤ 255) (hy : 0 ≤ y ∧ y ≤ 255) : 0 ≤ fallO x y ∧ fallO x y ≤ 255 := (oct_and hx (xor_range hx hy)).1
theorem riseO_range {x y : Int} (hx : 0 ≤ x ∧ x ≤ 255) (hy : 0 ≤ y ∧ y ≤ 255) : 0 ≤ riseO x y ∧ riseO x y ≤ 255 := (oct_and hy (xor_range hx hy)).1
theorem zw_self {f g : Int → Int → Int} (h : ∀ a b : Int, f a (g a b) = (fun a b => f a (g a b)) a b) : ∀ as bs : List Int, List.zipWith f as (List.zipWith g as bs) = List.zipWith (fun a b => f a (g a b)) as bs
  | [], _ => by simp
  | _ :: _, [] => by simp
  | a :: as, b :: bs => by simp [zw_self h as bs]
theorem zw_other {f g : Int → Int → Int} : ∀ as bs : List Int, List.zipWith f bs (List.zipWith g as bs) = List.zipWith (fun a b => f b (g a b)) as bs
  | [], _ => by simp
  | _ :: _, [] => by simp
  | a :: as, b :: bs => by simp [zw_other as bs]
theorem ones_fall {xs ys : List Int} (ox : Oct xs) (oy : Oct ys) (hl : xs.length = ys.length) : onesL 0 (bitsL (both fallO xs ys)) = fallenL 0 (bitsL xs) (bitsL ys) := by
  have e : bitsL (both fallO xs ys) = List.zipWith (fun a b => if a = 1 ∧ (if a = b then (0 : Int) else 1) = 1 then (1 : Int) else 0) (bitsL xs) (bitsL ys) := by
    refine bitsL_both (fun x y hx hy => ?_) xs ys ox oy
    unfold fallO
    rw [and_bits hx (xor_range hx hy), xor_bits hx hy, zw_self fun _ _ => rfl]
  rw [e]
  refine ones_of (fun as bs k => fallenL k as bs) (fun a b => a = 1 ∧ b = 0) (fun _ => by simp [fallenL]) (fun a as b bs k => by rw [fallenL]) ?_ _ _ 0 (by rw [bitsL_len, bitsL_len, hl]) (bitsL_bit xs) (bitsL_bit ys)
  intro a b ha hb
  rcases ha with rfl | rfl <;> rcases hb with rfl | rfl <;> decide
theorem fallen_swap : ∀ (as bs : List Int) (k : Int) , fallenL k bs as = (fun (as bs : List Int) (k : Int) => fallenL k bs as) as bs k := fun _ _ _ => rfl
theorem ones_rise {xs ys : List Int} (ox : Oct xs) (oy : Oct ys) (hl : xs.length = ys.length) : onesL 0 (bitsL (both riseO xs ys)) = fallenL 0 (bitsL ys) (bitsL xs) := by
  have e : bitsL (both riseO xs ys) = List.zipWith (fun a b => if b = 1 ∧ (if a = b then (0 : Int) else 1) = 1 then (1 : Int) else 0) (bitsL xs) (bitsL ys) := by
    refine bitsL_both (fun x y hx hy => ?_) xs ys ox oy
    unfold riseO
    rw [and_bits hy (xor_range hx hy), xor_bits hx hy, zw_other]
  rw [e]
  refine ones_of (fun as bs k => fallenL k bs as) (fun a b => b = 1 ∧ a = 0) (fun _ => by simp [fallenL]) (fun a as b bs k => by rw [fallenL]) ?_ _ _ 0 (by rw [bitsL_len, bitsL_len, hl]) (bitsL_bit xs) (bitsL_bit ys)
  intro a b ha hb
  rcases ha with rfl | rfl <;> rcases hb with rfl | rfl <;> decide
theorem ones_diff {xs ys : List Int} (ox : Oct xs) (oy : Oct ys) (hl : xs.length = ys.length) : onesL 0 (bitsL (both Builtin.bitXor xs ys)) = diffL 0 (bitsL xs) (bitsL ys) := by
  have e : bitsL (both Builtin.bitXor xs ys) = List.zipWith (fun a b => if a = b then (0 : Int) else 1) (bitsL xs) (bitsL ys) :=
    bitsL_both (fun x y hx hy => xor_bits hx hy) xs ys ox oy
  rw [e]
  refine ones_of (fun as bs k => diffL k as bs) (fun a b => ¬ a = b) (fun _ => by simp [diffL]) (fun a as b bs k => ?_) ?_ _ _ 0 (by rw [bitsL_len, bitsL_len, hl]) (bitsL_bit xs) (bitsL_bit ys)
  · rw [diffL]
    by_cases z : a = b <;> simp [z]
  · intro a b ha hb
    rcases ha with rfl | rfl <;> rcases hb with rfl | rfl <;> decide
section
variable {P : Program} {w : World} {K : PySem.W.Frag} {mg : Str → Option Value} {base : Heap} {f : Addr} {fd : FuncData}
theorem ty_int (K : PySem.W.Frag) (H : Hp) (i : Int) : TyX K H (.int i) (.type "int") := .base (.int i)
def spIsInt : Sp := fun vs H Q _ => ∃ i : Int, vs = [.int i] ∧ Q (.bl true) H
theorem ok_is_int (T : Txt K mg) (F : FnP K "is_int" s_is_int f fd) : Fg P w K mg base CX0 1 f fd ["value"] spIsInt := by
  refine fg_of F sc_is_int (fun vs H Q E h => ?_) (fun cdv A outer s H vs Q E hr h => ⟨_, (PSs.nox (pss_one (ps_ret (pe_and (pe_callB (u_isi (K := K)) (by rfl) T.f_isinstance (by decide +kernel) (pa_cons (pv 0) (pa_cons (pe_bltn (v := .ty "int") rfl T.f_int (by decide +kernel) rfl) pa_nil))) (pe_one (pe_not (pe_callB (u_isi (K := K)) (by rfl) T.f_isinstance (by decide +kernel) (pa_cons (pv 0) (pa_cons (pe_bltn (v := .ty "bool") rfl T.f_bool (by decide +kernel) rfl) pa_nil))))))))), ?_⟩)
  · obtain ⟨i, rfl, _⟩ := h
    rfl
  · obtain ⟨i, rfl, q⟩ := h
    refine ⟨_, rfl, _, _, _, _, true, rfl, .ty _, ty_int K H i, kit_ty (by decide +kernel), true, rfl, iteT ?_⟩
    exact ⟨_, rfl, _, _, _, _, false, rfl, .ty _, ty_int K H i, kit_ty (by decide +kernel), false, rfl, q⟩
def spChk (K : PySem.W.Frag) : Sp := fun vs H Q _ => ∃ (a : Addr) (os : List Int) (t : Bool), vs = [.ref a] ∧ Sv t K H a (IV os) ∧ Oct os ∧ os.length ≤ 20000 ∧ RV .non H Q
theorem ok_chk (T : Txt K mg) (F : FnP K "_check_octets" s__check_octets f fd) (C_is_octets : Cal P w K mg base CX0 2 "is_octets" ["value"] (spIsOct K)) : Fg P w K mg base CX0 4 f fd ["octets"] (spChk K) := by
  refine fg_of F sc__check_octets (fun vs H Q E h => ?_) (fun cdv A outer s H vs Q E hr h => ⟨_, (PSs.nox (pss_one (ps_if (pt_not (pt_tru (K := K) (pe_cal C_is_octets hr.le pass0 (pa_cons (pv 0) pa_nil)) (by intro _; rfl)))
  (pss_one ps_never) pss_nil))), ?_⟩)
  · obtain ⟨a, os, t, rfl, _⟩ := h
    rfl
  · obtain ⟨a, os, t, rfl, S, ho, hl, q⟩ := h
    exact ⟨_, rfl, a, os, t, rfl, S, ho, hl, fun H1 e1 => ⟨true, rfl, iteF (q _ e1)⟩⟩
def spPair (K : PySem.W.Frag) : Sp := fun vs H Q _ => ∃ (a b : Addr) (xs ys : List Int) (t u : Bool), vs = [.ref a, .ref b] ∧ Sv t K H a (IV xs) ∧ Sv u K H b (IV ys) ∧ Oct xs ∧ Oct ys ∧ xs.length = ys.length ∧ xs.length ≤ 20000 ∧ RV .non H Q
theorem ok_pair (T : Txt K mg) (F : FnP K "_check_pair" s__check_pair f fd) (C__check_octets : Cal P w K mg base CX0 4 "_check_octets" ["octets"] (spChk K)) : Fg P w K mg base CX0 5 f fd ["old", "new"] (spPair K) := by
  refine fg_of F sc__check_pair (fun vs H Q E h => ?_) (fun cdv A outer s H vs Q E hr h => ⟨_, (PSs.nox (pss_cons (ps_expr (pe_cal C__check_octets hr.le pass0 (pa_cons (pv 0) pa_nil)))
  (pss_cons (ps_expr (pe_cal C__check_octets hr.le pass0 (pa_cons (pv 1) pa_nil)))
  (pss_one (ps_if (pt_cmpR (u_ne (K := K) hr) (pe_callB (u_len (K := K)) (by rfl) T.f_len (by decide +kernel) (pa_cons (pv 0) pa_nil)) (pe_callB (u_len (K := K)) (by rfl) T.f_len (by decide +kernel) (pa_cons (pv 1) pa_nil)) (nomark _))
  (pss_one ps_never) pss_nil))))), ?_⟩)
  · obtain ⟨a, b, xs, ys, t, u, rfl, _⟩ := h
    rfl
  · obtain ⟨a, b, xs, ys, t, u, rfl, Sa, Sb, ox, oy, hl, hm, q⟩ := h
    refine ⟨_, rfl, a, xs, t, rfl, Sa, ox, hm, fun H1 e1 => ?_⟩
    refine ⟨_, rfl, b, ys, u, rfl, Sb.ex e1, oy, by omega, fun H2 e2 => ?_⟩
    have E2 := e1.trans e2
    refine ⟨_, rfl, _, _, rfl, (Sa.ex E2).len, _, rfl, _, _, rfl, (Sb.ex E2).len, .inl ⟨rfl, _, rfl, same_int ?_ (q _ E2)⟩⟩
    rw [iv_len, iv_len, hl]
def spWorth : Sp := fun vs H Q _ => ∃ n : Nat, vs = [.int (n : Int)] ∧ Q (.int (128 / 2 ^ (n % 8))) H
theorem ok_worth (T : Txt K mg) (F : FnP K "_worth" s__worth f fd) : Fg P w K mg base CX0 1 f fd ["bit"] spWorth := by
  refine fg_of F sc__worth (fun vs H Q E h => ?_) (fun cdv A outer s H vs Q E hr h => ⟨_, (PSs.nox (pss_one (ps_ret (pe_op op_shrN pe_int (pe_op u_mod (pv 0) pe_int))))), ?_⟩)
  · obtain ⟨n, rfl, _⟩ := h
    rfl
  · obtain ⟨n, rfl, q⟩ := h
    have n8 : (0 : Int) < 8 := by decide
    exact ⟨_, rfl, _, _, rfl, rfl, n8, 128, n % 8, rfl, rfl, q⟩
theorem ok_zeros (T : Txt K mg) (F : FnP K "zeros" s_zeros f fd) (C__check_octets : Cal P w K mg base CX0 4 "_check_octets" ["octets"] (spChk K)) (C_zero_bits : Cal P w K mg base CX0 1 "zero_bits" ["octets"] (spZB K)) : Fg P w K mg base CX0 6 f fd ["octets"] (spZeros K) := by
  refine fg_of F sc_zeros (fun vs H Q E h => ?_) (fun cdv A outer s H vs Q E hr h => ⟨_, (PSs.nox (pss_cons (ps_expr (pe_cal C__check_octets hr.le pass0 (pa_cons (pv 0) pa_nil)))
  (pss_one (ps_ret (pe_cal C_zero_bits hr.le pass0 (pa_cons (pv 0) pa_nil)))))), ?_⟩)
  · obtain ⟨a, os, t, rfl, _⟩ := h
    rfl
  · obtain ⟨a, os, t, rfl, S, ho, hl, q⟩ := h
    refine ⟨_, rfl, a, os, t, rfl, S, ho, by omega, fun H1 e1 => ?_⟩
    exact ⟨_, rfl, a, os, t, rfl, S.ex e1, ho, by omega, fun H2 e2 => q _ (e1.trans e2)⟩
theorem bitAnd_nn (a b : Nat) : Builtin.bitAnd (a : Int) (b : Int) = ((a &&& b : Nat) : Int) := by
  rw [bitAnd_pp (by omega) (by omega)]
  rfl
theorem worth_nat (j : Nat) : (128 : Int) / 2 ^ j = ((128 / 2 ^ j : Nat) : Int) := by
  simp
/-- at bit n of octets -/
theorem at_bit {xs : List Int} {n : Nat} (ox : Oct xs) (h : n < 8 * xs.length) : ∃ o : Nat, o < 256 ∧ xs[n / 8]? = some (o : Int) ∧ (bitsL xs)[n]? = (bitsOf (o : Int))[n % 8]? := by
  obtain ⟨x, hx⟩ := get_lt (l := xs) (i := n / 8) (by omega)
  have hm := ox x (List.mem_of_getElem? hx)
  obtain ⟨o, rfl⟩ := nat_of hm.1
  refine ⟨o, by omega, hx, ?_⟩
  have e := bitsL_get xs (n / 8) (n % 8) (by omega)
  rw [hx] at e
  have e2 : 8 * (n / 8) + n % 8 = n := by omega
  rw [e2] at e
  exact e
def spOnes (K : PySem.W.Frag) : Sp := fun vs H Q _ => ∃ (a : Addr) (os : List Int), vs = [.ref a] ∧ SqL K H a (IV os) ∧ Oct os ∧ os.length ≤ 700 ∧ RL (IV (onesL 0 (bitsL os))) H Q
theorem ok_ones (T : Txt K mg) (F : FnP K "_ones" s__ones f fd) (C__worth : Cal P w K mg base CX0 1 "_worth" ["bit"] spWorth) : Fg P w K mg base CX0 2 f fd ["octets"] (spOnes K) := by
  refine fg_of F sc__ones (fun vs H Q E h => ?_) (fun cdv A outer s H vs Q E hr h => ⟨_, (PSs.nox (pss_one (ps_ret (pe_lc (own := [("bit", 1)]) rfl sc__ones.nd (pi_range1 rfl T.f_range (pa_cons (pe_op (u_mul (K := K)) pe_int (pe_callB (u_len (K := K)) (by rfl) T.f_len (by decide +kernel) (pa_cons (pv 0) pa_nil))) pa_nil)) (blkOk_by (own := [("bit", 1)]) (N := ["octets", "bit"]) (sc := defScope s__ones) (by decide +kernel)) (fun _ _ _ _ _ => (pg_name (i := 1) sc__ones.nd rfl (by first | exact Or.inl rfl | exact Or.inr rfl))) (fun _ _ _ _ _ => (pts_one (pt_tru (K := K) (pe_op op_and (pe_ix (u_ix (K := K)) (pv 0) (pe_op u_fdiv (pv 1) pe_int) (fun _ _ => rfl)) (pe_cal C__worth hr.le pass0 (pa_cons (pv 1) pa_nil))) (by intro _; rfl)))) (fun _ _ _ _ _ => (pv 1)))))), ?_⟩)
  · obtain ⟨a, os, rfl, _⟩ := h
    rfl
  · obtain ⟨a, os, rfl, S, ho, hl, q⟩ := h
    have lb := bitsL_len os
    have n8 : (0 : Int) < 8 ∧ (8 : Int) < 1073741824 := by decide
    have cm : CMulX 8 ((IV os).length : Int) := mulx_ok (a := 4) (b := 10) (by decide) (by rw [iv_len]; omega) (by decide)
    have il := iv_len os
    refine ⟨_, rfl, _, _, rfl, .inl ⟨_, S, rfl⟩, .inl ⟨_, _, rfl, rfl, cm, _, rfl, by omega, by omega, fun D hD => ?_⟩⟩
    have nn : (8 * ((IV os).length : Int)).toNat = 8 * os.length := by omega
    rw [nn]
    refine lc_range (lo := 0) (n := 8 * os.length) (fun i H' => Evl.Ex H H' ∧ i ≤ 8 * os.length ∧ H' D = some (.lst (IV (onesL 0 ((bitsL os).take i))))) ⟨Evl.Ex.new hD, Nat.zero_le _, upd_same⟩ ?_ ?_
    · rintro i H1 hi ⟨e1, hi2, h1⟩
      obtain ⟨o, ho2, hx, hb⟩ := at_bit ho hi
      have e0 : (0 : Int) + (i : Int) = (i : Int) := Int.zero_add _
      rw [e0]
      have S1 := Evl.ex_l e1 S
      obtain ⟨b, hbi⟩ := get_lt (l := bitsL os) (i := i) (by omega)
      have len : ((bitsL os).take i).length = i := by rw [List.length_take]; omega
      have sn := onesL_snoc ((bitsL os).take i) b
      rw [len, ← take_snoc hbi] at sn
      have on := bit_on o ho2 (i % 8) (by omega)
      rw [← hb, hbi] at on
      refine ⟨rfl, _, rfl, _, rfl, _, _, rfl, rfl, n8, .inl ⟨a, _, _, _, rfl, rfl, S1, iv_at hx, _, rfl, i, rfl, _, _, rfl, rfl, ?_⟩⟩
      refine ⟨_, rfl, ?_⟩
      rw [worth_nat, bitAnd_nn]
      by_cases z : o &&& 128 / 2 ^ (i % 8) = 0
      · have b1 : ¬ b = 1 := fun y => (on.mpr (by rw [y])) z
        rw [z]
        refine iteF ⟨e1, hi, ?_⟩
        rw [sn, if_neg b1, List.append_nil]
        exact h1
      · have b1 : b = 1 := Option.some.inj (on.mp z)
        have nz : (((o &&& 128 / 2 ^ (i % 8) : Nat) : Int) != 0) = true := by
          have : ((o &&& 128 / 2 ^ (i % 8) : Nat) : Int) ≠ 0 := by omega
          simpa using this
        rw [nz]
        refine iteT ⟨_, rfl, _, h1, ?_, Evl.Ex.mut e1 hD, hi, ?_⟩
        · rw [iv_len]
          have := onesL_len ((bitsL os).take i) 0
          exact Evl.sz_lt (by omega)
        · rw [upd_same, sn, if_pos b1, iv_snoc]
    · rintro H1 ⟨e1, _, h1⟩
      rw [← lb, List.take_length] at h1
      exact q D H1 hD e1 h1
theorem both_at {g : Int → Int → Int} {xs ys : List Int} {i : Nat} {x y u : V} (hx : (IV xs)[i]? = some x) (hy : (IV ys)[i]? = some y) (hu : (IV (both g xs ys))[i]? = some u) : ∃ m n : Int, x = .int m ∧ y = .int n ∧ u = .int (g m n) := by
  obtain ⟨m, hm, rfl⟩ := iv_get hx
  obtain ⟨n, hn, rfl⟩ := iv_get hy
  obtain ⟨k, hk, rfl⟩ := iv_get hu
  obtain ⟨m', n', hm', hn', rfl⟩ := both_get hk
  rw [hm] at hm'
  rw [hn] at hn'
  cases hm'
  cases hn'
  exact ⟨_, _, rfl, rfl, rfl⟩
theorem ok_falls (T : Txt K mg) (F : FnP K "falls" s_falls f fd) (C__check_pair : Cal P w K mg base CX0 5 "_check_pair" ["old", "new"] (spPair K)) (C__ones : Cal P w K mg base CX0 2 "_ones" ["octets"] (spOnes K)) : Fg P w K mg base CX0 6 f fd ["old", "new"] (spFalls K) := by
  refine fg_of F sc_falls (fun vs H Q E h => ?_) (fun cdv A outer s H vs Q E hr h => ⟨_, (PSs.nox (pss_cons (ps_expr (pe_cal C__check_pair hr.le pass0 (pa_cons (pv 0) (pa_cons (pv 1) pa_nil))))
  (pss_one (ps_ret (pe_cal C__ones hr.le pass0 (pa_cons (pe_lc (own := [("was", 2), ("now", 3)]) rfl sc_falls.nd (pi_zm (K := K) rfl T.f_zip (pa_cons (pv 0) (pa_cons (pv 1) pa_nil))) (blkOk_by (own := [("was", 2), ("now", 3)]) (N := ["old", "new", "was", "now"]) (sc := defScope s_falls) (by decide +kernel)) (fun _ _ _ _ _ => (pg_tupU (K := K) (n := 2) rfl (pgs_cons (pg_name (i := 2) sc_falls.nd rfl (by first | exact Or.inl rfl | exact Or.inr rfl)) (pgs_cons (pg_name (i := 3) sc_falls.nd rfl (by first | exact Or.inl rfl | exact Or.inr rfl)) pgs_nil)))) (fun _ _ _ _ _ => pts_nil) (fun _ _ _ _ _ => (pe_op op_and (pv 2) (pe_op op_xor (pv 2) (pv 3))))) pa_nil)))))), ?_⟩)
  · obtain ⟨a, b, xs, ys, t, u, rfl, _⟩ := h
    rfl
  · obtain ⟨a, b, xs, ys, t, u, rfl, Sa, Sb, ox, oy, hl, hm, q⟩ := h
    refine ⟨_, rfl, _, rfl, a, b, xs, ys, t, u, rfl, Sa, Sb, ox, oy, hl, by omega, fun H1 e1 => ?_⟩
    have L := both_len (f := fallO) (xs := xs) (ys := ys) hl
    have wk := walk_zm (t := t) (u := u) (K := K) (a := a) (b := b) (xs := IV xs) (ys := IV ys) (n := xs.length) (by rw [iv_len, iv_len]; omega)
    refine ⟨_, rfl, _, rfl, t, u, a, b, _, _, rfl, Sa.ex e1, Sb.ex e1, fun D hD => ?_⟩
    refine lc_pureVZ (us := IV (both fallO xs ys)) wk (fun H' ex => ⟨(Sa.ex e1).ex ex, (Sb.ex e1).ex ex⟩) (by rw [iv_len]; exact L) (by omega) hD (fun _ _ => rfl) ?_ ?_
    · intro i x y v H' Q' hx hy hv ex k
      obtain ⟨m, n, rfl, rfl, rfl⟩ := both_at hx hy hv
      exact ⟨_, rfl, _, rfl, _, rfl, _, _, rfl, rfl, _, _, rfl, rfl, k H' (Evl.Ex.refl _)⟩
    · intro H' ex h3
      refine ⟨D, both fallO xs ys, rfl, SqL.of h3, both_oct ox oy (fun _ _ => fallO_range), by omega, fun p H2 np e2 hp => ?_⟩
      rw [ones_fall ox oy hl] at hp
      exact q p H2 (Evl.fresh_back (e1.trans ex) np) ((e1.trans ex).trans e2) hp
theorem ok_rises (T : Txt K mg) (F : FnP K "rises" s_rises f fd) (C__check_pair : Cal P w K mg base CX0 5 "_check_pair" ["old", "new"] (spPair K)) (C__ones : Cal P w K mg base CX0 2 "_ones" ["octets"] (spOnes K)) : Fg P w K mg base CX0 6 f fd ["old", "new"] (spRises K) := by
  refine fg_of F sc_rises (fun vs H Q E h => ?_) (fun cdv A outer s H vs Q E hr h => ⟨_, (PSs.nox (pss_cons (ps_expr (pe_cal C__check_pair hr.le pass0 (pa_cons (pv 0) (pa_cons (pv 1) pa_nil))))
  (pss_one (ps_ret (pe_cal C__ones hr.le pass0 (pa_cons (pe_lc (own := [("was", 2), ("now", 3)]) rfl sc_rises.nd (pi_zm (K := K) rfl T.f_zip (pa_cons (pv 0) (pa_cons (pv 1) pa_nil))) (blkOk_by (own := [("was", 2), ("now", 3)]) (N := ["old", "new", "was", "now"]) (sc := defScope s_rises) (by decide +kernel)) (fun _ _ _ _ _ => (pg_tupU (K := K) (n := 2) rfl (pgs_cons (pg_name (i := 2) sc_rises.nd rfl (by first | exact Or.inl rfl | exact Or.inr rfl)) (pgs_cons (pg_name (i := 3) sc_rises.nd rfl (by first | exact Or.inl rfl | exact Or.inr rfl)) pgs_nil)))) (fun _ _ _ _ _ => pts_nil) (fun _ _ _ _ _ => (pe_op op_and (pv 3) (pe_op op_xor (pv 2) (pv 3))))) pa_nil)))))), ?_⟩)
  · obtain ⟨a, b, xs, ys, t, u, rfl, _⟩ := h
    rfl
  · obtain ⟨a, b, xs, ys, t, u, rfl, Sa, Sb, ox, oy, hl, hm, q⟩ := h
    refine ⟨_, rfl, _, rfl, a, b, xs, ys, t, u, rfl, Sa, Sb, ox, oy, hl, by omega, fun H1 e1 => ?_⟩
    have L := both_len (f := riseO) (xs := xs) (ys := ys) hl
    have wk := walk_zm (t := t) (u := u) (K := K) (a := a) (b := b) (xs := IV xs) (ys := IV ys) (n := xs.length) (by rw [iv_len, iv_len]; omega)
    refine ⟨_, rfl, _, rfl, t, u, a, b, _, _, rfl, Sa.ex e1, Sb.ex e1, fun D hD => ?_⟩
    refine lc_pureVZ (us := IV (both riseO xs ys)) wk (fun H' ex => ⟨(Sa.ex e1).ex ex, (Sb.ex e1).ex ex⟩) (by rw [iv_len]; exact L) (by omega) hD (fun _ _ => rfl) ?_ ?_
    · intro i x y v H' Q' hx hy hv ex k
      obtain ⟨m, n, rfl, rfl, rfl⟩ := both_at hx hy hv
      exact ⟨_, rfl, _, rfl, _, rfl, _, _, rfl, rfl, _, _, rfl, rfl, k H' (Evl.Ex.refl _)⟩
    · intro H' ex h3
      refine ⟨D, both riseO xs ys, rfl, SqL.of h3, both_oct ox oy (fun _ _ => riseO_range), by omega, fun p H2 np e2 hp => ?_⟩
      rw [ones_rise ox oy hl] at hp
      exact q p H2 (Evl.fresh_back (e1.trans ex) np) ((e1.trans ex).trans e2) hp
end
end K01
namespace K01
open PySem PySem.Spec PyProof.Rows L2 VB BM
theorem bitXor_nn (a b : Nat) : Builtin.bitXor (a : Int) (b : Int) = ((a ^^^ b : Nat) : Int) := by
  rw [Bits.bitXor_pp (by omega) (by omega)]
  rfl
/-- one unlike bit on -/
theorem one_turn {os done as' bs' U : List Int} {m : Int} {i : Nat} {p : Int} {rest : List Int} (ho : Oct os) (hb : bitsL os = done ++ as') (bb : Bit bs') (hl : as'.length = bs'.length) (hu : diffL (done.length : Int) as' bs' = p :: rest) :
    ∃ (n o : Nat) (x y : Int) (pre as2 bs2 : List Int), p = (n : Int) ∧ o < 256 ∧ os[n / 8]? = some (o : Int) ∧ n / 8 < os.length ∧ as'.length = pre.length + 1 + as2.length ∧ as2.length = bs2.length ∧ Bit bs2 ∧
      (∀ m, turned as' bs' m = pre ++ (if m % 2 = 1 then y else x) :: turned as2 bs2 (m / 2)) ∧ rest = diffL ((done.length + pre.length + 1 : Nat) : Int) as2 bs2 ∧ bitsL os = (done ++ pre ++ [x]) ++ as2 ∧
      Oct (os.set (n / 8) ((o ^^^ (128 / 2 ^ (n % 8)) : Nat) : Int)) ∧ bitsL (os.set (n / 8) ((o ^^^ (128 / 2 ^ (n % 8)) : Nat) : Int)) = (done ++ pre ++ [y]) ++ as2 := by
  obtain ⟨pre, x, y, as2, bs2, h1, h2, h3, h4, h5, h6, h7⟩ := diff_at as' bs' _ p rest hl hu
  have lb := bitsL_len os
  have hn : done.length + pre.length < 8 * os.length := by
    rw [← lb, hb, h1]
    simp
  obtain ⟨o, o1, o2, o3⟩ := at_bit ho hn
  have bx : (bitsL os)[done.length + pre.length]? = some x := by
    rw [hb, h1, List.getElem?_append_right (by omega), Nat.add_sub_cancel_left, List.getElem?_append_right (by omega)]
    simp
  have bx2 : (bitsOf (o : Int))[(done.length + pre.length) % 8]? = some x := by rw [← o3]; exact bx
  have hx : x = 0 ∨ x = 1 := bitsL_bit os x (List.mem_of_getElem? bx)
  have hy : y = 0 ∨ y = 1 := bb y (by rw [h2]; simp)
  have yx : y = 1 - x := by omega
  obtain ⟨t1, t2⟩ := bit_turn o o1 ((done.length + pre.length) % 8) (by omega)
  have gd : (bitsOf (o : Int)).getD ((done.length + pre.length) % 8) 0 = x := by rw [List.getD_eq_getElem?_getD, bx2]; rfl
  rw [gd, ← yx] at t2
  have st := bitsL_set os ((done.length + pre.length) / 8) ((done.length + pre.length) % 8) _ _ _ (by omega) o2 t2
  have e8 : 8 * ((done.length + pre.length) / 8) + (done.length + pre.length) % 8 = done.length + pre.length := by omega
  rw [e8] at st
  refine ⟨done.length + pre.length, o, x, y, pre, as2, bs2, by rw [h4]; simp, o1, o2, by omega, by rw [h1]; simp; omega, h6, fun b hbm => bb b (by rw [h2]; simp [hbm]), h7, by rw [h5, h4]; congr 1, ?_, ?_, ?_⟩
  · rw [hb, h1]
    simp
  · intro z hz
    rcases List.mem_or_eq_of_mem_set hz with z1 | z1
    · exact ho z z1
    · omega
  · rw [st, hb, h1, List.append_assoc, List.append_assoc, List.set_append_right _ _ (by omega), Nat.add_sub_cancel_left]
    congr 1
    rw [List.set_append_right _ _ (Nat.le_refl _), Nat.sub_self]
    rfl
section
variable {P : Program} {w : World} {K : PySem.W.Frag} {mg : Str → Option Value} {base : Heap} {f : Addr} {fd : FuncData}
def spIsMask : Sp := fun vs H Q _ => ∃ m : Int, vs = [.int m] ∧ 0 ≤ m ∧ m < MM ∧ Q (.bl true) H
theorem ok_is_mask (T : Txt K mg) (F : FnP K "is_mask" s_is_mask f fd) (C_is_int : Cal P w K mg base CX0 1 "is_int" ["value"] spIsInt) : Fg P w K mg base CX0 2 f fd ["value"] spIsMask := by
  refine fg_of F sc_is_mask (fun vs H Q E h => ?_) (fun cdv A outer s H vs Q E hr h => ⟨_, (PSs.nox (pss_one (ps_ret (pe_and (pe_cal C_is_int hr.le pass0 (pa_cons (pv 0) pa_nil)) (pe_and (pe_cmpR op_ge (pv 0) pe_int (nomark _)) (pe_one (pe_cmpR op_le (pe_bits (pv 0)) (pe_globI rfl T.g_MASK_BITS) (nomark _)))))))), ?_⟩)
  · obtain ⟨m, rfl, _⟩ := h
    rfl
  · obtain ⟨m, rfl, h0, h1, q⟩ := h
    have b := PyProof.Rows.intBits_le (lt_natAbs (n := 4096) h0 h1)
    refine ⟨_, rfl, _, rfl, true, rfl, iteT ⟨_, rfl, _, _, rfl, rfl, _, rfl, ?_⟩⟩
    rw [decide_eq_true (show m ≥ 0 from h0)]
    refine iteT ⟨_, rfl, m, rfl, _, _, rfl, rfl, ?_⟩
    dsimp only
    rw [decide_eq_true (show ((Builtin.Int.intBits m : Nat) : Int) ≤ 4096 by omega)]
    exact q
theorem ok_changed (T : Txt K mg) (F : FnP K "changed" s_changed f fd) (C__check_pair : Cal P w K mg base CX0 5 "_check_pair" ["old", "new"] (spPair K)) (C__ones : Cal P w K mg base CX0 2 "_ones" ["octets"] (spOnes K))
    (C_is_mask : Cal P w K mg base CX0 2 "is_mask" ["value"] spIsMask) (C__worth : Cal P w K mg base CX0 1 "_worth" ["bit"] spWorth) : Fg P w K mg base CX0 6 f fd ["old", "new", "mask"] (spChanged K) := by
  refine fg_of F sc_changed (fun vs H Q E h => ?_) (fun cdv A outer s H vs Q E hr h => ⟨_, (PSs.nox (pss_cons (ps_expr (pe_cal C__check_pair hr.le pass0 (pa_cons (pv 0) (pa_cons (pv 1) pa_nil))))
  (pss_cons (ps_if (pt_not (pt_tru (K := K) (pe_cal C_is_mask hr.le pass0 (pa_cons (pv 2) pa_nil)) (by intro _; rfl)))
  (pss_one ps_never) pss_nil)
  (pss_cons (ps_set (i := 3) sc_changed.nd rfl (by first | exact Or.inl rfl | exact Or.inr rfl) (pe_cal C__ones hr.le pass0 (pa_cons (pe_lc (own := [("was", 7), ("now", 8)]) rfl sc_changed.nd (pi_zm (K := K) rfl T.f_zip (pa_cons (pv 0) (pa_cons (pv 1) pa_nil))) (blkOk_by (own := [("was", 7), ("now", 8)]) (N := ["old", "new", "mask", "unlike", "octets", "k", "bit", "was", "now"]) (sc := defScope s_changed) (by decide +kernel)) (fun _ _ _ _ _ => (pg_tupU (K := K) (n := 2) rfl (pgs_cons (pg_name (i := 7) sc_changed.nd rfl (by first | exact Or.inl rfl | exact Or.inr rfl)) (pgs_cons (pg_name (i := 8) sc_changed.nd rfl (by first | exact Or.inl rfl | exact Or.inr rfl)) pgs_nil)))) (fun _ _ _ _ _ => pts_nil) (fun _ _ _ _ _ => (pe_op op_xor (pv 7) (pv 8)))) pa_nil)))
  (pss_cons (ps_set (i := 4) sc_changed.nd rfl (by first | exact Or.inl rfl | exact Or.inr rfl) (pe_callTy (u_list (K := K)) (by rfl) T.f_list (by decide +kernel) (pa_cons (pv 0) pa_nil)))
  (pss_cons (ps_for PassesOwn.never rfl (pi_enu (K := K) rfl T.f_enumerate (pa_cons (pv 3) pa_nil)) (pg_tupU (K := K) (n := 2) rfl (pgs_cons (pg_name (i := 5) sc_changed.nd rfl (by first | exact Or.inl rfl | exact Or.inr rfl)) (pgs_cons (pg_name (i := 6) sc_changed.nd rfl (by first | exact Or.inl rfl | exact Or.inr rfl)) pgs_nil)))
  (pss_one (ps_if (pt_tru (K := K) (pe_op op_and (pe_op op_shrN (pv 2) (pv 5)) pe_int) (by intro _; rfl))
  (pss_one (ps_asg (pe_op op_xor (pe_ix (u_ix (K := K)) (pv 4) (pe_op u_fdiv (pv 6) pe_int) (fun _ _ => rfl)) (pe_cal C__worth hr.le pass0 (pa_cons (pv 6) pa_nil))) (pg_sub (pv 4) (pe_op u_fdiv (pv 6) pe_int) set_list))) pss_nil)))
  (pss_one (ps_ret (pe_callTy (u_tup (K := K)) (by rfl) T.f_tuple (by decide +kernel) (pa_cons (pv 4) pa_nil)))))))))), ?_⟩)
  · obtain ⟨a, b, xs, ys, t, u, m, rfl, _⟩ := h
    rfl
  · obtain ⟨a, b, xs, ys, t, u, m, rfl, Sa, Sb, ox, oy, hl, hm, m0, m1, q⟩ := h
    have lx := bitsL_len xs
    have ly := bitsL_len ys
    refine ⟨_, rfl, _, rfl, a, b, xs, ys, t, u, rfl, Sa, Sb, ox, oy, hl, by omega, fun H1 e1 => ?_⟩
    refine ⟨_, rfl, m, rfl, m0, m1, true, rfl, iteF ?_⟩
    have L := both_len (f := Builtin.bitXor) (xs := xs) (ys := ys) hl
    have wk := walk_zm (t := t) (u := u) (K := K) (a := a) (b := b) (xs := IV xs) (ys := IV ys) (n := xs.length) (by rw [iv_len, iv_len]; omega)
    refine ⟨_, rfl, _, rfl, t, u, a, b, _, _, rfl, Sa.ex e1, Sb.ex e1, fun D hD => ?_⟩
    refine lc_pureVZ (us := IV (both Builtin.bitXor xs ys)) wk (fun H' ex => ⟨(Sa.ex e1).ex ex, (Sb.ex e1).ex ex⟩) (by rw [iv_len]; exact L) (by omega) hD (fun _ _ => rfl) ?_ ?_
    · intro i x y v H' Q' hx hy hv ex k
      obtain ⟨m, n, rfl, rfl, rfl⟩ := both_at hx hy hv
      exact ⟨_, rfl, _, rfl, _, _, rfl, rfl, k H' (Evl.Ex.refl _)⟩
    · intro H2 ex h3
      refine ⟨D, both Builtin.bitXor xs ys, rfl, SqL.of h3, both_oct ox oy (fun _ _ => xor_range), by omega, fun pu H3 np e3 hp => ?_⟩
      rw [ones_diff ox oy hl] at hp
      have E3 := (e1.trans ex).trans e3
      refine ⟨_, rfl, a, _, rfl, (Sa.ex E3).either, fun l nl => ?_⟩
      have El := E3.trans (Evl.Ex.new (o := .lst (IV xs)) nl)
      have nlH := Evl.fresh_back E3 nl
      generalize hU : diffL 0 (bitsL xs) (bitsL ys) = U at hp
      have hp4 := Evl.Ex.new (o := .lst (IV xs)) nl _ _ hp
      have pul : pu ≠ l := by
        rintro rfl
        rw [nl] at hp
        cases hp
      refine ⟨_, rfl, pu, _, rfl, SqL.of hp4, ?_⟩
      refine for_it (walk_enum (K := K) (a := pu) (xs := IV U)) (fun i σ H' => ∃ (v5 v6 : Option V) (os done as' bs' : List Int), σ = [some (.ref a), some (.ref b), some (.int m), some (.ref pu), some (.ref l), v5, v6, none, none] ∧ Evl.Ex H H' ∧ H' pu = some (.lst (IV U)) ∧ i ≤ U.length ∧
        Oct os ∧ os.length = xs.length ∧ H' l = some (.lst (IV os)) ∧ bitsL os = done ++ as' ∧ Bit bs' ∧ as'.length = bs'.length ∧ U.drop i = diffL (done.length : Int) as' bs' ∧ turned (bitsL xs) (bitsL ys) m = done ++ turned as' bs' (m / 2 ^ i))
        ⟨none, none, xs, [], bitsL xs, bitsL ys, rfl, El, hp4, Nat.zero_le _, ox, rfl, upd_same, rfl, bitsL_bit ys, by omega, hU.symm, by simp⟩ ?_ ?_ ?_
      · rintro i σ H' _ ⟨v5, v6, os, done, as', bs', rfl, _, h, _⟩
        exact SqL.of h
      · rintro i x σ H4 H5 hi ⟨v5, v6, os, done, as', bs', rfl, e4, hp5, hiU, oo, lo, hos, hb, bb, ll, hd, ht⟩ ⟨Tp, x1, y1, rfl, nT, rfl, hx1, hy1⟩
        cases hx1
        obtain ⟨p, hpi, rfl⟩ := iv_get hy1
        have eT := Evl.Ex.new (o := .tup [V.int (i : Int), V.int p]) nT
        refine ⟨Tp, _, rfl, SqT.of upd_same, rfl, _, _, rfl, _, _, rfl, rfl, ?_⟩
        rw [drop_get hpi] at hd
        obtain ⟨n, o, x, y, pre, as2, bs2, rfl, o1, o2, o3, l1, l2, b2, tt, hr2, hb1, oo2, hb2⟩ := one_turn (U := U) (m := m) (i := i) oo hb bb ll hd.symm
        have hos5 := eT _ _ hos
        have hp6 := eT _ _ hp5
        have E5 := e4.trans eT
        have lT : l ≠ Tp := by
          rintro rfl
          rw [nT] at hos
          cases hos
        have dv : m / 2 ^ i / 2 = m / 2 ^ (i + 1) := by
          rw [Int.pow_succ, Int.ediv_ediv_of_nonneg (Int.le_of_lt (pow_nn i))]
        have n8 : (0 : Int) < 8 ∧ (8 : Int) < 1073741824 := by decide
        refine ⟨_, rfl, _, rfl, m, i, rfl, rfl, _, _, rfl, rfl, _, rfl, ?_⟩
        rw [bitAnd_m1]
        rw [tt] at ht
        by_cases od : m / 2 ^ i % 2 = 1
        · rw [if_pos od] at ht
          rw [od]
          refine iteT ⟨_, rfl, _, rfl, _, _, rfl, rfl, n8, .inl ⟨l, _, _, _, rfl, rfl, SqL.of hos5, iv_at o2, _, rfl, n, rfl, _, _, rfl, rfl, ?_⟩⟩
          refine ⟨_, rfl, _, rfl, _, _, rfl, rfl, n8, l, _, _, n / 8, rfl, rfl, hos5, Evl.ixN_nat (by rw [iv_len]; exact o3), ?_⟩
          dsimp only
          rw [worth_nat, bitXor_nn, ← List.map_set]
          refine ⟨_, _, _, done ++ pre ++ [y], as2, bs2, rfl, Evl.Ex.mut E5 nlH, ?_, ?_, oo2, ?_, upd_same, hb2, b2, l2, ?_, ?_⟩
          · rw [upd_ne pul]
            exact hp6
          · have := (List.getElem?_eq_some_iff.mp hpi).1
            omega
          · rw [List.length_set]
            exact lo
          · rw [hr2]
            congr 1
            simp
            omega
          · rw [ht, dv]
            simp
        · rw [if_neg od] at ht
          have ez : m / 2 ^ i % 2 = 0 := by omega
          rw [ez]
          refine iteF ⟨_, _, os, done ++ pre ++ [x], as2, bs2, rfl, E5, hp6, by have := (List.getElem?_eq_some_iff.mp hpi).1; omega, oo, lo, hos5, hb1, b2, l2, ?_, ?_⟩
          · rw [hr2]
            congr 1
            simp
            omega
          · rw [ht, dv]
            simp
      · rintro σ H4 ⟨v5, v6, os, done, as', bs', rfl, e4, hp5, hiU, oo, lo, hos, hb, bb, ll, hd, ht⟩
        rw [iv_len, List.drop_length] at hd
        have e := diff_nil _ _ _ ll hd.symm
        subst e
        rw [turned_same, ← hb] at ht
        rw [ht, octetsL_bitsL oo] at q
        exact ⟨_, rfl, l, _, rfl, .inl ⟨SqL.of hos, fun p np => q p _ (Evl.fresh_back e4 np) (e4.trans (Evl.Ex.new np)) upd_same⟩⟩
end
end K01
/-! readings that are never unfolded -/
namespace VB
open PySem PySem.Spec PyProof.Rows L2
section
variable {X : Cx} {K : PySem.W.Frag}
@[irreducible] def rTupI (K : PySem.W.Frag) : List V → Hp → VK → Prop := rTupU K
@[irreducible] def rListI (K : PySem.W.Frag) : List V → Hp → VK → Prop := rListU K
theorem u_tupI (hK : X.K = K := by rfl) : CallR X (.type "tuple") (rTupI K) := by
  unfold rTupI
  exact u_tup hK
theorem u_listI (hK : X.K = K := by rfl) : CallR X (.type "list") (rListI K) := by
  unfold rListI
  exact u_list hK
@[irreducible] def tIfI (c : TT) (t u : TS) : TS := tIfS c t u
theorem ps_ifI {test : Expr} {body orelse : List Stmt} {pos : Pos} {c : TT} {t u : TS} (hc : PT X test c) (ht : PSs X body t) (hu : PSs X orelse u) : PS X (.If test body orelse pos) (tIfI c t u) := by
  unfold tIfI
  exact ps_if hc ht hu
end
end VB
namespace K01
open PySem PySem.Spec PyProof.Rows L2 VB BM
section
variable {P : Program} {w : World} {K : PySem.W.Frag} {mg : Str → Option Value} {base : Heap} {f : Addr} {fd : FuncData}
theorem Sv.tupOf {H : Hp} {a : Addr} {xs : List V} {t : Bool} {Q : VK} (S : Sv t K H a xs) (q : ∀ p H', Evl.Ex H H' → SqT K H' p xs → Q (.ref p) H') : rTupI K [.ref a] H Q := by
  unfold rTupI
  cases t with
  | false => exact ⟨a, xs, rfl, .inl ⟨S, fun l hl => q l _ (Evl.Ex.new hl) (SqT.of upd_same)⟩⟩
  | true => exact ⟨a, xs, rfl, .inr ⟨S, q a H (Evl.Ex.refl _) S⟩⟩
theorem Sv.listOf {H : Hp} {a : Addr} {xs : List V} {t : Bool} {Q : VK} (S : Sv t K H a xs) (q : ∀ p, H p = none → Q (.ref p) (upd H p (.lst xs))) : rListI K [.ref a] H Q := by
  unfold rListI
  exact ⟨a, xs, rfl, S.either, q⟩
def spBetween (K : PySem.W.Frag) : Sp := fun vs H Q _ => ∃ (a b c : Addr) (n : Int) (xs ys zs : List Int) (t u v : Bool), vs = [.ref a, .ref b, .ref c, .int n] ∧ Sv t K H a (IV xs) ∧ Sv u K H b (IV ys) ∧ Sv v K H c (IV zs) ∧ Oct xs ∧ Oct ys ∧ Oct zs ∧
  Le (bitsL ys) (bitsL xs) ∧ Le (bitsL zs) (bitsL ys) ∧ xs.length ≤ 600 ∧ ys.length = xs.length ∧ zs.length = xs.length ∧ n = zc (bitsL ys) ∧ RV (.bl true) H Q
theorem ok_between (T : Txt K mg) (F : FnP K "_law_between" s__law_between f fd) (C_zeros : Cal P w K mg base CX0 6 "zeros" ["octets"] (spZeros K)) (C_rises : Cal P w K mg base CX0 6 "rises" ["old", "new"] (spRises K)) :
    Fg P w K mg base CX0 7 f fd ["_law_first", "_law_left", "_law_last", "_law_count"] (spBetween K) := by
  refine fg_of F sc__law_between (fun vs H Q E h => ?_) (fun cdv A outer s H vs Q E hr h => ⟨_, (PSs.nox (pss_cons (ps_if (PW.pt (pw_or (pt_cmpR (u_ne (K := K) hr) (pe_cal C_rises hr.le pass0 (pa_cons (pv 0) (pa_cons (pv 1) pa_nil))) (pe_lst pa_nil) (nomark _)) (pw_or (pt_cmpR (u_ne (K := K) hr) (pe_cal C_rises hr.le pass0 (pa_cons (pv 1) (pa_cons (pv 2) pa_nil))) (pe_lst pa_nil) (nomark _)) (pw_or1 (pt_cmpR (u_ne (K := K) hr) (pe_cal C_zeros hr.le pass0 (pa_cons (pv 1) pa_nil)) (pv 3) (nomark _))))))
  (pss_one (ps_ret pe_bl)) pss_nil)
  (pss_one (ps_ret (pe_and (pe_chain op_le op_le (pe_cal C_zeros hr.le pass0 (pa_cons (pv 0) pa_nil)) (pv 3) (pe_cal C_zeros hr.le pass0 (pa_cons (pv 2) pa_nil))) (pe_one (pe_cmpR (u_eq (K := K) hr) (pe_cmpR (u_eq (K := K) hr) (pv 3) (pe_cal C_zeros hr.le pass0 (pa_cons (pv 2) pa_nil)) (nomark _)) (pe_cmpR (u_eq (K := K) hr) (pe_callTy (u_tupI (K := K)) (by rfl) T.f_tuple (by decide +kernel) (pa_cons (pv 1) pa_nil)) (pe_callTy (u_tupI (K := K)) (by rfl) T.f_tuple (by decide +kernel) (pa_cons (pv 2) pa_nil)) (nomark _)) (nomark _)))))))), ?_⟩)
  · obtain ⟨a, b, c, n, xs, ys, zs, t, u, v, rfl, _⟩ := h
    rfl
  · obtain ⟨a, b, c, n, xs, ys, zs, t, u, v, rfl, Sa, Sb, Sc, ox, oy, oz, l1, l2, hm, hy, hz, rfl, q⟩ := h
    refine ⟨_, rfl, _, rfl, a, b, xs, ys, t, u, rfl, Sa, Sb, ox, oy, hy.symm, by omega, fun p1 H1 n1 e1 h1 => ?_⟩
    rw [fallen_none 0 l1] at h1
    refine ⟨by show 0 ≤ sizeLine; decide, fun d1 w1 => .inr (rne_l (ns := []) (ms := []) (SqL.of (Evl.Ex.new w1 _ _ h1)) (SqL.of upd_same) ⟨_, rfl, iteF ?_⟩)⟩
    have E1 := e1.trans (Evl.Ex.new (o := .lst []) w1)
    refine ⟨_, rfl, _, rfl, b, c, ys, zs, u, v, rfl, Sb.ex E1, Sc.ex E1, oy, oz, by omega, by omega, fun p2 H2 n2 e2 h2 => ?_⟩
    rw [fallen_none 0 l2] at h2
    refine ⟨by show 0 ≤ sizeLine; decide, fun d2 w2 => .inr (rne_l (ns := []) (ms := []) (SqL.of (Evl.Ex.new w2 _ _ h2)) (SqL.of upd_same) ⟨_, rfl, iteF ?_⟩)⟩
    have E2 := E1.trans (e2.trans (Evl.Ex.new (o := .lst []) w2))
    refine ⟨_, rfl, b, ys, u, rfl, Sb.ex E2, oy, by omega, fun H3 e3 => ⟨_, rfl, .inl ⟨rfl, _, rfl, same_ne ?_⟩⟩⟩
    have E3 := E2.trans e3
    have z1 := zc_le (bitsL_bit ys) (bitsL_bit xs) l1
    have z2 := zc_le (bitsL_bit zs) (bitsL_bit ys) l2
    refine ⟨_, rfl, a, xs, t, rfl, Sa.ex E3, ox, by omega, fun H4 e4 => ?_⟩
    have E4 := E3.trans e4
    refine ⟨_, rfl, _, _, rfl, rfl, _, rfl, ?_⟩
    rw [decide_eq_true z1.1]
    refine iteT ⟨_, rfl, c, zs, v, rfl, Sc.ex E4, oz, by omega, fun H5 e5 => ?_⟩
    have E5 := E4.trans e5
    refine ⟨_, _, rfl, rfl, _, rfl, ?_⟩
    rw [decide_eq_true z2.1]
    refine iteT ⟨_, rfl, _, rfl, c, zs, v, rfl, Sc.ex E5, oz, by omega, fun H6 e6 => .inl ⟨rfl, ?_⟩⟩
    have E6 := E5.trans e6
    refine ⟨_, rfl, Sv.tupOf (Sb.ex E6) fun p3 H7 e7 S3 => ⟨_, rfl, Sv.tupOf ((Sc.ex E6).ex e7) fun p4 H8 e8 S4 => .inr (req_t (Evl.ex_t e8 S3) S4 (.inl ⟨rfl, ?_⟩))⟩⟩
    have eq : decide (V.int (zc (bitsL ys)) = V.int (zc (bitsL zs))) = decide (ys = zs) := by
      by_cases h : ys = zs
      · subst h
        simp
      · rw [decide_eq_false h, decide_eq_false]
        intro e
        have e := V.int.inj e
        have e2 := z2.2 e
        apply h
        rw [← octetsL_bitsL oy, ← octetsL_bitsL oz, e2]
    rw [eq, decide_eq_true rfl]
    exact q _ (((E6.trans e7)).trans e8)
end
end K01
namespace K01
open PySem PySem.Spec PyProof.Rows L2 VB BM
theorem test_false {c : TT} {t u : TS} {D : Ends} {σ : L2.St} {H : Hp} (hc : ∀ Q' : Bool → Hp → Prop, (∀ H1, Evl.Ex H H1 → Q' false H1) → c σ H Q') (hu : ∀ H1, Evl.Ex H H1 → u D σ H1) : tIfI c t u D σ H := by
  unfold tIfI
  exact hc _ fun H1 e => iteF (hu H1 e)
theorem mem3 {w p q r : Int} {A B : Prop} (h1 : (w = p ∨ w = q ∨ w = r) → A) (h2 : B) : if (if false = true then !inV (V.int w) [.int p, .int q, .int r] else inV (V.int w) [.int p, .int q, .int r]) = true then A else B := by
  have e : (if false = true then !inV (V.int w) [.int p, .int q, .int r] else inV (V.int w) [.int p, .int q, .int r]) = decide (w = p ∨ w = q ∨ w = r) := by
    simp [inV, eqV, Bool.beq_eq_decide_eq, eq_comm]
  rw [e]
  exact if_dec h1 fun _ => h2
theorem in3 (w p q r : Int) : inV (.int w) [.int p, .int q, .int r] = decide (w = p ∨ w = q ∨ w = r) := by
  simp [inV, eqV, Bool.beq_eq_decide_eq, eq_comm]
abbrev tn (xs ys : List Int) (m : Int) : List Int := octetsL (turned (bitsL xs) (bitsL ys) m)
theorem tn_spec {xs ys : List Int} (m : Int) (hl : xs.length = ys.length) : bitsL (tn xs ys m) = turned (bitsL xs) (bitsL ys) m ∧ Oct (tn xs ys m) ∧ (tn xs ys m).length = xs.length := by
  have lx := bitsL_len xs
  have ly := bitsL_len ys
  have l := turned_len (bitsL xs) (bitsL ys) m (by omega)
  exact octetsL_spec (by omega) (turned_bit _ _ m (bitsL_bit xs) (bitsL_bit ys))
theorem sm_oct {xs : List Int} (h : Oct xs) : Sm xs := fun n hn => by
  have := h n hn
  omega
section
variable {P : Program} {w : World} {K : PySem.W.Frag} {mg : Str → Option Value} {base : Heap} {f : Addr} {fd : FuncData}
def spLR (K : PySem.W.Frag) : Sp := fun vs H Q _ => ∃ (way : Int) (a b c : Addr) (xs ys ms : List Int), vs = [.int way, .ref a, .ref b, .ref c] ∧ SqL K H a (IV (bitsL xs)) ∧ SqL K H b (IV (bitsL ys)) ∧ SqL K H c (IV ms) ∧ Oct xs ∧ Oct ys ∧ xs.length = ys.length ∧ xs.length ≤ 600 ∧
  (∀ m ∈ ms, 0 ≤ m ∧ m < MM) ∧ (way = 0 ∨ way = 1 ∨ way = 5 → Le (bitsL ys) (bitsL xs)) ∧ (way = 0 ∨ way = 2 ∨ way = 6 → Le (bitsL xs) (bitsL ys)) ∧ RV (.bl true) H Q
theorem ok_lr (T : Txt K mg) (F : FnP K "_law_left_right" s__law_left_right f fd) (C__law_octets : Cal P w K mg base CX0 1 "_law_octets" ["_law_bits_here"] (spOctets K)) (C__law_bits : Cal P w K mg base CX0 1 "_law_bits" ["_law_octets_here"] (spBits K))
    (C__law_turned : Cal P w K mg base CX0 1 "_law_turned" ["_law_old", "_law_new", "_law_mask_here"] (spTurned K)) (C__law_between : Cal P w K mg base CX0 7 "_law_between" ["_law_first", "_law_left", "_law_last", "_law_count"] (spBetween K))
    (C_changed : Cal P w K mg base CX0 6 "changed" ["old", "new", "mask"] (spChanged K)) (CK_changed_0_mask_new_old : CalK P w K mg base CX0 6 "changed" ["old", "new", "mask"] 0 ["mask", "new", "old"] g321 g321V (spChanged K)) :
    Fg P w K mg base CX0 8 f fd ["_law_way", "_law_old", "_law_new", "_law_masks"] (spLR K) := by
  refine fg_of F sc__law_left_right (fun vs H Q E h => ?_) (fun cdv A outer s H vs Q E hr h => ⟨_, (PSs.nox (pss_cons (ps_par3 (i := 4) (j := 5) (l := 6) rfl sc__law_left_right.nd rfl rfl rfl (by decide) (by decide) (by decide) rfl rfl rfl (pa_cons (pe_cal C__law_octets hr.le pass0 (pa_cons (pv 1) pa_nil)) (pa_cons (pe_cal C__law_octets hr.le pass0 (pa_cons (pv 2) pa_nil)) (pa_cons (pe_callTy (u_listI (K := K)) (by rfl) T.f_list (by decide +kernel) (pa_cons (pv 1) pa_nil)) pa_nil))) (by rfl))
  (pss_cons (ps_for PassesOwn.never rfl (pi_seq (K := K) (pv 3)) (pg_name (i := 7) sc__law_left_right.nd rfl (by first | exact Or.inl rfl | exact Or.inr rfl))
  (pss_cons (ps_par (i := 8) (j := 9) rfl sc__law_left_right.nd rfl rfl (by decide) rfl rfl (pa_cons (pe_cal C__law_octets hr.le pass0 (pa_cons (pe_cal C__law_turned hr.le pass0 (pa_cons (pv 1) (pa_cons (pv 2) (pa_cons (pv 7) pa_nil)))) pa_nil)) (pa_cons (pe_cal C__law_turned hr.le pass0 (pa_cons (pv 6) (pa_cons (pv 2) (pa_cons (pv 7) pa_nil)))) pa_nil)) (by rfl))
  (pss_cons (ps_par3 (i := 10) (j := 11) (l := 12) rfl sc__law_left_right.nd rfl rfl rfl (by decide) (by decide) (by decide) rfl rfl rfl (pa_cons (pe_callTy (u_listI (K := K)) (by rfl) T.f_list (by decide +kernel) (pa_cons (pv 4) pa_nil)) (pa_cons (pe_callTy (u_listI (K := K)) (by rfl) T.f_list (by decide +kernel) (pa_cons (pe_cal C__law_octets hr.le pass0 (pa_cons (pv 6) pa_nil)) pa_nil)) (pa_cons (pe_callTy (u_listI (K := K)) (by rfl) T.f_list (by decide +kernel) (pa_cons (pv 5) pa_nil)) pa_nil))) (by rfl))
  (pss_cons (ps_set (i := 13) sc__law_left_right.nd rfl (by first | exact Or.inl rfl | exact Or.inr rfl) (pe_cal C_changed hr.le pass0 (pa_cons (pv 10) (pa_cons (pv 12) (pa_cons (pv 7) pa_nil)))))
  (pss_cons (ps_ifI (PW.pt (pw_or (pt_cmpR (u_ne (K := K) hr) (pe_callB (u_repr (K := K) hr) (by rfl) T.f_repr (by decide +kernel) (pa_cons (pv 13) pa_nil)) (pe_callB (u_repr (K := K) hr) (by rfl) T.f_repr (by decide +kernel) (pa_cons (pv 8) pa_nil)) (nomark _)) (pw_or1 (pt_cmpR (u_ne (K := K) hr) (pe_callB (u_repr (K := K) hr) (by rfl) T.f_repr (by decide +kernel) (pa_cons (pe_calk CK_changed_0_mask_new_old hr.le pass0 (pk_cons (pv 7) (pk_cons (pv 12) (pk_cons (pv 4) pk_nil)))) pa_nil)) (pe_callB (u_repr (K := K) hr) (by rfl) T.f_repr (by decide +kernel) (pa_cons (pv 8) pa_nil)) (nomark _)))))
  (pss_one (ps_ret pe_bl)) pss_nil)
  (pss_cons (ps_set (i := 14) sc__law_left_right.nd rfl (by first | exact Or.inl rfl | exact Or.inr rfl) (pe_cal C_changed hr.le pass0 (pa_cons (pv 11) (pa_cons (pv 5) (pa_cons (pv 7) pa_nil)))))
  (pss_cons (ps_ifI (PW.pt (pw_or (pt_cmpR (u_ne (K := K) hr) (pe_callB (u_repr (K := K) hr) (by rfl) T.f_repr (by decide +kernel) (pa_cons (pv 14) pa_nil)) (pe_callB (u_repr (K := K) hr) (by rfl) T.f_repr (by decide +kernel) (pa_cons (pe_cal C__law_octets hr.le pass0 (pa_cons (pv 9) pa_nil)) pa_nil)) (nomark _)) (pw_or (pt_cmpR (u_ne (K := K) hr) (pv 10) (pe_callTy (u_listI (K := K)) (by rfl) T.f_list (by decide +kernel) (pa_cons (pv 4) pa_nil)) (nomark _)) (pw_or1 (pt_cmpR (u_ne (K := K) hr) (pv 11) (pe_callTy (u_listI (K := K)) (by rfl) T.f_list (by decide +kernel) (pa_cons (pe_cal C__law_octets hr.le pass0 (pa_cons (pv 6) pa_nil)) pa_nil)) (nomark _))))))
  (pss_one (ps_ret pe_bl)) pss_nil)
  (pss_cons (ps_ifI (pt_cmpR (u_ne (K := K) hr) (pv 12) (pe_callTy (u_listI (K := K)) (by rfl) T.f_list (by decide +kernel) (pa_cons (pv 5) pa_nil)) (nomark _))
  (pss_one (ps_ret pe_bl)) pss_nil)
  (pss_cons (ps_ifI (PW.pt (pw_and (pt_cmpR (u_in (K := K)) (pv 0) (pe_lst (pa_cons pe_int (pa_cons pe_int (pa_cons pe_int pa_nil)))) (by rfl)) (pw_and1 (pt_not (pt_tru (K := K) (pe_cal C__law_between hr.le pass0 (pa_cons (pv 4) (pa_cons (pv 13) (pa_cons (pv 5) (pa_cons (pe_bm PySem.F.plainAttrs_list PySem.F.slot_list_count PySem.F.type_list_count (u_count (K := K)) (pe_cal C__law_bits hr.le pass0 (pa_cons (pv 8) pa_nil)) (pa_cons pe_int pa_nil)) pa_nil))))) (by intro _; rfl))))))
  (pss_one (ps_ret pe_bl)) pss_nil)
  (pss_cons (ps_ifI (PW.pt (pw_and (pt_cmpR (u_in (K := K)) (pv 0) (pe_lst (pa_cons pe_int (pa_cons pe_int (pa_cons pe_int pa_nil)))) (by rfl)) (pw_and1 (pt_not (pt_tru (K := K) (pe_cal C__law_between hr.le pass0 (pa_cons (pv 11) (pa_cons (pv 14) (pa_cons (pv 5) (pa_cons (pe_bm PySem.F.plainAttrs_list PySem.F.slot_list_count PySem.F.type_list_count (u_count (K := K)) (pv 9) (pa_cons pe_int pa_nil)) pa_nil))))) (by intro _; rfl))))))
  (pss_one (ps_ret pe_bl)) pss_nil)
  (pss_cons (ps_ifI (PW.pt (pw_and (pt_cmpR (u_in (K := K)) (pv 0) (pe_lst (pa_cons pe_int (pa_cons pe_int (pa_cons pe_int pa_nil)))) (by rfl)) (pw_and1 (pt_not (pt_tru (K := K) (pe_cal C__law_between hr.le pass0 (pa_cons (pv 5) (pa_cons (pv 13) (pa_cons (pv 4) (pa_cons (pe_bm PySem.F.plainAttrs_list PySem.F.slot_list_count PySem.F.type_list_count (u_count (K := K)) (pe_cal C__law_bits hr.le pass0 (pa_cons (pv 8) pa_nil)) (pa_cons pe_int pa_nil)) pa_nil))))) (by intro _; rfl))))))
  (pss_one (ps_ret pe_bl)) pss_nil)
  (pss_cons (ps_ifI (PW.pt (pw_and (pt_cmpR (u_in (K := K)) (pv 0) (pe_lst (pa_cons pe_int (pa_cons pe_int (pa_cons pe_int pa_nil)))) (by rfl)) (pw_and1 (pt_not (pt_tru (K := K) (pe_cal C__law_between hr.le pass0 (pa_cons (pv 5) (pa_cons (pv 14) (pa_cons (pv 11) (pa_cons (pe_bm PySem.F.plainAttrs_list PySem.F.slot_list_count PySem.F.type_list_count (u_count (K := K)) (pv 9) (pa_cons pe_int pa_nil)) pa_nil))))) (by intro _; rfl))))))
  (pss_one (ps_ret pe_bl)) pss_nil)
  (pss_one (ps_set (i := 6) sc__law_left_right.nd rfl (by first | exact Or.inl rfl | exact Or.inr rfl) (pv 9)))))))))))))))
  (pss_one (ps_ret pe_bl))))), ?_⟩)
  · obtain ⟨way, a, b, c, xs, ys, ms, rfl, _⟩ := h
    rfl
  · obtain ⟨way, a, b, c, xs, ys, ms, rfl, Sa, Sb, Sc, ox, oy, hl, hm, hms, dn, up, q⟩ := h
    have lx := bitsL_len xs
    have ly := bitsL_len ys
    refine ⟨_, rfl, a, _, rfl, Sa, bitsL_bit xs, by omega, fun p4 H1 n1 e1 h4 => ?_⟩
    rw [octetsL_bitsL ox] at h4
    refine ⟨_, rfl, b, _, rfl, Evl.ex_l e1 Sb, bitsL_bit ys, by omega, fun p5 H2 n2 e2 h5 => ?_⟩
    rw [octetsL_bitsL oy] at h5
    refine ⟨_, rfl, Sv.listOf (Sv.ex (t := false) (Evl.ex_l (e1.trans e2) Sa) (Evl.Ex.refl _)) fun p6 n6 => ⟨_, _, _, rfl, ?_⟩⟩
    have e3 := Evl.Ex.new (o := .lst (IV (bitsL xs))) n6
    have E3 := (e1.trans e2).trans e3
    have k4 := e3 _ _ (e2 _ _ h4)
    have k5 := e3 _ _ h5
    have Ka := Evl.ex_l E3 Sa
    have Kb := Evl.ex_l E3 Sb
    have Kc := Evl.ex_l E3 Sc
    have q2 : RV (.bl true) (upd H2 p6 (.lst (IV (bitsL xs)))) Q := fun H' e => q H' (E3.trans e)
    have k6 : upd H2 p6 (.lst (IV (bitsL xs))) p6 = some (.lst (IV (bitsL xs))) := upd_same
    generalize upd H2 p6 (.lst (IV (bitsL xs))) = H0 at k4 k5 k6 Ka Kb Kc q2 ⊢
    clear e3 E3 h4 h5 n6 n1 n2 e1 e2
    refine seq_var (t := false) (xs := IV ms) rfl Kc fun J wk => ?_
    rw [iv_len] at wk
    refine for_it wk (fun i σ H' => ∃ (v7 v8 v9 v10 v11 v12 v13 v14 : Option V) (p6 : Addr) (hs : List Int), σ = [some (.int way), some (.ref a), some (.ref b), some (.ref c), some (.ref p4), some (.ref p5), some (.ref p6), v7, v8, v9, v10, v11, v12, v13, v14] ∧
      Evl.Ex H0 H' ∧ H' p6 = some (.lst (IV (bitsL hs))) ∧ Oct hs ∧ hs.length = xs.length ∧ (way = 0 ∨ way = 1 ∨ way = 5 → Le (bitsL ys) (bitsL hs)) ∧ (way = 0 ∨ way = 2 ∨ way = 6 → Le (bitsL hs) (bitsL ys)))
      ⟨none, none, none, none, none, none, none, none, p6, xs, rfl, Evl.Ex.refl _, k6, ox, rfl, dn, up⟩ (fun i σ H' _ h => Evl.ex_l h.choose_spec.choose_spec.choose_spec.choose_spec.choose_spec.choose_spec.choose_spec.choose_spec.choose_spec.choose_spec.2.1 Kc) ?_ ?_
    · rintro i x σ H1 H2 hi ⟨v7, v8, v9, v10, v11, v12, v13, v14, p6, hs, rfl, E1, h6, oh, lh, dn1, up1⟩ ⟨rfl, hx⟩
      obtain ⟨m, hmi, rfl⟩ := iv_get hx
      have hmm := hms m (List.mem_of_getElem? hmi)
      have E2 := E1
      -- what is due
      refine ⟨_, rfl, _, rfl, _, rfl, a, b, _, _, m, rfl, Evl.ex_l E1 Ka, Evl.ex_l E1 Kb, by omega, by omega, fun r1 H3 n3 e3 hr1 => ?_⟩
      have t1 := tn_spec (xs := xs) (ys := ys) m hl
      have t2 := tn_spec (xs := hs) (ys := ys) m (by omega)
      have lh8 := bitsL_len hs
      refine ⟨r1, _, rfl, SqL.of hr1, turned_bit _ _ m (bitsL_bit xs) (bitsL_bit ys), by rw [turned_len _ _ m (by omega)]; omega, fun p8 H4 n4 e4 h8 => ?_⟩
      have E4 := (E1.trans e3).trans e4
      have e34 := e3.trans e4
      refine ⟨_, rfl, _, rfl, _, rfl, p6, b, _, _, m, rfl, SqL.of (e34 _ _ h6), Evl.ex_l E4 Kb, by omega, by omega, fun p9 H5 n9 e5 h9 => ⟨_, _, rfl, ?_⟩⟩
      rw [← t2.1] at h9
      have E5 := E4.trans e5
      have h8 := e5 _ _ h8
      have h6 := e5 _ _ (e34 _ _ h6)
      clear e3 e4 e34 e5 hr1 n3 n4 E4
      -- what is handed
      refine ⟨_, rfl, Sv.listOf (Sv.tup (E5 _ _ k4)) fun p10 n10 => ?_⟩
      have e6 := Evl.Ex.new (o := .lst (IV xs)) n10
      refine ⟨_, rfl, p6, _, rfl, SqL.of (e6 _ _ h6), bitsL_bit hs, by omega, fun r2 H6 n6 e7 hr2 => Sv.listOf (Sv.tup hr2) fun p11 n11 => ?_⟩
      rw [octetsL_bitsL oh]
      have e8 := Evl.Ex.new (o := .lst (IV hs)) n11
      refine ⟨_, rfl, Sv.listOf (Sv.tup (e8 _ _ (e7 _ _ (e6 _ _ (E5 _ _ k5))))) fun p12 n12 => ⟨_, _, _, rfl, ?_⟩⟩
      have e9 := Evl.Ex.new (o := .lst (IV ys)) n12
      have h12 : upd (upd H6 p11 (.lst (IV hs))) p12 (.lst (IV ys)) p12 = some (.lst (IV ys)) := upd_same
      have h11 := e9 _ _ (upd_same (H := H6) (a := p11) (o := .lst (IV hs)))
      have h10 := e9 _ _ (e8 _ _ (e7 _ _ (upd_same (H := H5) (a := p10) (o := .lst (IV xs)))))
      have e := ((e6.trans e7).trans e8).trans e9
      have E6 := E5.trans e
      have h8 := e _ _ h8
      have h9 := e _ _ h9
      have h6 := e _ _ h6
      generalize upd (upd H6 p11 (.lst (IV hs))) p12 (.lst (IV ys)) = H7 at E6 h6 h8 h9 h10 h11 h12 ⊢
      clear e e6 e7 e8 e9 n10 n11 n12 n6 n9 E5 E1 E2
      -- told
      refine ⟨_, rfl, _, rfl, _, rfl, p10, p12, xs, ys, false, false, m, rfl, Sv.lst h10, Sv.lst h12, ox, oy, hl, by omega, hmm.1, hmm.2, fun p13 H8 n13 e h13 => ?_⟩
      have E7 := E6.trans e
      have s1 := sm_oct t1.2.1
      have s2 := sm_oct t2.2.1
      have lt1 : (octetsL (turned (bitsL xs) (bitsL ys) m)).length ≤ 6000 := by
        have := t1.2.2
        show (tn xs ys m).length ≤ 6000
        omega
      have lt2 : (octetsL (turned (bitsL hs) (bitsL ys) m)).length ≤ 6000 := by
        have := t2.2.2
        show (tn hs ys m).length ≤ 6000
        omega
      have h8 := e _ _ h8
      have h9 := e _ _ h9
      have h6 := e _ _ h6
      have h10 := e _ _ h10
      have h11 := e _ _ h11
      have h12 := e _ _ h12
      refine test_false (fun Q' k => ?_) (fun H9 e9 => ?_)
      · refine ⟨_, rfl, rp_t (SqT.of h13) s1 lt1 ⟨_, rfl, rp_t (SqT.of h8) s1 lt1 (.inl ⟨rfl, _, rfl, same_ne ?_⟩)⟩⟩
        refine ⟨_, rfl, _, rfl, _, rfl, rfl, rfl, p4, p12, xs, ys, true, false, m, rfl, Sv.tup (E7 _ _ k4), Sv.lst h12, ox, oy, hl, by omega, hmm.1, hmm.2, fun r3 H9 n e9 hr3 => ?_⟩
        refine rp_t (SqT.of hr3) s1 lt1 ⟨_, rfl, rp_t (SqT.of (e9 _ _ h8)) s1 lt1 (.inl ⟨rfl, _, rfl, ?_⟩)⟩
        rw [show (!decide (V.str (DT (tn xs ys m)).shown = V.str (DT (tn xs ys m)).shown)) = false by simp]
        exact k _ e9
      refine ⟨_, rfl, _, rfl, _, rfl, p11, p5, hs, ys, false, true, m, rfl, Sv.lst (e9 _ _ h11), Sv.tup (e9 _ _ (E7 _ _ k5)), oh, oy, by omega, by omega, hmm.1, hmm.2, fun p14 H10 n14 e10 h14 => ?_⟩
      have e := e9.trans e10
      have E8 := E7.trans e
      have h8 := e _ _ h8
      have h9 := e _ _ h9
      have h6 := e _ _ h6
      have h10 := e _ _ h10
      have h11 := e _ _ h11
      have h12 := e _ _ h12
      have h13 := e _ _ h13
      clear e e9 e10 E7 E6 n13
      refine test_false (fun Q' k => ?_) (fun H11 e => ?_)
      · refine ⟨_, rfl, rp_t (SqT.of h14) s2 lt2 ⟨_, rfl, p9, _, rfl, SqL.of h9, bitsL_bit _, by rw [bitsL_len]; omega, fun r4 H11 n e1 hr4 => ?_⟩⟩
        rw [octetsL_bitsL t2.2.1] at hr4
        refine rp_t (SqT.of hr4) s2 lt2 (.inl ⟨rfl, _, rfl, same_ne ?_⟩)
        refine ⟨_, rfl, _, rfl, Sv.listOf (Sv.tup (e1 _ _ (E8 _ _ k4))) fun l1 m1 => .inr (rne_l (SqL.of (Evl.Ex.new m1 _ _ (e1 _ _ h10))) (SqL.of upd_same) ⟨_, rfl, ?_⟩)⟩
        rw [decide_eq_true rfl]
        have e2 := e1.trans (Evl.Ex.new (o := .lst (IV xs)) m1)
        refine iteF ⟨_, rfl, _, rfl, p6, _, rfl, SqL.of (e2 _ _ h6), bitsL_bit _, by omega, fun r5 H12 n e3 hr5 => Sv.listOf (Sv.tup hr5) fun l2 m2 => .inr ?_⟩
        rw [octetsL_bitsL oh]
        refine rne_l (SqL.of (Evl.Ex.new m2 _ _ (e3 _ _ (e2 _ _ h11)))) (SqL.of upd_same) ⟨_, rfl, ?_⟩
        rw [decide_eq_true rfl]
        exact k _ ((e2.trans e3).trans (Evl.Ex.new m2))
      have E9 := E8.trans e
      have h8 := e _ _ h8
      have h9 := e _ _ h9
      have h10 := e _ _ h10
      have h11 := e _ _ h11
      have h12 := e _ _ h12
      have h13 := e _ _ h13
      have h14 := e _ _ h14
      clear h6 e E8
      refine test_false (fun Q' k => ?_) (fun H12 e => ?_)
      · refine ⟨_, rfl, _, rfl, Sv.listOf (Sv.tup (E9 _ _ k5)) fun l1 m1 => .inr (rne_l (SqL.of (Evl.Ex.new m1 _ _ h12)) (SqL.of upd_same) ⟨_, rfl, ?_⟩)⟩
        rw [decide_eq_true rfl]
        exact k _ (Evl.Ex.new m1)
      have E10 := E9.trans e
      have h8 := e _ _ h8
      have h9 := e _ _ h9
      have h11 := e _ _ h11
      have h13 := e _ _ h13
      have h14 := e _ _ h14
      clear h12 h10 e E9
      refine test_false (fun Q' k => ?_) (fun H21 e => ?_)
      · refine ⟨_, rfl, by show 3 ≤ sizeLine; decide, fun D nD => ⟨D, _, rfl, .inl (SqL.of upd_same), rfl, rfl, ⟨_, rfl, mem3 (fun hin => ?_) (k _ (Evl.Ex.new nD))⟩⟩⟩
        have e0 := Evl.Ex.new (o := .lst [V.int 0, .int 1, .int 5]) nD
        have le := turned_down m (dn hin)
        refine ⟨_, rfl, _, rfl, _, rfl, _, rfl, p8, tn xs ys m, true, rfl, Sv.tup (e0 _ _ h8), by omega, fun r5 H30 n5 e5 hr5 => ⟨.inl ⟨rfl, _, SqL.of hr5⟩, r5, _, _, rfl, rfl, SqL.of hr5, ?_⟩⟩
        have e6 := e0.trans e5
        rw [← t1.1] at le
        exact ⟨p4, p13, p5, _, xs, tn xs ys m, ys, true, true, true, rfl, Sv.tup (e6 _ _ (E10 _ _ k4)), Sv.tup (e6 _ _ h13), Sv.tup (e6 _ _ (E10 _ _ k5)), ox, t1.2.1, oy, le.2, le.1, by omega, by omega, by omega, rfl, fun H31 e7 => ⟨true, rfl, k _ (e6.trans e7)⟩⟩
      have E11 := E10.trans e
      have h8 := e _ _ h8
      have h9 := e _ _ h9
      have h11 := e _ _ h11
      have h13 := e _ _ h13
      have h14 := e _ _ h14
      clear e E10
      refine test_false (fun Q' k => ?_) (fun H22 e => ?_)
      · refine ⟨_, rfl, by show 3 ≤ sizeLine; decide, fun D nD => ⟨D, _, rfl, .inl (SqL.of upd_same), rfl, rfl, ⟨_, rfl, mem3 (fun hin => ?_) (k _ (Evl.Ex.new nD))⟩⟩⟩
        have e0 := Evl.Ex.new (o := .lst [V.int 0, .int 1, .int 5]) nD
        have le := turned_down m (dn1 hin)
        refine ⟨_, rfl, _, rfl, _, rfl, _, rfl, .inl ⟨rfl, _, SqL.of (e0 _ _ h9)⟩, p9, _, _, rfl, rfl, SqL.of (e0 _ _ h9), ?_⟩
        have e6 := e0
        rw [← t2.1] at le
        exact ⟨p11, p14, p5, _, hs, tn hs ys m, ys, false, true, true, rfl, Sv.lst (e6 _ _ h11), Sv.tup (e6 _ _ h14), Sv.tup (e6 _ _ (E11 _ _ k5)), oh, t2.2.1, oy, le.2, le.1, by omega, by omega, by omega, rfl, fun H31 e7 => ⟨true, rfl, k _ (e6.trans e7)⟩⟩
      have E12 := E11.trans e
      have h8 := e _ _ h8
      have h9 := e _ _ h9
      have h11 := e _ _ h11
      have h13 := e _ _ h13
      have h14 := e _ _ h14
      clear e E11
      refine test_false (fun Q' k => ?_) (fun H23 e => ?_)
      · refine ⟨_, rfl, by show 3 ≤ sizeLine; decide, fun D nD => ⟨D, _, rfl, .inl (SqL.of upd_same), rfl, rfl, ⟨_, rfl, mem3 (fun hin => ?_) (k _ (Evl.Ex.new nD))⟩⟩⟩
        have e0 := Evl.Ex.new (o := .lst [V.int 0, .int 2, .int 6]) nD
        have le := turned_up m (up hin)
        refine ⟨_, rfl, _, rfl, _, rfl, _, rfl, p8, tn xs ys m, true, rfl, Sv.tup (e0 _ _ h8), by omega, fun r5 H30 n5 e5 hr5 => ⟨.inl ⟨rfl, _, SqL.of hr5⟩, r5, _, _, rfl, rfl, SqL.of hr5, ?_⟩⟩
        have e6 := e0.trans e5
        rw [← t1.1] at le
        exact ⟨p5, p13, p4, _, ys, tn xs ys m, xs, true, true, true, rfl, Sv.tup (e6 _ _ (E12 _ _ k5)), Sv.tup (e6 _ _ h13), Sv.tup (e6 _ _ (E12 _ _ k4)), oy, t1.2.1, ox, le.2, le.1, by omega, by omega, by omega, rfl, fun H31 e7 => ⟨true, rfl, k _ (e6.trans e7)⟩⟩
      have E13 := E12.trans e
      have h8 := e _ _ h8
      have h9 := e _ _ h9
      have h11 := e _ _ h11
      have h13 := e _ _ h13
      have h14 := e _ _ h14
      clear e E12
      refine test_false (fun Q' k => ?_) (fun H24 e => ?_)
      · refine ⟨_, rfl, by show 3 ≤ sizeLine; decide, fun D nD => ⟨D, _, rfl, .inl (SqL.of upd_same), rfl, rfl, ⟨_, rfl, mem3 (fun hin => ?_) (k _ (Evl.Ex.new nD))⟩⟩⟩
        have e0 := Evl.Ex.new (o := .lst [V.int 0, .int 2, .int 6]) nD
        have le := turned_up m (up1 hin)
        refine ⟨_, rfl, _, rfl, _, rfl, _, rfl, .inl ⟨rfl, _, SqL.of (e0 _ _ h9)⟩, p9, _, _, rfl, rfl, SqL.of (e0 _ _ h9), ?_⟩
        have e6 := e0
        rw [← t2.1] at le
        exact ⟨p5, p14, p11, _, ys, tn hs ys m, hs, true, true, false, rfl, Sv.tup (e6 _ _ (E13 _ _ k5)), Sv.tup (e6 _ _ h14), Sv.lst (e6 _ _ h11), oy, t2.2.1, oh, le.2, le.1, by omega, by omega, by omega, rfl, fun H31 e7 => ⟨true, rfl, k _ (e6.trans e7)⟩⟩
      have E14 := E13.trans e
      have h8 := e _ _ h8
      have h9 := e _ _ h9
      have h11 := e _ _ h11
      have h13 := e _ _ h13
      have h14 := e _ _ h14
      clear e E13
      refine ⟨_, rfl, _, _, _, _, _, _, _, _, p9, tn hs ys m, rfl, E14, h9, t2.2.1, by omega, fun z => ?_, fun z => ?_⟩
      · rw [t2.1]
        exact (turned_down m (dn1 z)).1
      · rw [t2.1]
        exact (turned_up m (up1 z)).2
    · rintro σ H' ⟨v7, v8, v9, v10, v11, v12, v13, v14, p6, hs, rfl, E1, _⟩
      exact q2 _ E1
end
end K01
/-! a tuple once is the tuple -/
namespace VB
open PySem PySem.Spec PyProof.Rows L2
theorem tuple_mul1 (l : Addr) (items : Array Value) (n : Nat) (dd : Option Addr) (sl : Array (Option Value)) (x : Int) (u : Tok) (c0 : (decide (x < -(2 ^ 63)) || decide (x ≥ 2 ^ 63)) = false) (c1 : (items.isEmpty || x == 1) = true) :
    Meets (Builtin.«tuple.__mul__» ⟨[.ref l, .int x u], []⟩) (fun _ R s => s.heap.get? l = some { cls := .type "tuple", dict := dd, data := .seq items n, slots := sl } ∧
      R (.ok (.ret (.ref l))) s) :=
  .of_wp fun prog w A R s h => by
    obtain ⟨hp, g, d, tk, os⟩ := s
    obtain ⟨hl, h⟩ := h
    have f1 := AutoSeq1.idx_int
    wp_walk using wpAny_loadPart' hl
    repeat (first
      | (refine wpAny_ite_false (decide_eq_false (by rw [c0]; exact Bool.false_ne_true)) ?_; wp_walk using wpAny_loadPart' hl)
      | (refine wpAny_ite_true (decide_eq_true c1) ?_; wp_walk using wpAny_loadPart' hl))
    exact ⟨_, rfl, h⟩
def rRepT1 (K : PySem.W.Frag) : R2 := fun x y H Q => ∃ l xs, x = .ref l ∧ y = .int 1 ∧ SqT K H l xs ∧ Q (.ref l) H
section
variable {X : Cx} {K : PySem.W.Frag}
theorem op_repT1 : OpR X (binaryOp .Mult) (rRepT1 X.K) := by
  intro pins s σ H x y v u Q I rx ry h
  obtain ⟨l, xs, rfl, rfl, hT, q⟩ := h
  cases rx
  obtain ⟨t, rfl⟩ := ry
  obtain ⟨its, r, ⟨⟨cls, dd, data, sl⟩, ho, hc, n, hd⟩, hs⟩ := I.tuple hT
  simp only at hc hd
  subst hc hd
  have c0 : (decide ((1 : Int) < -(2 ^ 63)) || decide ((1 : Int) ≥ 2 ^ 63)) = false := by decide
  have c1 : (its.toArray.isEmpty || (1 : Int) == 1) = true := by simp
  refine wpAny_binaryOp_repeat_ref (T := "tuple") (U := "int") (by decide) ⟨_, ho, rfl⟩ (fun s' => typeIs_int s' 1 t) noFill_tuple_mul F.fills_int_mul F.slot_int_rmul repeat_tuple F.slot_int_index.lookup
    (call_meets F.slot_int_rmul (typeIs_int s 1 t) F.entry_int_rmul (F.args_int_rmul_2 _ _) (int_rmul_tuple 1 t l its.toArray n dd sl)
      ⟨ho, rfl, ⟨_, ho, rfl⟩, call_meets F.slot_tuple_mul ⟨_, ho, rfl⟩ F.entry_tuple_mul (F.args_tuple_mul_2 _ _) (tuple_mul1 l its.toArray n dd sl 1 t c0 c1) ⟨ho, ?_⟩⟩)
  exact ⟨.ref l, H, I, rfl, q⟩
/-- +, * of this law: tuples once, too -/
@[irreducible] def rMulU1 (K : PySem.W.Frag) : R2 := fun x y H Q => rMulU K x y H Q ∨ rRepT1 K x y H Q
theorem u_mul1 (hK : X.K = K := by rfl) : OpR X (binaryOp .Mult) (rMulU1 K) := by
  subst hK
  unfold rMulU1
  exact (u_mul rfl).or op_repT1
end
end VB
namespace K01
open PySem PySem.Spec PyProof.Rows L2 VB BM
theorem ex_b {a : Addr} {H0 H H' : Hp} (e : Evl.Ex H0 H) (h : H0 a = none) (x : Exb a H H') : Evl.Ex H0 H' := fun b o q => x b o (fun z => by rw [z, h] at q; cases q) (e b o q)
theorem same_eq {x : V} {A B : Prop} (h : A) : if decide (x = x) = true then A else B := by
  rw [decide_eq_true rfl]
  exact iteT h
theorem ones_ok {k : Nat} (h : k ≤ 4096) : 0 ≤ (2 : Int) ^ k - 1 ∧ (2 : Int) ^ k - 1 < MM := by
  have p := pow_nn k
  have q : (2 : Int) ^ k ≤ MM := pow_mono h
  omega
section
variable {P : Program} {w : World} {K : PySem.W.Frag} {mg : Str → Option Value} {base : Heap} {f : Addr} {fd : FuncData}
def spRight : Sp := fun vs H Q _ => ∃ (a : Addr) (n : Int), vs = [.ref a] ∧ Box H a n ∧ n < 60000000 ∧ ∀ H' : Hp, Exb a H H' → Q (.bl true) H'
theorem ok_right (T : Txt K mg) (F : FnP K "_law_right" s__law_right f fd) (C__law_two : Cal P w K mg base CX0 3 "_law_two" ["_law_box_here"] spTwo) (C__law_bits : Cal P w K mg base CX0 1 "_law_bits" ["_law_octets_here"] (spBits K))
    (C__law_fallen : Cal P w K mg base CX0 1 "_law_fallen" ["_law_old", "_law_new"] (spFallen K)) (C__law_mask : Cal P w K mg base CX0 2 "_law_mask" ["_law_box_here", "_law_many"] spMask)
    (C__law_left_right : Cal P w K mg base CX0 8 "_law_left_right" ["_law_way", "_law_old", "_law_new", "_law_masks"] (spLR K)) (C__law_told_right : Cal P w K mg base CX0 7 "_law_told_right" ["_law_old", "_law_new"] (spTold K))
    (C_changed : Cal P w K mg base CX0 6 "changed" ["old", "new", "mask"] (spChanged K)) :
    Fg P w K mg base CX0 9 f fd ["_law_box_here"] spRight := by
  refine fg_of F sc__law_right (fun vs H Q E h => ?_) (fun cdv A outer s H vs Q E hr h => ⟨_, (PSs.nox (pss_cons (ps_asg (pe_cal C__law_two hr.le pass0 (pa_cons (pv 0) pa_nil)) (pg_tupU (K := K) (n := 3) rfl (pgs_cons (pg_name (i := 1) sc__law_right.nd rfl (by first | exact Or.inl rfl | exact Or.inr rfl)) (pgs_cons (pg_name (i := 2) sc__law_right.nd rfl (by first | exact Or.inl rfl | exact Or.inr rfl)) (pgs_cons (pg_name (i := 3) sc__law_right.nd rfl (by first | exact Or.inl rfl | exact Or.inr rfl)) pgs_nil)))))
  (pss_cons (ps_par (i := 4) (j := 5) rfl sc__law_right.nd rfl rfl (by decide) rfl rfl (pa_cons (pe_cal C__law_bits hr.le pass0 (pa_cons (pv 2) pa_nil)) (pa_cons (pe_cal C__law_bits hr.le pass0 (pa_cons (pv 3) pa_nil)) pa_nil)) (by rfl))
  (pss_cons (ps_set (i := 6) sc__law_right.nd rfl (by first | exact Or.inl rfl | exact Or.inr rfl) (pe_op (u_add (K := K)) (pe_callB (u_len (K := K)) (by rfl) T.f_len (by decide +kernel) (pa_cons (pe_cal C__law_fallen hr.le pass0 (pa_cons (pv 4) (pa_cons (pv 5) pa_nil))) pa_nil)) (pe_callB (u_len (K := K)) (by rfl) T.f_len (by decide +kernel) (pa_cons (pe_cal C__law_fallen hr.le pass0 (pa_cons (pv 5) (pa_cons (pv 4) pa_nil))) pa_nil))))
  (pss_cons (ps_setLc (i := 7) (own := [("_law_k", 10)]) rfl sc__law_right.nd rfl rfl (sw_true rfl rfl rfl (by decide +kernel)) (pi_range1 rfl T.f_range (pa_cons pe_int pa_nil)) (blkOk_by (own := [("_law_k", 10)]) (N := ["_law_box_here", "_law_way", "_law_one", "_law_other", "_law_old", "_law_new", "_law_many", "_law_masks", "_law_due", "_law_ends", "_law_k"]) (sc := defScope s__law_right) (by decide +kernel)) (fun _ _ _ _ _ => (pg_name (i := 10) sc__law_right.nd rfl (by first | exact Or.inl rfl | exact Or.inr rfl))) (fun _ _ _ _ _ => pts_nil) (fun _ _ _ _ _ => (pe_cal C__law_mask hr.le pass0 (pa_cons (pv 0) (pa_cons (pv 6) pa_nil)))))
  (pss_cons (ps_if (PW.pt (pw_or (pt_not (pt_tru (K := K) (pe_cal C__law_told_right hr.le pass0 (pa_cons (pv 4) (pa_cons (pv 5) pa_nil))) (by intro _; rfl))) (pw_or1 (pt_not (pt_tru (K := K) (pe_cal C__law_left_right hr.le pass0 (pa_cons (pv 1) (pa_cons (pv 4) (pa_cons (pv 5) (pa_cons (pv 7) pa_nil))))) (by intro _; rfl))))))
  (pss_one (ps_ret pe_bl)) pss_nil)
  (pss_cons (ps_set (i := 8) sc__law_right.nd rfl (by first | exact Or.inl rfl | exact Or.inr rfl) (pe_callB (u_repr (K := K) hr) (by rfl) T.f_repr (by decide +kernel) (pa_cons (pe_lst (pa_cons (pe_callTy (u_tupI (K := K)) (by rfl) T.f_tuple (by decide +kernel) (pa_cons (pv 2) pa_nil)) (pa_cons (pe_callTy (u_tupI (K := K)) (by rfl) T.f_tuple (by decide +kernel) (pa_cons (pv 3) pa_nil)) (pa_cons (pe_callTy (u_tupI (K := K)) (by rfl) T.f_tuple (by decide +kernel) (pa_cons (pv 3) pa_nil)) pa_nil)))) pa_nil)))
  (pss_cons (ps_set (i := 9) sc__law_right.nd rfl (by first | exact Or.inl rfl | exact Or.inr rfl) (pe_lst (pa_cons (pe_cal C_changed hr.le pass0 (pa_cons (pv 2) (pa_cons (pv 3) (pa_cons pe_int pa_nil)))) (pa_cons (pe_cal C_changed hr.le pass0 (pa_cons (pv 2) (pa_cons (pv 3) (pa_cons (pe_op op_sub (pe_op (op_oneShl.or op_shl) pe_int pe_int) pe_int) pa_nil)))) (pa_cons (pe_cal C_changed hr.le pass0 (pa_cons (pv 2) (pa_cons (pv 3) (pa_cons (pe_op op_sub (pe_op (op_oneShl.or op_shl) pe_int (pv 6)) pe_int) pa_nil)))) pa_nil)))))
  (pss_cons (ps_if (pt_cmpR (u_ne (K := K) hr) (pe_callB (u_repr (K := K) hr) (by rfl) T.f_repr (by decide +kernel) (pa_cons (pv 9) pa_nil)) (pv 8) (nomark _))
  (pss_one (ps_ret pe_bl)) pss_nil)
  (pss_one (ps_ret (pe_and (pe_cmpR (u_eq (K := K) hr) (pe_callB (u_repr (K := K) hr) (by rfl) T.f_repr (by decide +kernel) (pa_cons (pe_cal C_changed hr.le pass0 (pa_cons (pv 3) (pa_cons (pv 2) (pa_cons (pe_op (op_oneShl.or op_shl) pe_int (pv 6)) pa_nil)))) pa_nil)) (pe_callB (u_repr (K := K) hr) (by rfl) T.f_repr (by decide +kernel) (pa_cons (pe_callTy (u_tupI (K := K)) (by rfl) T.f_tuple (by decide +kernel) (pa_cons (pv 3) pa_nil)) pa_nil)) (nomark _)) (pe_one (pe_cal C__law_told_right hr.le pass0 (pa_cons (pv 5) (pa_cons (pv 4) pa_nil)))))))))))))))), ?_⟩)
  · obtain ⟨a, n, rfl, _⟩ := h
    rfl
  · obtain ⟨a, n, rfl, B, hn, q⟩ := h
    refine ⟨_, rfl, a, n, rfl, B, by omega, fun p da db H1 way xs ys W => ⟨p, _, rfl, SqT.of W.tup, rfl, _, _, rfl, _, _, rfl, _, _, rfl, rfl, ?_⟩⟩
    obtain ⟨_, h1, h2, ⟨_, na, nb⟩, ox, oy, hl, hm, dn, up, _, E1, B1⟩ := W
    have lx := bitsL_len xs
    have ly := bitsL_len ys
    refine ⟨_, rfl, da, xs, false, rfl, Sv.lst h1, by omega, fun p4 H2 n4 e2 h4 => ?_⟩
    refine ⟨_, rfl, db, ys, false, rfl, Sv.lst (e2 _ _ h2), by omega, fun p5 H3 n5 e3 h5 => ⟨_, _, rfl, ?_⟩⟩
    have a4 := B1.at n4
    have a5 := (B1.ex e2).at n5
    have e := e2.trans e3
    have B3 := B1.ex e
    have E3 := E1.trans (Exb.of e)
    have h1 := e _ _ h1
    have h2 := e _ _ h2
    have h4 := e3 _ _ h4
    clear e2 e3 e B1 E1 n4 n5
    have lF : (fallenL 0 (bitsL xs) (bitsL ys)).length ≤ 320 := Nat.le_trans (fallen_len _ _ _) (by omega)
    have lG : (fallenL 0 (bitsL ys) (bitsL xs)).length ≤ 320 := Nat.le_trans (fallen_len _ _ _) (by omega)
    have u1 := unlike_eq (bitsL xs) (bitsL ys) 0 0 (bitsL_bit xs) (bitsL_bit ys) (by omega)
    have u2 := unlike_eq (bitsL ys) (bitsL xs) 0 0 (bitsL_bit ys) (bitsL_bit xs) (by omega)
    -- how many are unlike
    refine ⟨_, rfl, _, rfl, p4, p5, _, _, rfl, SqL.of h4, SqL.of h5, by omega, by omega, fun r1 H4 _ e4 hr1 => ⟨_, _, rfl, .inl ⟨_, SqL.of hr1, rfl⟩, ?_⟩⟩
    refine ⟨_, rfl, _, rfl, p5, p4, _, _, rfl, SqL.of (e4 _ _ h5), SqL.of (e4 _ _ h4), by omega, by omega, fun r2 H5 _ e5 hr2 => ⟨_, _, rfl, .inl ⟨_, SqL.of hr2, rfl⟩, .inl ⟨_, _, rfl, rfl, ?_⟩⟩⟩
    dsimp only
    have hN : ((IV (fallenL 0 (bitsL xs) (bitsL ys))).length : Int) + ((IV (fallenL 0 (bitsL ys) (bitsL xs))).length : Int) = ((unlike (bitsL xs) (bitsL ys) : Nat) : Int) := by
      rw [iv_len, iv_len]
      omega
    have e := e4.trans e5
    have B5 := B3.ex e
    have E5 := E3.trans (Exb.of e)
    have h1 := e _ _ h1
    have h2 := e _ _ h2
    have h4 := e _ _ h4
    have h5 := e _ _ h5
    clear e4 e5 e B3 E3 hr1 hr2
    generalize unlike (bitsL xs) (bitsL ys) = N at u1 hN
    have hU : unlike (bitsL ys) (bitsL xs) = N := by omega
    have hU1 : unlike (bitsL xs) (bitsL ys) = N := by
      rw [unlike_eq (bitsL xs) (bitsL ys) 0 0 (bitsL_bit xs) (bitsL_bit ys) (by omega)]
      omega
    generalize ((IV (fallenL 0 (bitsL xs) (bitsL ys))).length : Int) + ((IV (fallenL 0 (bitsL ys) (bitsL xs))).length : Int) = NN at hN ⊢
    subst hN
    -- four masks
    refine ⟨4, rfl, by omega, by omega, fun D hD => ?_⟩
    have aD := B5.at hD
    refine lc_range (lo := 0) (n := 4) (fun i H' => (∀ b o, b ≠ a → b ≠ D → H5 b = some o → H' b = some o) ∧ Box H' a (n + 250 + 9 * (i : Nat)) ∧ ∃ ms : List Int, ms.length = i ∧ (∀ m ∈ ms, 0 ≤ m ∧ m < MM) ∧ H' D = some (.lst (IV ms)))
      ⟨fun b o nb nd e => by rw [upd_ne nd]; exact e, (B5.ex (Evl.Ex.new hD)).le (by omega), [], rfl, fun _ h => (by cases h), upd_same⟩ ?_ ?_
    · rintro i H6 hi ⟨e6, B6, ms, lm, hms, hD6⟩
      refine ⟨rfl, _, rfl, _, rfl, a, (N : Int), _, rfl, B6, by omega, by omega, by omega, fun m H7 m0 m1 e7 B7 => ⟨_, e7 D _ aD hD6, ?_, ?_⟩⟩
      · rw [iv_len, lm]
        exact Evl.sz_lt (by omega)
      · refine ⟨fun b o nb nd z => by rw [upd_ne nd]; exact e7 b o nb (e6 b o nb nd z), ?_, ms ++ [m], by simp [lm], ?_, by rw [upd_same, iv_snoc]⟩
        · obtain ⟨d, m', c, k, hb, r1, r2, r3, r4, r5⟩ := B7
          exact ⟨d, m', c, k, by rw [upd_ne (Ne.symm aD)]; exact hb, r1, r2, r3, r4, by omega⟩
        · intro x hx
          rcases List.mem_append.mp hx with z | z
          · exact hms x z
          · have ex : x = m := by simpa using z
            rw [ex]
            exact ⟨m0, m1⟩
    · rintro H6 ⟨e6, B6, ms, lm, hms, hD6⟩
      have kp : ∀ b o, b ≠ a → H5 b = some o → H6 b = some o := fun b o nb z => e6 b o nb (fun y => by rw [y, hD] at z; cases z) z
      have E6 : Exb a H H6 := E5.trans kp
      have h1 := kp _ _ na h1
      have h2 := kp _ _ nb h2
      have h4 := kp _ _ a4 h4
      have h5 := kp _ _ a5 h5
      clear e6 kp E5 hD aD B6 B5
      refine ⟨_, rfl, _, rfl, p4, p5, xs, ys, rfl, SqL.of h4, SqL.of h5, ox, oy, hl, by omega, fun H7 e7 => ⟨true, rfl, iteF ?_⟩⟩
      refine ⟨_, rfl, _, rfl, _, rfl, _, rfl, way, p4, p5, D, xs, ys, ms, rfl, SqL.of (e7 _ _ h4), SqL.of (e7 _ _ h5), SqL.of (e7 _ _ hD6), ox, oy, hl, by omega, hms, dn, up, fun H8 e8 => ⟨true, rfl, iteF ?_⟩⟩
      have e := e7.trans e8
      have h1 := e _ _ h1
      have h2 := e _ _ h2
      have h4 := e _ _ h4
      have h5 := e _ _ h5
      have E8 := E6.trans (Exb.of e)
      clear e e7 e8 E6 hD6
      have smx := sm_oct ox
      have smy := sm_oct oy
      have shD : Sh (.list [DT xs, DT ys, DT ys]) 2 120010 := by
        refine sh_list (n := 3) (h := 1) (b := 40000) (fun d hd => ?_) (by simp) |>.le
        simp only [List.mem_cons, List.not_mem_nil, or_false] at hd
        rcases hd with rfl | rfl | rfl
        · exact sh_t smx (by omega)
        · exact sh_t smy (by omega)
        · exact sh_t smy (by omega)
      -- what is due
      refine ⟨_, rfl, Sv.tupOf (Sv.lst h1) fun q1 H9 e9 T1 => ⟨_, rfl, Sv.tupOf (Sv.lst (e9 _ _ h2)) fun q2 H10 e10 T2 => ⟨_, rfl, Sv.tupOf (Sv.lst (e10 _ _ (e9 _ _ h2))) fun q3 H11 e11 T3 => ⟨by show 3 ≤ sizeLine; decide, fun L nL => ?_⟩⟩⟩⟩
      have eL := Evl.Ex.new (o := .lst [V.ref q1, V.ref q2, V.ref q3]) nL
      refine rp (.lst (SqL.of upd_same) (.cons (dp_t (Evl.ex_t ((e10.trans e11).trans eL) T1)) (.cons (dp_t (Evl.ex_t (e11.trans eL) T2)) (.cons (dp_t (Evl.ex_t eL T3)) .nil)))) shD ?_
      have e := ((e9.trans e10).trans e11).trans eL
      have h1 := e _ _ h1
      have h2 := e _ _ h2
      have h4 := e _ _ h4
      have h5 := e _ _ h5
      have E9 := E8.trans (Exb.of e)
      generalize upd H11 L (.lst [V.ref q1, V.ref q2, V.ref q3]) = H12 at h1 h2 h4 h5 E9 ⊢
      clear e e9 e10 e11 eL T1 T2 T3 nL E8
      -- the ends
      have hN : N ≤ 640 := by omega
      refine ⟨_, rfl, _, rfl, da, db, xs, ys, false, false, 0, rfl, Sv.lst h1, Sv.lst h2, ox, oy, hl, by omega, by omega, pow_nn 4096, fun c1 H13 n1 e1 hc1 => ?_⟩
      rw [turned_zero _ _ (by omega), octetsL_bitsL ox] at hc1
      refine ⟨_, rfl, _, rfl, .inl ⟨4096, rfl, rfl, by decide, _, _, rfl, rfl, da, db, xs, ys, false, false, _, rfl, Sv.lst (e1 _ _ h1), Sv.lst (e1 _ _ h2), ox, oy, hl, by omega, (ones_ok (k := 4096) (by omega)).1, (ones_ok (k := 4096) (by omega)).2, fun c2 H14 n2 e2 hc2 => ?_⟩⟩
      rw [turned_ones _ _ 4096 (by omega) (by omega), octetsL_bitsL oy] at hc2
      have e12 := e1.trans e2
      refine ⟨_, rfl, _, rfl, _, rfl, .inl ⟨N, rfl, rfl, by omega, _, _, rfl, rfl, da, db, xs, ys, false, false, _, rfl, Sv.lst (e12 _ _ h1), Sv.lst (e12 _ _ h2), ox, oy, hl, by omega, (ones_ok (k := N) (by omega)).1, (ones_ok (k := N) (by omega)).2, fun c3 H15 n3 e3 hc3 => ?_⟩⟩
      rw [turned_ones _ _ N (by omega) (by omega), octetsL_bitsL oy] at hc3
      refine ⟨by show 3 ≤ sizeLine; decide, fun L nL => ?_⟩
      have eL := Evl.Ex.new (o := .lst [V.ref c1, V.ref c2, V.ref c3]) nL
      have e := (e12.trans e3).trans eL
      have h1 := e _ _ h1
      have h2 := e _ _ h2
      have h4 := e _ _ h4
      have h5 := e _ _ h5
      have E10 := E9.trans (Exb.of e)
      have T1 := eL _ _ (e3 _ _ (e2 _ _ hc1))
      have T2 := eL _ _ (e3 _ _ hc2)
      have T3 := eL _ _ hc3
      refine ⟨_, rfl, rp (.lst (SqL.of upd_same) (.cons (dp_t (SqT.of T1)) (.cons (dp_t (SqT.of T2)) (.cons (dp_t (SqT.of T3)) .nil)))) shD ⟨_, rfl, .inl ⟨rfl, _, rfl, same_ne ?_⟩⟩⟩
      generalize upd H15 L (.lst [V.ref c1, V.ref c2, V.ref c3]) = H16 at h1 h2 h4 h5 E10 ⊢
      clear T1 T2 T3 eL e e12 e1 e2 e3 hc1 hc2 hc3 n1 n2 n3 nL E9
      -- beyond all of them
      have hP : (2 : Int) ^ N < MM := by
        have := MM_half (k := N) (by omega)
        have := pow_nn N
        omega
      refine ⟨_, rfl, _, rfl, _, rfl, .inl ⟨N, rfl, rfl, by omega, db, da, ys, xs, false, false, _, rfl, Sv.lst h2, Sv.lst h1, oy, ox, hl.symm, by omega, Int.le_of_lt (pow_nn N), hP, fun c4 H17 n4 e4 hc4 => ?_⟩⟩
      rw [turned_beyond _ _ N (by omega) (by omega), octetsL_bitsL oy] at hc4
      refine rp_t (SqT.of hc4) smy (by omega) ⟨_, rfl, Sv.tupOf (Sv.lst (e4 _ _ h2)) fun q4 H18 e5 T4 => rp_t T4 smy (by omega) (.inl ⟨rfl, _, rfl, same_eq ?_⟩)⟩
      have e := e4.trans e5
      exact ⟨_, rfl, _, rfl, p5, p4, ys, xs, rfl, SqL.of (e _ _ h5), SqL.of (e _ _ h4), oy, ox, hl.symm, by omega, fun H19 e6 => q _ (E10.trans (Exb.of (e.trans e6)))⟩
end
end K01
namespace K01
open PySem PySem.Spec PyProof.Rows L2 VB BM
theorem same_v {x y : V} {A B : Prop} (e : x = y) (h : B) : if (!decide (x = y)) = true then A else B := by
  subst e
  exact same_ne h
theorem bits_rep (o b : Int) (h : bitsOf o = List.replicate 8 b) : ∀ c : Nat, bitsL (List.replicate c o) = List.replicate (8 * c) b
  | 0 => rfl
  | c + 1 => by
    rw [List.replicate_succ, bitsL_cons, bits_rep o b h c, h, List.replicate_append_replicate]
    congr 1
    omega
theorem bits_ones (c : Nat) : bitsL (List.replicate c 255) = List.replicate (8 * c) 1 := bits_rep 255 1 (by decide) c
theorem bits_none (c : Nat) : bitsL (List.replicate c 0) = List.replicate (8 * c) 0 := bits_rep 0 0 (by decide) c
theorem oct_0 (c : Nat) : Oct (List.replicate c 0) := fun o h => by rw [List.eq_of_mem_replicate h]; omega
theorem zc_ones (n : Nat) : zc (List.replicate n 1) = 0 := by
  unfold zc
  rw [List.count_replicate]
  rfl
theorem zc_none (n : Nat) : zc (List.replicate n 0) = n := by
  unfold zc
  rw [List.count_replicate_self]
theorem le_rep : ∀ n : Nat, Le (List.replicate n 0) (List.replicate n 1)
  | 0 => Le.refl _
  | n + 1 => by
    rw [List.replicate_succ, List.replicate_succ]
    have := le_rep n
    simp [Le, this]
theorem fallen_rep : ∀ (n : Nat) (k : Int), fallenL k (List.replicate n 1) (List.replicate n 0) = (List.range n).map fun (i : Nat) => k + (i : Int)
  | 0, k => rfl
  | n + 1, k => by
    rw [List.replicate_succ, List.replicate_succ, fallenL, if_pos ⟨rfl, rfl⟩, fallen_rep n (k + 1), List.range_succ_eq_map, List.map_cons, List.map_map]
    congr 1
    · simp
    · apply List.map_congr_left
      intro i _
      simp
      omega
theorem due_long {c n : Nat} {dd : List Int} (hn : n = 512) (h : n ≤ c) (hd : dd = List.replicate n 0 ++ List.replicate (c - n) 255) : octetsL (turned (bitsL (List.replicate c 255)) (bitsL (List.replicate c 0)) (2 ^ 4096 - 1)) = dd := by
  subst hd
  have n8 : 4096 = 8 * n := by omega
  rw [n8]
  clear n8 hn
  have e : 8 * c = 8 * n + 8 * (c - n) := by omega
  rw [bits_ones, bits_none, e, turned_first]
  have e2 : List.replicate (8 * n) (0 : Int) ++ List.replicate (8 * (c - n)) 1 = bitsL (List.replicate n 0 ++ List.replicate (c - n) 255) := by
    rw [bitsL_append, bits_none, bits_ones]
  rw [e2, octetsL_bitsL]
  intro o ho
  rcases List.mem_append.mp ho with z | z
  · exact oct_0 _ o z
  · exact oct_255 _ o z
section
variable {P : Program} {w : World} {K : PySem.W.Frag} {mg : Str → Option Value} {base : Heap} {f : Addr} {fd : FuncData}
theorem rep_flat (k : Nat) (o : Int) : (List.replicate k [V.int o]).flatten = IV (List.replicate k o) := by
  rw [iv_rep]
  simp
/-- (o,) * k -/
theorem mulT1 {H : Hp} {t : Addr} {k o : Int} {Q : VK} (S : SqT K H t [V.int o]) (h1 : 1 ≤ k) (h2 : k ≤ 1000) (q : ∀ (n : Nat) p H', (n : Int) = k → Evl.Ex H H' → SqT K H' p (IV (List.replicate n o)) → Q (.ref p) H') : rMulU1 K (.ref t) (.int k) H Q := by
  unfold rMulU1
  by_cases e : k = 1
  · subst e
    exact .inr ⟨t, _, rfl, rfl, S, q 1 t H rfl (Evl.Ex.refl _) S⟩
  · refine .inl (.inr (.inr ⟨t, k, _, rfl, rfl, S, by simp, by omega, h2, by simp, fun p hp => q k.toNat p _ (by omega) (Evl.Ex.new hp) ?_⟩))
    rw [rep_flat]
    exact SqT.of upd_same
theorem mulL1 {H : Hp} {t : Addr} {k o : Int} {Q : VK} (S : H t = some (.lst [V.int o])) (h1 : 1 ≤ k) (h2 : k ≤ 1000) (q : ∀ (n : Nat) p H', (n : Int) = k → H p = none → Evl.Ex H H' → H' p = some (.lst (IV (List.replicate n o))) → Q (.ref p) H') : rMulU1 K (.ref t) (.int k) H Q := by
  unfold rMulU1
  refine .inl (.inr (.inl ⟨t, _, _, rfl, rfl, S, by omega, by omega, ?_, fun p hp => q k.toNat p _ (by omega) hp (Evl.Ex.new hp) ?_⟩))
  · exact Evl.sz_of (by simp; omega)
  · rw [upd_same, rep_flat]
theorem mulI1 {H : Hp} {i j : Int} {Q : VK} (c : CMulX i j) (q : Q (.int (i * j)) H) : rMulU1 K (.int i) (.int j) H Q := by
  unfold rMulU1
  exact .inl (.inl ⟨i, j, rfl, rfl, c, q⟩)
theorem rg_iv (n : Nat) : rgV 0 (n : Int) = IV ((List.range n).map fun (i : Nat) => (0 : Int) + (i : Int)) := by
  have e : ((n : Int) - 0).toNat = n := by omega
  have e2 : ∀ l : List Int, IV l = l.map V.int := fun _ => rfl
  unfold rgV
  rw [e, e2, List.map_map]
  rfl
def spLong : Sp := fun vs H Q _ => ∃ c : Nat, vs = [.int (c : Int)] ∧ 513 ≤ c ∧ c ≤ 602 ∧ RV (.bl true) H Q
theorem ok_long (T : Txt K mg) (F : FnP K "_law_long_right" s__law_long_right f fd) (C_changed : Cal P w K mg base CX0 6 "changed" ["old", "new", "mask"] (spChanged K)) (C_zeros : Cal P w K mg base CX0 6 "zeros" ["octets"] (spZeros K))
    (C_falls : Cal P w K mg base CX0 6 "falls" ["old", "new"] (spFalls K)) (C_rises : Cal P w K mg base CX0 6 "rises" ["old", "new"] (spRises K)) :
    Fg P w K mg base CX0 7 f fd ["_law_size"] spLong := by
  refine fg_of F sc__law_long_right (fun vs H Q E h => ?_) (fun cdv A outer s H vs Q E hr h => ⟨_, (PSs.nox (pss_cons (ps_par (i := 1) (j := 2) rfl sc__law_long_right.nd rfl rfl (by decide) rfl rfl (pa_cons (pe_op (u_mul1 (K := K)) (pe_lst (pa_cons pe_int pa_nil)) (pv 0)) (pa_cons (pe_op (u_mul1 (K := K)) (pe_tup (pa_cons pe_int pa_nil)) (pv 0)) pa_nil)) (by rfl))
  (pss_cons (ps_if (pt_cmpR (u_ne (K := K) hr) (pe_callB (u_repr (K := K) hr) (by rfl) T.f_repr (by decide +kernel) (pa_cons (pe_cal C_changed hr.le pass0 (pa_cons (pv 1) (pa_cons (pv 2) (pa_cons (pe_op op_sub (pe_op (op_oneShl.or op_shl) pe_int pe_int) pe_int) pa_nil)))) pa_nil)) (pe_callB (u_repr (K := K) hr) (by rfl) T.f_repr (by decide +kernel) (pa_cons (pe_op (u_add (K := K)) (pe_op (u_mul1 (K := K)) (pe_tup (pa_cons pe_int pa_nil)) pe_int) (pe_op (u_mul1 (K := K)) (pe_tup (pa_cons pe_int pa_nil)) (pe_op op_sub (pv 0) pe_int))) pa_nil)) (nomark _))
  (pss_one (ps_ret pe_bl)) pss_nil)
  (pss_cons (ps_if (pt_cmpR (u_ne (K := K) hr) (pe_callB (u_repr (K := K) hr) (by rfl) T.f_repr (by decide +kernel) (pa_cons (pe_lst (pa_cons (pe_cal C_zeros hr.le pass0 (pa_cons (pv 2) pa_nil)) (pa_cons (pe_cal C_zeros hr.le pass0 (pa_cons (pv 1) pa_nil)) pa_nil))) pa_nil)) (pe_callB (u_repr (K := K) hr) (by rfl) T.f_repr (by decide +kernel) (pa_cons (pe_lst (pa_cons (pe_op (u_mul1 (K := K)) pe_int (pv 0)) (pa_cons pe_int pa_nil))) pa_nil)) (nomark _))
  (pss_one (ps_ret pe_bl)) pss_nil)
  (pss_one (ps_ret (pe_cmpR (u_eq (K := K) hr) (pe_callB (u_repr (K := K) hr) (by rfl) T.f_repr (by decide +kernel) (pa_cons (pe_lst (pa_cons (pe_cal C_falls hr.le pass0 (pa_cons (pv 1) (pa_cons (pv 2) pa_nil))) (pa_cons (pe_cal C_rises hr.le pass0 (pa_cons (pv 1) (pa_cons (pv 2) pa_nil))) pa_nil))) pa_nil)) (pe_callB (u_repr (K := K) hr) (by rfl) T.f_repr (by decide +kernel) (pa_cons (pe_lst (pa_cons (pe_listRg rfl rfl T.f_list (prg_1 rfl T.f_range (pe_op (u_mul1 (K := K)) pe_int (pv 0)))) (pa_cons (pe_lst pa_nil) pa_nil))) pa_nil)) (nomark _)))))))), ?_⟩)
  · obtain ⟨c, rfl, _⟩ := h
    rfl
  · obtain ⟨c, rfl, hc1, hc2, q⟩ := h
    refine ⟨by show 1 ≤ sizeLine; decide, fun l0 m0 => ⟨_, rfl, mulL1 upd_same (by omega) (by omega) fun c' p1 H1 hc n1 e1 h1 => ?_⟩⟩
    obtain rfl : c' = c := by omega
    have E1 := (Evl.Ex.new (o := .lst [V.int 255]) m0).trans e1
    refine ⟨by show 1 ≤ sizeLine; decide, fun l2 m2 => ⟨_, rfl, mulT1 (SqT.of upd_same) (by omega) (by omega) fun c'' p2 H2 hc' e2 h2 => ⟨_, _, rfl, ?_⟩⟩⟩
    obtain rfl : c'' = c' := by omega
    have ez := (Evl.Ex.new (o := .tup [V.int 0]) m2).trans e2
    have E2 := E1.trans ez
    have h1 := ez _ _ h1
    clear ez e1 e2 m0 m2 n1 E1
    obtain ⟨n5, h5⟩ : ∃ n5 : Nat, n5 = 512 := ⟨_, rfl⟩
    obtain ⟨dd, hdd⟩ : ∃ dd, dd = List.replicate n5 (0 : Int) ++ List.replicate (c'' - n5) 255 := ⟨_, rfl⟩
    refine ⟨_, rfl, _, rfl, .inl ⟨4096, rfl, rfl, by decide, _, _, rfl, rfl, p1, p2, _, _, false, true, _, rfl, Sv.lst h1, h2, oct_255 c'', oct_0 c'', by simp, by simp; omega, (ones_ok (k := 4096) (by omega)).1, (ones_ok (k := 4096) (by omega)).2, fun p3 H3 n3 e3 h3 => ?_⟩⟩
    rw [due_long h5 (by omega) hdd] at h3
    have E3 := E2.trans e3
    have smd : Sm dd := by
      rw [hdd]
      intro o ho
      rcases List.mem_append.mp ho with z | z
      · exact sm_oct (oct_0 _) o z
      · exact sm_oct (oct_255 _) o z
    have ld : dd.length ≤ 6000 := by
      rw [hdd, List.length_append, List.length_replicate, List.length_replicate]
      omega
    refine rp_t (SqT.of h3) smd ld ⟨by show 1 ≤ sizeLine; decide, fun t4 m4 => mulT1 (SqT.of upd_same) (by omega) (by omega) fun k4 p4 H4 hk4 e4 h4 => ⟨by show 1 ≤ sizeLine; decide, fun t5 m5 => ⟨_, rfl, _, _, rfl, rfl, mulT1 (SqT.of upd_same) (by omega) (by omega) fun k5 p5 H5 hk5 e5 h5' => ?_⟩⟩⟩
    obtain rfl : k4 = n5 := by omega
    obtain rfl : k5 = c'' - k4 := by omega
    have e6 := (Evl.Ex.new (o := .tup [V.int 255]) m5).trans e5
    have e7 := ((Evl.Ex.new (o := .tup [V.int 0]) m4).trans e4).trans e6
    have ed : IV (List.replicate k4 0) ++ IV (List.replicate (c'' - k4) 255) = IV dd := by
      rw [hdd, ← List.map_append]
    have hl4 : (IV (List.replicate k4 0)).length = k4 := by rw [iv_len, List.length_replicate]
    have hl5 : (IV (List.replicate (c'' - k4) 255)).length = c'' - k4 := by rw [iv_len, List.length_replicate]
    refine .inr (.inr ⟨p4, p5, _, _, rfl, rfl, Evl.ex_t e6 h4, h5', ?_, ?_, fun z => ?_, fun _ p6 m6 => ?_⟩)
    · intro z
      rw [z] at hl4
      simp at hl4
      omega
    · rw [hl4, hl5]
      exact Evl.sz_of (by omega)
    · exfalso
      rw [z] at hl5
      simp at hl5
      omega
    rw [ed]
    refine rp_t (SqT.of upd_same) smd ld (.inl ⟨rfl, _, rfl, same_ne ?_⟩)
    have e8 := (e3.trans e7).trans (Evl.Ex.new (o := .tup (IV dd)) m6)
    have E8 := E2.trans e8
    have h1 := e8 _ _ h1
    have h2 := Evl.ex_t e8 h2
    generalize upd H5 p6 (.tup (IV dd)) = H6 at h1 h2 E8 ⊢
    clear e3 e4 e5 e6 e7 e8 m4 m5 m6 E2 E3 h3 n3 h4 h5' hl4 hl5 ed
    have z0 : zc (bitsL (List.replicate c'' 0)) = 8 * (c'' : Int) := by
      rw [bits_none, zc_none]
      omega
    have z1 : zc (bitsL (List.replicate c'' 255)) = 0 := by rw [bits_ones, zc_ones]
    have sz : Sm [zc (bitsL (List.replicate c'' 0)), zc (bitsL (List.replicate c'' 255))] := by
      rw [z0, z1]
      intro o ho
      simp only [List.mem_cons, List.not_mem_nil, or_false] at ho
      omega
    have sz2 : Sm [8 * (c'' : Int), 0] := by
      rw [z0, z1] at sz
      exact sz
    have lc : (List.replicate c'' (0 : Int)).length ≤ 700 := by rw [List.length_replicate]; omega
    have lc2 : (List.replicate c'' (255 : Int)).length ≤ 700 := by rw [List.length_replicate]; omega
    have cm : CMulX 8 (c'' : Int) := mulx_ok (a := 4) (b := 10) (by decide) (by omega) (by decide)
    refine ⟨_, rfl, p2, _, true, rfl, h2, oct_0 c'', lc, fun H7 e7 => ⟨_, rfl, p1, _, false, rfl, Sv.lst (e7 _ _ h1), oct_255 c'', lc2, fun H8 e8 => ⟨by show 2 ≤ sizeLine; decide, fun L nL => ?_⟩⟩⟩
    refine rp_l (ns := [zc (bitsL (List.replicate c'' 0)), zc (bitsL (List.replicate c'' 255))]) (SqL.of upd_same) sz (by show 2 ≤ 6000; omega) ⟨_, rfl, mulI1 cm ⟨by show 2 ≤ sizeLine; decide, fun L2 nL2 => ?_⟩⟩
    refine rp_l (ns := [8 * (c'' : Int), 0]) (SqL.of upd_same) sz2 (by show 2 ≤ 6000; omega) (.inl ⟨rfl, _, rfl, same_v (by rw [z0, z1]) ?_⟩)
    have e9 := ((e7.trans e8).trans (Evl.Ex.new (o := .lst [V.int (zc (bitsL (List.replicate c'' 0))), V.int (zc (bitsL (List.replicate c'' 255)))]) nL)).trans (Evl.Ex.new (o := .lst [V.int (8 * (c'' : Int)), V.int 0]) nL2)
    have E9 := E8.trans e9
    have h1 := e9 _ _ h1
    have h2 := Evl.ex_t e9 h2
    generalize upd (upd H8 L (.lst [V.int (zc (bitsL (List.replicate c'' 0))), V.int (zc (bitsL (List.replicate c'' 255)))])) L2 (.lst [V.int (8 * (c'' : Int)), V.int 0]) = H9 at h1 h2 E9 ⊢
    clear e7 e8 e9 nL nL2 E8
    have lcc : (List.replicate c'' (255 : Int)).length = (List.replicate c'' (0 : Int)).length := by rw [List.length_replicate, List.length_replicate]
    obtain ⟨ff, hff⟩ : ∃ ff : List Int, ff = (List.range (8 * c'')).map fun (i : Nat) => (0 : Int) + (i : Int) := ⟨_, rfl⟩
    have lf : ff.length ≤ 6000 := by
      rw [hff, List.length_map, List.length_range]
      omega
    have sf : Sm ff := by
      rw [hff]
      intro o ho
      obtain ⟨i, hi, rfl⟩ := List.mem_map.mp ho
      have := List.mem_range.mp hi
      omega
    have sn : Sm [] := fun o ho => by cases ho
    have shF : Sh (.list [DL ff, DL []]) 2 120010 := by
      refine sh_list (n := 2) (h := 1) (b := 40000) (fun d hd => ?_) (by simp) |>.le
      simp only [List.mem_cons, List.not_mem_nil, or_false] at hd
      rcases hd with rfl | rfl
      · exact sh_l sf lf
      · exact sh_l sn (by simp)
    refine ⟨_, rfl, _, rfl, p1, p2, _, _, false, true, rfl, Sv.lst h1, h2, oct_255 c'', oct_0 c'', lcc, lc2, fun p7 H10 n7 e7 h7 => ?_⟩
    rw [bits_ones, bits_none, fallen_rep, ← hff] at h7
    refine ⟨_, rfl, _, rfl, p1, p2, _, _, false, true, rfl, Sv.lst (e7 _ _ h1), Evl.ex_t e7 h2, oct_255 c'', oct_0 c'', lcc, lc2, fun p8 H11 n8 e8 h8 => ?_⟩
    rw [bits_ones, bits_none, fallen_none 0 (le_rep _)] at h8
    refine ⟨by show 2 ≤ sizeLine; decide, fun L nL => ?_⟩
    have eL := Evl.Ex.new (o := .lst [V.ref p7, V.ref p8]) nL
    refine rp (.lst (SqL.of upd_same) (.cons (dp_l (SqL.of (eL _ _ (e8 _ _ h7)))) (.cons (dp_l (ns := []) (SqL.of (eL _ _ h8))) .nil))) shF ?_
    refine ⟨_, rfl, mulI1 cm ⟨_, rfl, RgOk.of_le (by omega) (by omega) (by omega) (by omega), fun q9 n9 => ?_⟩⟩
    have eR : rgV 0 (8 * (c'' : Int)) = IV ff := by
      have := rg_iv (8 * c'')
      rw [← hff] at this
      rw [← this]
      congr 1
    rw [eR]
    have e9 := Evl.Ex.new (o := .lst (IV ff)) n9
    refine ⟨by show 0 ≤ sizeLine; decide, fun L0 n0 => ⟨by show 2 ≤ sizeLine; decide, fun L3 n3 => ?_⟩⟩
    have e10 := Evl.Ex.new (o := .lst []) n0
    have e11 := Evl.Ex.new (o := .lst [V.ref q9, V.ref L0]) n3
    refine rp (.lst (SqL.of upd_same) (.cons (dp_l (SqL.of ((e10.trans e11) _ _ upd_same))) (.cons (dp_l (ns := []) (SqL.of (e11 _ _ upd_same))) .nil))) shF (.inl ⟨rfl, ?_⟩)
    rw [decide_eq_true rfl]
    exact q _ (E9.trans ((((e7.trans e8).trans eL).trans e9).trans (e10.trans e11)))
end
end K01
namespace K01
open PySem PySem.Spec PyProof.Rows L2 VB BM
section
variable {P : Program} {w : World} {K : PySem.W.Frag} {mg : Str → Option Value} {base : Heap} {f : Addr} {fd : FuncData}
def spLaw (K : PySem.W.Frag) : Sp := fun vs H Q _ => ∃ (a : Addr) (ns : List Int), vs = [.ref a] ∧ SqL K H a (ns.map V.int) ∧ ns.length ≤ 1000 ∧ RV (.bl true) H Q
theorem ok_law (T : Txt K mg) (F : FnP K "law" s_law f fd) (C__law_right : Cal P w K mg base CX0 9 "_law_right" ["_law_box_here"] spRight) (C__law_box : Cal P w K mg base CX0 1 "_law_box" ["_law_great"] spBox)
    (C__law_cell : Cal P w K mg base CX0 1 "_law_cell" ["_law_script", "_law_k"] (spCell K)) (C__law_long_right : Cal P w K mg base CX0 7 "_law_long_right" ["_law_size"] spLong) (C__law_take : Cal P w K mg base CX0 1 "_law_take" ["_law_box_here", "_law_many"] spTake) :
    Fg P w K mg base CX0 10 f fd ["_law_script"] (spLaw K) := by
  refine fg_of F sc_law (fun vs H Q E h => ?_) (fun cdv A outer s H vs Q E hr h => ⟨_, (PSs.nox (pss_cons (ps_for PassesOwn.never rfl (pi_range1 rfl T.f_range (pa_cons (pe_callB (call_max2 rfl) (by rfl) T.f_max (by decide +kernel) (pa_cons pe_int (pa_cons (pe_callB (call_min2 rfl) (by rfl) T.f_min (by decide +kernel) (pa_cons pe_int (pa_cons (pe_callB (u_len (K := K)) (by rfl) T.f_len (by decide +kernel) (pa_cons (pv 0) pa_nil)) pa_nil))) pa_nil))) pa_nil)) (pg_name (i := 1) sc_law.nd rfl (by first | exact Or.inl rfl | exact Or.inr rfl))
  (pss_one (ps_if (pt_not (pt_tru (K := K) (pe_cal C__law_right hr.le pass0 (pa_cons (pe_cal C__law_box hr.le pass0 (pa_cons (pe_cal C__law_cell hr.le pass0 (pa_cons (pv 0) (pa_cons (pv 1) pa_nil))) pa_nil)) pa_nil)) (by intro _; rfl)))
  (pss_one (ps_ret pe_bl)) pss_nil)))
  (pss_one (ps_ret (pe_cal C__law_long_right hr.le pass0 (pa_cons (pe_op (u_add (K := K)) pe_int (pe_cal C__law_take hr.le pass0 (pa_cons (pe_cal C__law_box hr.le pass0 (pa_cons (pe_cal C__law_cell hr.le pass0 (pa_cons (pv 0) (pa_cons pe_int pa_nil))) pa_nil)) (pa_cons pe_int pa_nil)))) pa_nil)))))), ?_⟩)
  · obtain ⟨a, ns, rfl, _⟩ := h
    rfl
  · obtain ⟨a, ns, rfl, S, hl, q⟩ := h
    have lit : ∀ x : Int, 0 ≤ (if (if x < 4 then x else 4) > 2 then (if x < 4 then x else 4) else 2) ∧ (if (if x < 4 then x else 4) > 2 then (if x < 4 then x else 4) else 2) ≤ 4 := by
      intro x
      constructor <;> (repeat' split) <;> omega
    refine ⟨_, rfl, _, _, rfl, .inl ⟨_, S, rfl⟩, _, _, rfl, _, _, rfl, _, rfl, by have := lit ((IV ns).length : Int); omega, by have := lit ((IV ns).length : Int); omega, ?_⟩
    have rl := lit ((IV ns).length : Int)
    generalize (if (if ((IV ns).length : Int) < 4 then ((IV ns).length : Int) else 4) > 2 then (if ((IV ns).length : Int) < 4 then ((IV ns).length : Int) else 4) else 2) = m at rl ⊢
    refine for_range (lo := 0) (n := m.toNat) (fun i σ H' => ∃ v : Option V, σ = [some (.ref a), v] ∧ Evl.Ex H H') ⟨none, rfl, Evl.Ex.refl _⟩ ?_ ?_
    · rintro i σ H1 hi ⟨v, rfl, e1⟩
      have e0 : (0 : Int) + (i : Int) = (i : Int) := Int.zero_add _
      rw [e0]
      refine ⟨_, rfl, _, rfl, a, ns, (i : Int), rfl, Evl.ex_l e1 S, by omega, by omega, hl, fun g H2 e2 => ⟨g, rfl, fun p H3 n3 e3 B => ⟨p, 0, rfl, B, by omega, fun H4 x4 => ⟨true, rfl, iteF ?_⟩⟩⟩⟩
      exact ⟨_, rfl, ex_b ((e1.trans e2).trans e3) (Evl.fresh_back (e1.trans e2) n3) x4⟩
    · rintro σ H1 ⟨v, rfl, e1⟩
      refine ⟨_, rfl, a, ns, 1, rfl, Evl.ex_l e1 S, by omega, by omega, hl, fun g H2 e2 => ⟨g, rfl, fun p H3 n3 e3 B => ⟨p, 90, 0, rfl, B, by omega, by omega, by omega, fun r H4 r0 r1 x4 B4 => ?_⟩⟩⟩
      refine .inl ⟨_, _, rfl, rfl, (513 + r).toNat, ?_, by omega, by omega, fun H5 e5 => q _ ((ex_b ((e1.trans e2).trans e3) (Evl.fresh_back (e1.trans e2) n3) x4).trans e5)⟩
      exact congrArg (fun z => [V.int z]) (show 513 + r = (((513 + r).toNat : Nat) : Int) by omega)
end
end K01
/-! the ends -/
namespace VB
open PySem PySem.Spec PyProof.Rows L2
theorem vals_getD {zs : List V} {ws : List Value} (h : Vals zs ws) : ∀ i : Nat, RelV (zs.getD i .non) (ws.getD i .none) := by
  induction h with
  | nil =>
    intro i
    exact rfl
  | cons r _ ih =>
    intro i
    cases i with
    | zero => exact r
    | succ i => exact ih i
theorem kb_of {K : PySem.W.Frag} {x qual : Str} {params : Arguments} {body : List Stmt} {scope : Scope} {kws : List (Str × V)} {f : Addr} {fd : FuncData} {ps ks : List Str} {n : Nat}
    {g : List Value → List Value → List Value} {gV : List V → List V → List V} (F : FunD K x qual params body scope [] kws f fd)
    (hrel : ∀ {vs : List V} {us : List Value} {zs : List V} {ws : List Value}, Vals vs us → Vals zs ws → Vals (gV vs zs) (g us ws))
    (h : ∀ (kV doc pm : Value) (an : Option Addr) (cdv ct : Value) (us ws : List Value), us.length = n → ws.length = ks.length → bindArgs (PySem.W.fnOf x qual params body scope .none kV doc pm an cdv ct) ⟨us, ks.zip ws⟩ = pure (ps.zip (g us ws))) :
    KBn K fd ps n ks g gV := by
  obtain ⟨oc, od, dV, kV, doc, pm, an, cdv, ct, osl, rfl, lk, hcd, hD, hK⟩ := F.ex
  rcases hD with ⟨_, rfl⟩ | ⟨e, _⟩
  · exact ⟨fun s us ws _ l1 l2 => .of_eq (h kV doc pm an cdv ct us ws l1 l2), fun r1 r2 => hrel r1 r2⟩
  · exact absurd rfl e
end VB
set_option maxHeartbeats 0
namespace K01
open PySem PySem.Spec PyProof.Rows L2 VB
def d__law_take : He.DefD := ⟨("_law_take", none), "_law_take", "_law_take", defArgs s__law_take, defBody s__law_take, defScope s__law_take, [], []⟩
def d__law_octet : He.DefD := ⟨("_law_octet", none), "_law_octet", "_law_octet", defArgs s__law_octet, defBody s__law_octet, defScope s__law_octet, [], []⟩
def d__law_two : He.DefD := ⟨("_law_two", none), "_law_two", "_law_two", defArgs s__law_two, defBody s__law_two, defScope s__law_two, [], []⟩
def d__law_bits : He.DefD := ⟨("_law_bits", none), "_law_bits", "_law_bits", defArgs s__law_bits, defBody s__law_bits, defScope s__law_bits, [], []⟩
def d__law_fallen : He.DefD := ⟨("_law_fallen", none), "_law_fallen", "_law_fallen", defArgs s__law_fallen, defBody s__law_fallen, defScope s__law_fallen, [], []⟩
def d__law_mask : He.DefD := ⟨("_law_mask", none), "_law_mask", "_law_mask", defArgs s__law_mask, defBody s__law_mask, defScope s__law_mask, [], []⟩
def d__law_octets : He.DefD := ⟨("_law_octets", none), "_law_octets", "_law_octets", defArgs s__law_octets, defBody s__law_octets, defScope s__law_octets, [], []⟩
def d__law_turned : He.DefD := ⟨("_law_turned", none), "_law_turned", "_law_turned", defArgs s__law_turned, defBody s__law_turned, defScope s__law_turned, [], []⟩
def d_is_list : He.DefD := ⟨("is_list", none), "is_list", "is_list", defArgs s_is_list, defBody s_is_list, defScope s_is_list, [], []⟩
def d_is_octets : He.DefD := ⟨("is_octets", none), "is_octets", "is_octets", defArgs s_is_octets, defBody s_is_octets, defScope s_is_octets, [], []⟩
def d__check_octets : He.DefD := ⟨("_check_octets", none), "_check_octets", "_check_octets", defArgs s__check_octets, defBody s__check_octets, defScope s__check_octets, [], []⟩
def d_zero_bits : He.DefD := ⟨("zero_bits", none), "zero_bits", "zero_bits", defArgs s_zero_bits, defBody s_zero_bits, defScope s_zero_bits, [], []⟩
def d_zeros : He.DefD := ⟨("zeros", none), "zeros", "zeros", defArgs s_zeros, defBody s_zeros, defScope s_zeros, [], []⟩
def d__check_pair : He.DefD := ⟨("_check_pair", none), "_check_pair", "_check_pair", defArgs s__check_pair, defBody s__check_pair, defScope s__check_pair, [], []⟩
def d__worth : He.DefD := ⟨("_worth", none), "_worth", "_worth", defArgs s__worth, defBody s__worth, defScope s__worth, [], []⟩
def d__ones : He.DefD := ⟨("_ones", none), "_ones", "_ones", defArgs s__ones, defBody s__ones, defScope s__ones, [], []⟩
def d_rises : He.DefD := ⟨("rises", none), "rises", "rises", defArgs s_rises, defBody s_rises, defScope s_rises, [], []⟩
def d__law_between : He.DefD := ⟨("_law_between", none), "_law_between", "_law_between", defArgs s__law_between, defBody s__law_between, defScope s__law_between, [], []⟩
def d_is_int : He.DefD := ⟨("is_int", none), "is_int", "is_int", defArgs s_is_int, defBody s_is_int, defScope s_is_int, [], []⟩
def d_is_mask : He.DefD := ⟨("is_mask", none), "is_mask", "is_mask", defArgs s_is_mask, defBody s_is_mask, defScope s_is_mask, [], []⟩
def d_changed : He.DefD := ⟨("changed", none), "changed", "changed", defArgs s_changed, defBody s_changed, defScope s_changed, [], []⟩
def d__law_left_right : He.DefD := ⟨("_law_left_right", none), "_law_left_right", "_law_left_right", defArgs s__law_left_right, defBody s__law_left_right, defScope s__law_left_right, [], []⟩
def d_falls : He.DefD := ⟨("falls", none), "falls", "falls", defArgs s_falls, defBody s_falls, defScope s_falls, [], []⟩
def d__law_told_right : He.DefD := ⟨("_law_told_right", none), "_law_told_right", "_law_told_right", defArgs s__law_told_right, defBody s__law_told_right, defScope s__law_told_right, [], []⟩
def d__law_right : He.DefD := ⟨("_law_right", none), "_law_right", "_law_right", defArgs s__law_right, defBody s__law_right, defScope s__law_right, [], []⟩
def d__law_box : He.DefD := ⟨("_law_box", none), "_law_box", "_law_box", defArgs s__law_box, defBody s__law_box, defScope s__law_box, [], []⟩
def d__law_cell : He.DefD := ⟨("_law_cell", none), "_law_cell", "_law_cell", defArgs s__law_cell, defBody s__law_cell, defScope s__law_cell, [], []⟩
def d__law_long_right : He.DefD := ⟨("_law_long_right", none), "_law_long_right", "_law_long_right", defArgs s__law_long_right, defBody s__law_long_right, defScope s__law_long_right, [], []⟩
def d_law : He.DefD := ⟨("law", none), "law", "law", defArgs s_law, defBody s_law, defScope s_law, [], []⟩
def fnl : List He.DefD := [d__law_take, d__law_octet, d__law_two, d__law_bits, d__law_fallen, d__law_mask, d__law_octets, d__law_turned, d_is_list, d_is_octets, d__check_octets, d_zero_bits, d_zeros, d__check_pair, d__worth, d__ones, d_rises, d__law_between, d_is_int, d_is_mask, d_changed, d__law_left_right, d_falls, d__law_told_right, d__law_right, d__law_box, d__law_cell, d__law_long_right, d_law]
def fal : List He.Fa := [.glo "_law_take", .glo "_law_octet", .glo "_law_two", .glo "_law_bits", .glo "_law_fallen", .glo "_law_mask", .glo "_law_octets", .glo "_law_turned", .glo "is_list", .glo "is_octets", .glo "_check_octets", .glo "zero_bits", .glo "zeros", .glo "_check_pair", .glo "_worth", .glo "_ones", .glo "rises", .glo "_law_between", .glo "is_int", .glo "is_mask", .glo "changed", .glo "_law_left_right", .glo "falls", .glo "_law_told_right", .glo "_law_right", .glo "_law_box", .glo "_law_cell", .glo "_law_long_right", .glo "law", .free "abs", .free "all", .free "bool", .free "enumerate", .free "int", .free "isinstance", .free "len", .free "list", .free "max", .free "min", .free "range", .free "repr", .free "sum", .free "tuple", .free "zip", .int "MASK_BITS" 4096, .glo "ZEROS_OF_HALF"]
abbrev Rw : PySem.W.OpenRow := PySem.W.OpenLaw.row PySem.Challenge.rw_onewaybits_k01_bits_that_turn
def exB (K : PySem.W.Frag) : Bool := He.tupB K "ZEROS_OF_HALF" [.int 4, .int 3, .int 3, .int 2, .int 3, .int 2, .int 2, .int 1, .int 3, .int 2, .int 2, .int 1, .int 2, .int 1, .int 1, .int 0] && (true)
abbrev hk : PySem.W.Hook := He.hookX 4 fal fnl [] [] exB
def ob (s : PySem.W.SharedT) : He.AlX := He.obsX 4 fal fnl [] [] exB (HandSHeadRun.getT s)
theorem ob_eq (s : PySem.W.SharedT) : ob s = hk.obs s.abs := He.obsX_eq (HandSHeadRun.getT_eq s)
def ln0 : List Str := ["FlashError", "InvalidOctets", "InvalidMask", "MASK_BITS", "is_int", "is_list", "is_octets", "is_mask", "ZEROS_OF_HALF", "zeros", "zero_bits", "falls", "rises", "changed", "_check_octets", "_check_pair", "_ones", "_worth", "_law_cell", "_law_box", "_law_take", "_law_octet", "_law_two", "_law_mask", "_law_bits", "_law_octets", "_law_turned", "_law_fallen", "_law_told_right", "_law_between"]
def ln1 : List Str := ["_law_left_right", "_law_right", "_law_long_right"]
abbrev lns : List Str := ln0 ++ ln1
theorem run (w : World) : HandSHeadRun.RunEq Rw (PySem.W.view Rw.prog [37]) hk ob 20000 lns w := by
  intro os
  kernel_rfl
theorem facts {P : Program} {w : World} {K : PySem.W.Frag} {h : Heap} {mg : Str → Option Value} {f : Addr} (X : K.In h) (G : h.Ns mainGlobals mg) (hfa : mg ("law" : Str) = some (.ref f)) (cx : He.SaysX fal fnl [] [] exB w h K) :
    ∃ fd : FuncData, (∀ (s : Shared) (v : Value), BindsTo s fd ⟨[v], []⟩ [("_law_script", v)]) ∧ ∀ base : Heap, K.In base → base.Ns mainGlobals mg → Fg P w K mg base CX0 10 f fd ["_law_script"] (spLaw K) := by
  have c := cx.t.d
  have cm := cx.more
  have tb_ZEROS_OF_HALF : ∀ H : Hp, SqT K H (He.ga K "ZEROS_OF_HALF") (List.map V.int [4, 3, 3, 2, 3, 2, 2, 1, 3, 2, 2, 1, 2, 1, 1, 0]) := fun H => He.tupB_ok (He.ba cm).1 H
  have cm := (He.ba cm).2
  obtain ⟨fd__law_take, F__law_take⟩ := c.def_ 0 (d := d__law_take) rfl
  have g__law_take := He.glo_ok X G (c.fact 0 (f := .glo "_law_take") rfl)
  obtain ⟨fd__law_octet, F__law_octet⟩ := c.def_ 1 (d := d__law_octet) rfl
  have g__law_octet := He.glo_ok X G (c.fact 1 (f := .glo "_law_octet") rfl)
  obtain ⟨fd__law_two, F__law_two⟩ := c.def_ 2 (d := d__law_two) rfl
  have g__law_two := He.glo_ok X G (c.fact 2 (f := .glo "_law_two") rfl)
  obtain ⟨fd__law_bits, F__law_bits⟩ := c.def_ 3 (d := d__law_bits) rfl
  have g__law_bits := He.glo_ok X G (c.fact 3 (f := .glo "_law_bits") rfl)
  obtain ⟨fd__law_fallen, F__law_fallen⟩ := c.def_ 4 (d := d__law_fallen) rfl
  have g__law_fallen := He.glo_ok X G (c.fact 4 (f := .glo "_law_fallen") rfl)
  obtain ⟨fd__law_mask, F__law_mask⟩ := c.def_ 5 (d := d__law_mask) rfl
  have g__law_mask := He.glo_ok X G (c.fact 5 (f := .glo "_law_mask") rfl)
  obtain ⟨fd__law_octets, F__law_octets⟩ := c.def_ 6 (d := d__law_octets) rfl
  have g__law_octets := He.glo_ok X G (c.fact 6 (f := .glo "_law_octets") rfl)
  obtain ⟨fd__law_turned, F__law_turned⟩ := c.def_ 7 (d := d__law_turned) rfl
  have g__law_turned := He.glo_ok X G (c.fact 7 (f := .glo "_law_turned") rfl)
  obtain ⟨fd_is_list, F_is_list⟩ := c.def_ 8 (d := d_is_list) rfl
  have g_is_list := He.glo_ok X G (c.fact 8 (f := .glo "is_list") rfl)
  obtain ⟨fd_is_octets, F_is_octets⟩ := c.def_ 9 (d := d_is_octets) rfl
  have g_is_octets := He.glo_ok X G (c.fact 9 (f := .glo "is_octets") rfl)
  obtain ⟨fd__check_octets, F__check_octets⟩ := c.def_ 10 (d := d__check_octets) rfl
  have g__check_octets := He.glo_ok X G (c.fact 10 (f := .glo "_check_octets") rfl)
  obtain ⟨fd_zero_bits, F_zero_bits⟩ := c.def_ 11 (d := d_zero_bits) rfl
  have g_zero_bits := He.glo_ok X G (c.fact 11 (f := .glo "zero_bits") rfl)
  obtain ⟨fd_zeros, F_zeros⟩ := c.def_ 12 (d := d_zeros) rfl
  have g_zeros := He.glo_ok X G (c.fact 12 (f := .glo "zeros") rfl)
  obtain ⟨fd__check_pair, F__check_pair⟩ := c.def_ 13 (d := d__check_pair) rfl
  have g__check_pair := He.glo_ok X G (c.fact 13 (f := .glo "_check_pair") rfl)
  obtain ⟨fd__worth, F__worth⟩ := c.def_ 14 (d := d__worth) rfl
  have g__worth := He.glo_ok X G (c.fact 14 (f := .glo "_worth") rfl)
  obtain ⟨fd__ones, F__ones⟩ := c.def_ 15 (d := d__ones) rfl
  have g__ones := He.glo_ok X G (c.fact 15 (f := .glo "_ones") rfl)
  obtain ⟨fd_rises, F_rises⟩ := c.def_ 16 (d := d_rises) rfl
  have g_rises := He.glo_ok X G (c.fact 16 (f := .glo "rises") rfl)
  obtain ⟨fd__law_between, F__law_between⟩ := c.def_ 17 (d := d__law_between) rfl
  have g__law_between := He.glo_ok X G (c.fact 17 (f := .glo "_law_between") rfl)
  obtain ⟨fd_is_int, F_is_int⟩ := c.def_ 18 (d := d_is_int) rfl
  have g_is_int := He.glo_ok X G (c.fact 18 (f := .glo "is_int") rfl)
  obtain ⟨fd_is_mask, F_is_mask⟩ := c.def_ 19 (d := d_is_mask) rfl
  have g_is_mask := He.glo_ok X G (c.fact 19 (f := .glo "is_mask") rfl)
  obtain ⟨fd_changed, F_changed⟩ := c.def_ 20 (d := d_changed) rfl
  have g_changed := He.glo_ok X G (c.fact 20 (f := .glo "changed") rfl)
  obtain ⟨fd__law_left_right, F__law_left_right⟩ := c.def_ 21 (d := d__law_left_right) rfl
  have g__law_left_right := He.glo_ok X G (c.fact 21 (f := .glo "_law_left_right") rfl)
  obtain ⟨fd_falls, F_falls⟩ := c.def_ 22 (d := d_falls) rfl
  have g_falls := He.glo_ok X G (c.fact 22 (f := .glo "falls") rfl)
  obtain ⟨fd__law_told_right, F__law_told_right⟩ := c.def_ 23 (d := d__law_told_right) rfl
  have g__law_told_right := He.glo_ok X G (c.fact 23 (f := .glo "_law_told_right") rfl)
  obtain ⟨fd__law_right, F__law_right⟩ := c.def_ 24 (d := d__law_right) rfl
  have g__law_right := He.glo_ok X G (c.fact 24 (f := .glo "_law_right") rfl)
  obtain ⟨fd__law_box, F__law_box⟩ := c.def_ 25 (d := d__law_box) rfl
  have g__law_box := He.glo_ok X G (c.fact 25 (f := .glo "_law_box") rfl)
  obtain ⟨fd__law_cell, F__law_cell⟩ := c.def_ 26 (d := d__law_cell) rfl
  have g__law_cell := He.glo_ok X G (c.fact 26 (f := .glo "_law_cell") rfl)
  obtain ⟨fd__law_long_right, F__law_long_right⟩ := c.def_ 27 (d := d__law_long_right) rfl
  have g__law_long_right := He.glo_ok X G (c.fact 27 (f := .glo "_law_long_right") rfl)
  obtain ⟨fd_law, F_law⟩ := c.def_ 28 (d := d_law) rfl
  have g_law := He.glo_ok X G (c.fact 28 (f := .glo "law") rfl)
  have T : Txt K mg := ⟨He.free_ok X G (c.fact 29 (f := .free "abs") rfl), He.free_ok X G (c.fact 30 (f := .free "all") rfl), He.free_ok X G (c.fact 31 (f := .free "bool") rfl), He.free_ok X G (c.fact 32 (f := .free "enumerate") rfl), He.free_ok X G (c.fact 33 (f := .free "int") rfl), He.free_ok X G (c.fact 34 (f := .free "isinstance") rfl), He.free_ok X G (c.fact 35 (f := .free "len") rfl), He.free_ok X G (c.fact 36 (f := .free "list") rfl), He.free_ok X G (c.fact 37 (f := .free "max") rfl), He.free_ok X G (c.fact 38 (f := .free "min") rfl), He.free_ok X G (c.fact 39 (f := .free "range") rfl), He.free_ok X G (c.fact 40 (f := .free "repr") rfl), He.free_ok X G (c.fact 41 (f := .free "sum") rfl), He.free_ok X G (c.fact 42 (f := .free "tuple") rfl), He.free_ok X G (c.fact 43 (f := .free "zip") rfl), He.int_ok X G (c.fact 44 (f := .int "MASK_BITS" 4096) rfl), tb_ZEROS_OF_HALF, He.glo_ok X G (c.fact 45 (f := .glo "ZEROS_OF_HALF") rfl)⟩
  cases hfa.symm.trans g_law
  have b := FunD.bindsA (ps := ["_law_script"]) F_law fun _ _ _ _ _ _ us hl => match us, hl with | [_], _ => rfl
  refine ⟨fd_law, fun s v => b s [v] rfl, fun base _ _ => ?_⟩
  have G__law_take : Fg P w K mg base CX0 1 _ fd__law_take ["_law_box_here", "_law_many"] spTake := ok_take T F__law_take 
  have C__law_take_1 : Cal P w K mg base CX0 1 "_law_take" ["_law_box_here", "_law_many"] spTake := ⟨_, fd__law_take, G__law_take.le (by omega), g__law_take, F__law_take.kp, F__law_take.bindsN fun _ _ _ _ _ _ us hl => match us, hl with | [_, _], _ => rfl⟩
  have G__law_octet : Fg P w K mg base CX0 2 _ fd__law_octet ["_law_box_here"] spOctet := ok_octet T F__law_octet C__law_take_1
  have C__law_octet_2 : Cal P w K mg base CX0 2 "_law_octet" ["_law_box_here"] spOctet := ⟨_, fd__law_octet, G__law_octet.le (by omega), g__law_octet, F__law_octet.kp, F__law_octet.bindsN fun _ _ _ _ _ _ us hl => match us, hl with | [_], _ => rfl⟩
  have G__law_two : Fg P w K mg base CX0 3 _ fd__law_two ["_law_box_here"] spTwo := ok_two T F__law_two C__law_take_1 C__law_octet_2
  have C__law_two_3 : Cal P w K mg base CX0 3 "_law_two" ["_law_box_here"] spTwo := ⟨_, fd__law_two, G__law_two.le (by omega), g__law_two, F__law_two.kp, F__law_two.bindsN fun _ _ _ _ _ _ us hl => match us, hl with | [_], _ => rfl⟩
  have G__law_bits : Fg P w K mg base CX0 1 _ fd__law_bits ["_law_octets_here"] (spBits K) := ok_bits T F__law_bits 
  have C__law_bits_1 : Cal P w K mg base CX0 1 "_law_bits" ["_law_octets_here"] (spBits K) := ⟨_, fd__law_bits, G__law_bits.le (by omega), g__law_bits, F__law_bits.kp, F__law_bits.bindsN fun _ _ _ _ _ _ us hl => match us, hl with | [_], _ => rfl⟩
  have G__law_fallen : Fg P w K mg base CX0 1 _ fd__law_fallen ["_law_old", "_law_new"] (spFallen K) := ok_fallen T F__law_fallen 
  have C__law_fallen_1 : Cal P w K mg base CX0 1 "_law_fallen" ["_law_old", "_law_new"] (spFallen K) := ⟨_, fd__law_fallen, G__law_fallen.le (by omega), g__law_fallen, F__law_fallen.kp, F__law_fallen.bindsN fun _ _ _ _ _ _ us hl => match us, hl with | [_, _], _ => rfl⟩
  have G__law_mask : Fg P w K mg base CX0 2 _ fd__law_mask ["_law_box_here", "_law_many"] spMask := ok_mask T F__law_mask C__law_take_1
  have C__law_mask_2 : Cal P w K mg base CX0 2 "_law_mask" ["_law_box_here", "_law_many"] spMask := ⟨_, fd__law_mask, G__law_mask.le (by omega), g__law_mask, F__law_mask.kp, F__law_mask.bindsN fun _ _ _ _ _ _ us hl => match us, hl with | [_, _], _ => rfl⟩
  have G__law_octets : Fg P w K mg base CX0 1 _ fd__law_octets ["_law_bits_here"] (spOctets K) := ok_octets T F__law_octets 
  have C__law_octets_1 : Cal P w K mg base CX0 1 "_law_octets" ["_law_bits_here"] (spOctets K) := ⟨_, fd__law_octets, G__law_octets.le (by omega), g__law_octets, F__law_octets.kp, F__law_octets.bindsN fun _ _ _ _ _ _ us hl => match us, hl with | [_], _ => rfl⟩
  have G__law_turned : Fg P w K mg base CX0 1 _ fd__law_turned ["_law_old", "_law_new", "_law_mask_here"] (spTurned K) := ok_turned T F__law_turned 
  have C__law_turned_1 : Cal P w K mg base CX0 1 "_law_turned" ["_law_old", "_law_new", "_law_mask_here"] (spTurned K) := ⟨_, fd__law_turned, G__law_turned.le (by omega), g__law_turned, F__law_turned.kp, F__law_turned.bindsN fun _ _ _ _ _ _ us hl => match us, hl with | [_, _, _], _ => rfl⟩
  have G_is_list : Fg P w K mg base CX0 1 _ fd_is_list ["value"] (spIsList K) := ok_is_list T F_is_list 
  have C_is_list_1 : Cal P w K mg base CX0 1 "is_list" ["value"] (spIsList K) := ⟨_, fd_is_list, G_is_list.le (by omega), g_is_list, F_is_list.kp, F_is_list.bindsN fun _ _ _ _ _ _ us hl => match us, hl with | [_], _ => rfl⟩
  have G_is_octets : Fg P w K mg base CX0 2 _ fd_is_octets ["value"] (spIsOct K) := ok_is_octets T F_is_octets C_is_list_1
  have C_is_octets_2 : Cal P w K mg base CX0 2 "is_octets" ["value"] (spIsOct K) := ⟨_, fd_is_octets, G_is_octets.le (by omega), g_is_octets, F_is_octets.kp, F_is_octets.bindsN fun _ _ _ _ _ _ us hl => match us, hl with | [_], _ => rfl⟩
  have G__check_octets : Fg P w K mg base CX0 4 _ fd__check_octets ["octets"] (spChk K) := ok_chk T F__check_octets C_is_octets_2
  have C__check_octets_4 : Cal P w K mg base CX0 4 "_check_octets" ["octets"] (spChk K) := ⟨_, fd__check_octets, G__check_octets.le (by omega), g__check_octets, F__check_octets.kp, F__check_octets.bindsN fun _ _ _ _ _ _ us hl => match us, hl with | [_], _ => rfl⟩
  have G_zero_bits : Fg P w K mg base CX0 1 _ fd_zero_bits ["octets"] (spZB K) := ok_zero_bits T F_zero_bits 
  have C_zero_bits_1 : Cal P w K mg base CX0 1 "zero_bits" ["octets"] (spZB K) := ⟨_, fd_zero_bits, G_zero_bits.le (by omega), g_zero_bits, F_zero_bits.kp, F_zero_bits.bindsN fun _ _ _ _ _ _ us hl => match us, hl with | [_], _ => rfl⟩
  have G_zeros : Fg P w K mg base CX0 6 _ fd_zeros ["octets"] (spZeros K) := ok_zeros T F_zeros C__check_octets_4 C_zero_bits_1
  have C_zeros_6 : Cal P w K mg base CX0 6 "zeros" ["octets"] (spZeros K) := ⟨_, fd_zeros, G_zeros.le (by omega), g_zeros, F_zeros.kp, F_zeros.bindsN fun _ _ _ _ _ _ us hl => match us, hl with | [_], _ => rfl⟩
  have CK_zeros_0_octets_6 : CalK P w K mg base CX0 6 "zeros" ["octets"] 0 ["octets"] g1 g1V (spZeros K) := ⟨_, fd_zeros, G_zeros.le (by omega), g_zeros, F_zeros.kp, kb_of F_zeros (fun _ r => .cons (vals_getD r 0) (.nil)) fun _ _ _ _ _ _ us ws l1 l2 => match us, ws, l1, l2 with | [], [_], _, _ => rfl⟩
  have G__check_pair : Fg P w K mg base CX0 5 _ fd__check_pair ["old", "new"] (spPair K) := ok_pair T F__check_pair C__check_octets_4
  have C__check_pair_5 : Cal P w K mg base CX0 5 "_check_pair" ["old", "new"] (spPair K) := ⟨_, fd__check_pair, G__check_pair.le (by omega), g__check_pair, F__check_pair.kp, F__check_pair.bindsN fun _ _ _ _ _ _ us hl => match us, hl with | [_, _], _ => rfl⟩
  have G__worth : Fg P w K mg base CX0 1 _ fd__worth ["bit"] spWorth := ok_worth T F__worth 
  have C__worth_1 : Cal P w K mg base CX0 1 "_worth" ["bit"] spWorth := ⟨_, fd__worth, G__worth.le (by omega), g__worth, F__worth.kp, F__worth.bindsN fun _ _ _ _ _ _ us hl => match us, hl with | [_], _ => rfl⟩
  have G__ones : Fg P w K mg base CX0 2 _ fd__ones ["octets"] (spOnes K) := ok_ones T F__ones C__worth_1
  have C__ones_2 : Cal P w K mg base CX0 2 "_ones" ["octets"] (spOnes K) := ⟨_, fd__ones, G__ones.le (by omega), g__ones, F__ones.kp, F__ones.bindsN fun _ _ _ _ _ _ us hl => match us, hl with | [_], _ => rfl⟩
  have G_rises : Fg P w K mg base CX0 6 _ fd_rises ["old", "new"] (spRises K) := ok_rises T F_rises C__check_pair_5 C__ones_2
  have C_rises_6 : Cal P w K mg base CX0 6 "rises" ["old", "new"] (spRises K) := ⟨_, fd_rises, G_rises.le (by omega), g_rises, F_rises.kp, F_rises.bindsN fun _ _ _ _ _ _ us hl => match us, hl with | [_, _], _ => rfl⟩
  have CK_rises_0_new_old_6 : CalK P w K mg base CX0 6 "rises" ["old", "new"] 0 ["new", "old"] g21 g21V (spRises K) := ⟨_, fd_rises, G_rises.le (by omega), g_rises, F_rises.kp, kb_of F_rises (fun _ r => .cons (vals_getD r 1) (.cons (vals_getD r 0) (.nil))) fun _ _ _ _ _ _ us ws l1 l2 => match us, ws, l1, l2 with | [], [_, _], _, _ => rfl⟩
  have G__law_between : Fg P w K mg base CX0 7 _ fd__law_between ["_law_first", "_law_left", "_law_last", "_law_count"] (spBetween K) := ok_between T F__law_between C_zeros_6 C_rises_6
  have C__law_between_7 : Cal P w K mg base CX0 7 "_law_between" ["_law_first", "_law_left", "_law_last", "_law_count"] (spBetween K) := ⟨_, fd__law_between, G__law_between.le (by omega), g__law_between, F__law_between.kp, F__law_between.bindsN fun _ _ _ _ _ _ us hl => match us, hl with | [_, _, _, _], _ => rfl⟩
  have G_is_int : Fg P w K mg base CX0 1 _ fd_is_int ["value"] spIsInt := ok_is_int T F_is_int 
  have C_is_int_1 : Cal P w K mg base CX0 1 "is_int" ["value"] spIsInt := ⟨_, fd_is_int, G_is_int.le (by omega), g_is_int, F_is_int.kp, F_is_int.bindsN fun _ _ _ _ _ _ us hl => match us, hl with | [_], _ => rfl⟩
  have G_is_mask : Fg P w K mg base CX0 2 _ fd_is_mask ["value"] spIsMask := ok_is_mask T F_is_mask C_is_int_1
  have C_is_mask_2 : Cal P w K mg base CX0 2 "is_mask" ["value"] spIsMask := ⟨_, fd_is_mask, G_is_mask.le (by omega), g_is_mask, F_is_mask.kp, F_is_mask.bindsN fun _ _ _ _ _ _ us hl => match us, hl with | [_], _ => rfl⟩
  have G_changed : Fg P w K mg base CX0 6 _ fd_changed ["old", "new", "mask"] (spChanged K) := ok_changed T F_changed C__check_pair_5 C__ones_2 C_is_mask_2 C__worth_1
  have C_changed_6 : Cal P w K mg base CX0 6 "changed" ["old", "new", "mask"] (spChanged K) := ⟨_, fd_changed, G_changed.le (by omega), g_changed, F_changed.kp, F_changed.bindsN fun _ _ _ _ _ _ us hl => match us, hl with | [_, _, _], _ => rfl⟩
  have CK_changed_0_mask_new_old_6 : CalK P w K mg base CX0 6 "changed" ["old", "new", "mask"] 0 ["mask", "new", "old"] g321 g321V (spChanged K) := ⟨_, fd_changed, G_changed.le (by omega), g_changed, F_changed.kp, kb_of F_changed (fun _ r => .cons (vals_getD r 2) (.cons (vals_getD r 1) (.cons (vals_getD r 0) (.nil)))) fun _ _ _ _ _ _ us ws l1 l2 => match us, ws, l1, l2 with | [], [_, _, _], _, _ => rfl⟩
  have G__law_left_right : Fg P w K mg base CX0 8 _ fd__law_left_right ["_law_way", "_law_old", "_law_new", "_law_masks"] (spLR K) := ok_lr T F__law_left_right C__law_octets_1 C__law_bits_1 C__law_turned_1 C__law_between_7 C_changed_6 CK_changed_0_mask_new_old_6
  have C__law_left_right_8 : Cal P w K mg base CX0 8 "_law_left_right" ["_law_way", "_law_old", "_law_new", "_law_masks"] (spLR K) := ⟨_, fd__law_left_right, G__law_left_right.le (by omega), g__law_left_right, F__law_left_right.kp, F__law_left_right.bindsN fun _ _ _ _ _ _ us hl => match us, hl with | [_, _, _, _], _ => rfl⟩
  have G_falls : Fg P w K mg base CX0 6 _ fd_falls ["old", "new"] (spFalls K) := ok_falls T F_falls C__check_pair_5 C__ones_2
  have C_falls_6 : Cal P w K mg base CX0 6 "falls" ["old", "new"] (spFalls K) := ⟨_, fd_falls, G_falls.le (by omega), g_falls, F_falls.kp, F_falls.bindsN fun _ _ _ _ _ _ us hl => match us, hl with | [_, _], _ => rfl⟩
  have CK_falls_0_new_old_6 : CalK P w K mg base CX0 6 "falls" ["old", "new"] 0 ["new", "old"] g21 g21V (spFalls K) := ⟨_, fd_falls, G_falls.le (by omega), g_falls, F_falls.kp, kb_of F_falls (fun _ r => .cons (vals_getD r 1) (.cons (vals_getD r 0) (.nil))) fun _ _ _ _ _ _ us ws l1 l2 => match us, ws, l1, l2 with | [], [_, _], _, _ => rfl⟩
  have G__law_told_right : Fg P w K mg base CX0 7 _ fd__law_told_right ["_law_old", "_law_new"] (spTold K) := ok_told T F__law_told_right C__law_octets_1 C__law_fallen_1 C_zeros_6 CK_zeros_0_octets_6 C_falls_6 CK_falls_0_new_old_6 C_rises_6 CK_rises_0_new_old_6
  have C__law_told_right_7 : Cal P w K mg base CX0 7 "_law_told_right" ["_law_old", "_law_new"] (spTold K) := ⟨_, fd__law_told_right, G__law_told_right.le (by omega), g__law_told_right, F__law_told_right.kp, F__law_told_right.bindsN fun _ _ _ _ _ _ us hl => match us, hl with | [_, _], _ => rfl⟩
  have G__law_right : Fg P w K mg base CX0 9 _ fd__law_right ["_law_box_here"] spRight := ok_right T F__law_right C__law_two_3 C__law_bits_1 C__law_fallen_1 C__law_mask_2 C__law_left_right_8 C__law_told_right_7 C_changed_6
  have C__law_right_9 : Cal P w K mg base CX0 9 "_law_right" ["_law_box_here"] spRight := ⟨_, fd__law_right, G__law_right.le (by omega), g__law_right, F__law_right.kp, F__law_right.bindsN fun _ _ _ _ _ _ us hl => match us, hl with | [_], _ => rfl⟩
  have G__law_box : Fg P w K mg base CX0 1 _ fd__law_box ["_law_great"] spBox := ok_box T F__law_box 
  have C__law_box_1 : Cal P w K mg base CX0 1 "_law_box" ["_law_great"] spBox := ⟨_, fd__law_box, G__law_box.le (by omega), g__law_box, F__law_box.kp, F__law_box.bindsN fun _ _ _ _ _ _ us hl => match us, hl with | [_], _ => rfl⟩
  have G__law_cell : Fg P w K mg base CX0 1 _ fd__law_cell ["_law_script", "_law_k"] (spCell K) := ok_cell T F__law_cell 
  have C__law_cell_1 : Cal P w K mg base CX0 1 "_law_cell" ["_law_script", "_law_k"] (spCell K) := ⟨_, fd__law_cell, G__law_cell.le (by omega), g__law_cell, F__law_cell.kp, F__law_cell.bindsN fun _ _ _ _ _ _ us hl => match us, hl with | [_, _], _ => rfl⟩
  have G__law_long_right : Fg P w K mg base CX0 7 _ fd__law_long_right ["_law_size"] spLong := ok_long T F__law_long_right C_changed_6 C_zeros_6 C_falls_6 C_rises_6
  have C__law_long_right_7 : Cal P w K mg base CX0 7 "_law_long_right" ["_law_size"] spLong := ⟨_, fd__law_long_right, G__law_long_right.le (by omega), g__law_long_right, F__law_long_right.kp, F__law_long_right.bindsN fun _ _ _ _ _ _ us hl => match us, hl with | [_], _ => rfl⟩
  exact ok_law T F_law C__law_right_9 C__law_box_1 C__law_cell_1 C__law_long_right_7 C__law_take_1
end K01
open PySem PySem.W PySem.Calls PyProof.Rows
theorem PySem.Challenge.cw_onewaybits_k01_bits_that_turn_holds : PySem.Challenge.rw_onewaybits_k01_bits_that_turn.Holds := by
  w_on; o_law
  refine HandSHeadRun.head_any (r := OpenLaw.row PySem.Challenge.rw_onewaybits_k01_bits_that_turn) (q := view (OpenLaw.row PySem.Challenge.rw_onewaybits_k01_bits_that_turn).prog [37]) (H := K01.hk) (ob := K01.ob) (M := 20000) (loose := K01.lns) (d := HandSHeadRun.topDef (OpenLaw.row PySem.Challenge.rw_onewaybits_k01_bits_that_turn).prog 37) (kwd := []) K01.ob_eq
    (by kernel_rfl) (fun s => by kernel_rfl) K01.run (by kernel_rfl) (by kernel_rfl) (by kernel_rfl) (by rfl) (by first | assumption | decide +kernel) (by decide +kernel) ⟨rfl, rfl, rfl, rfl, rfl, by decide +kernel⟩ ?hw ?hc
  case hw => w_witness2
  case hc =>
    refine VB.law_walk (l := PySem.Challenge.rw_onewaybits_k01_bits_that_turn) (n := 63) (k := 10) (x := "_law_script") (CX := L2.CX0) rfl (by decide) (by kernel_rfl) ⟨⟨rfl, by decide, by decide⟩, rfl⟩ ?F (fun _ _ _ _ z => z)
    intro w mg fa h Y G hmg0
    obtain ⟨K, KX, c⟩ := Y
    have hmg : mg ("law" : PySem.Str) = some (.ref fa) := by
      have e : (HandSHeadRun.topDef (OpenLaw.row PySem.Challenge.rw_onewaybits_k01_bits_that_turn).prog 37).name = ("law" : PySem.Str) := by kernel_rfl
      rw [← e]
      exact hmg0
    obtain ⟨fd, hb, hF⟩ := K01.facts (P := (PySem.Challenge.rw_onewaybits_k01_bits_that_turn).prog) (w := w) KX G hmg c
    exact ⟨K, fd, (K01.spLaw K), KX, hb, fun H a ns hl _ hS => ⟨a, ns, rfl, hS, by omega, fun _ _ => rfl⟩, hF⟩
