import PyProof.Rows.All
import Wide.All
import OpenK.AllK
import Wide.FinOn
import HandS.ForMost
import HandS.Evl
import HandS.IsInst
import HandS.Walk
import HandS.Conv
import HandS.TupMul
import HandS.WideBits
import HandS.Wide
import HandS.Defaults
import HandS.HeadHook2
import HandS.RaiseMore
import HandS.Zip
import HandS.Style
import HandS.SetFor
import HandS.Text
import PyProof.ReprText
import PyProof.Rows.StrJoinMade
import KE.KxField
import HandS.FStr
import HandS.Zip0
import KE.BitLaws
import HandS.Rev
import HandS.Exc
import HandS.ExcValue
import KE.DataMinMax
import HandS.Head0
import HandS.Head1
import HandS.Head2
import HandS.HeadEnd
import HandS.HeadHook1
import HandS.HeadHook3
import HandS.HeadHook4
import PySem.Challenge.RW_onewaybits_k07_pages_told
set_option Elab.async false
set_option linter.all false
set_option maxRecDepth 100000
set_option maxHeartbeats 4000000
namespace VB
open PySem PySem.Spec PyProof.Rows L2

/-! ## 1. Room, and no display under way -/
structure Rm (k : Nat) (A : Around) : Prop where
  rm : Room k A
  gd : A.guards = some []
theorem Rm.le {j k : Nat} {A : Around} (r : Rm k A) (h : j ≤ k := by omega) : Rm j A := ⟨r.rm.mono h, r.gd⟩
theorem Rm.down {k : Nat} {A : Around} (r : Rm (k + 1) A) (e : Env) : Rm k (A.deeper e) := ⟨r.rm.deeper e, r.gd⟩

section
variable {P : Program} {w : World} {K : PySem.W.Frag} {mg : Str → Option Value} {base : Heap} {CX : CXT} {k : Nat}

/-- a def's promise, kept wherever there is room and no display is under way -/
structure Fg (P : Program) (w : World) (K : PySem.W.Frag) (mg : Str → Option Value) (base : Heap)
    (CX : CXT) (k : Nat) (f : Addr) (fd : FuncData) (ps : List Str) (sp : Sp) : Prop where
  cnt : ∀ vs H Q E, sp vs H Q E → vs.length = ps.length
  go : ∀ (A : Around) (outer : List Env) (s : Shared) (H : Hp) (args : Args) (us : List Value) (vs : List V)
    (Q : VK) (E : XK), Rm k A → Env0 P w K mg base A outer s H → BindsTo s fd args (ps.zip us) →
    Vals vs us → sp vs H Q E → codeAny (model P w) A (.call (.ref f) args) (CR CX outer P w H s Q E) s

theorem Fg.le {j : Nat} {f : Addr} {fd : FuncData} {ps : List Str} {sp : Sp}
    (F : Fg P w K mg base CX j f fd ps sp) (h : j ≤ k) : Fg P w K mg base CX k f fd ps sp :=
  ⟨F.cnt, fun A o s H a us vs Q E r => F.go A o s H a us vs Q E (r.le h)⟩

/-- a def by its body -/
theorem fg_of {x qual : Str} {params : Arguments} {body : List Stmt} {scope : Scope} {dvs : List V}
    {kws : List (Str × V)} {f : Addr} {fd : FuncData} {N ps : List Str} {sp : Sp}
    (F : FunD K x qual params body scope dvs kws f fd) (S : FnScope N ps scope)
    (cnt : ∀ vs H Q E, sp vs H Q E → vs.length = ps.length)
    (hb : ∀ (cdv : Value) (A : Around) (outer : List Env) (s : Shared) (H : Hp) (vs : List V) (Q : VK) (E : XK),
      Rm k (A.deeper (envOfC qual scope s.heap.objs.size f cdv)) → sp vs H Q E →
      ∃ t, PSs (cxOf CX P w K mg base N qual scope f cdv A outer s H E) body t ∧
        t { nx := fun _ H' => Q .non H', rt := Q } (start N vs) H) :
    Fg P w K mg base CX (k + 1) f fd ps sp := by
  obtain ⟨oc, od, dV, kV, doc, pm, an, cdv, ct, osl, rfl, lk, hcd, _, _⟩ := F.ex
  refine ⟨cnt, ?_⟩
  intro A outer s H args us vs Q E hr e0 hbind hv hsp
  have kin : K.In s.heap := e0.mod.kin.keeps (fun b o e => (e0.bs b o e).1)
  have nol : s.heap.NoLimit := e0.mod.nolimit.keeps (fun b o e => (e0.bs b o e).1)
  have hk : ∀ y ∈ ps.zip us, scope.names.lookup y.1 = some .local ∨
      (scope.names.lookup y.1 = some .cell ∧
        ((cellsFrom (s.heap.objs.size + 1) scope.names []).lookup y.1).isSome = true) := by
    rintro ⟨n, v⟩ hy
    cases S.par n (List.of_mem_zip hy).1 with
    | inl q => exact .inl q
    | inr q => exact .inr ⟨q, PySem.W.cellsFrom_some _ _ _ (.inl q)⟩
  refine codeAny_call_function hr.rm.depth (kin _ _ lk) rfl S.co S.gen rfl
    (PySem.W.codeRec_of kin hcd) (hbind _ _ _ _ (wpAny_newFunctionEnv_cells S.kind hk ?_))
  intro env he s1 x
  subst he
  refine ⟨nol.keeps x.toInCall.keep, codeAny_func ?_⟩
  obtain ⟨t, ht, hq⟩ := hb cdv A outer s H vs Q E (hr.down _) hsp
  have I := inv_start (CX := CX) (E := E) S hr.rm.hd e0 (cnt _ _ _ _ hsp) hv x
  refine wpAny_mono (ht.run [] s1 (start N vs) H _ I hq) ?_ (fun e s' hs => hs)
  intro fl s' hs
  cases fl with
  | ret u =>
    obtain ⟨v, σ', H', J, rv, q⟩ := hs
    exact ⟨v, H', J.os, J.bare, J.base, J.hok, rv, q⟩
  | next =>
    obtain ⟨σ', H', J, q⟩ := hs
    exact ⟨.non, H', J.os, J.bare, J.base, J.hok, rfl, q⟩
  | brk => exact (hs.choose_spec.choose_spec.2 : False).elim
  | cont => exact (hs.choose_spec.choose_spec.2 : False).elim

/-! ## 2. Calls by name -/
/-- a def of the module, told by its name -/
structure Cal (P : Program) (w : World) (K : PySem.W.Frag) (mg : Str → Option Value) (base : Heap)
    (CX : CXT) (k : Nat) (x : Str) (ps : List Str) (sp : Sp) : Prop where
  ex : ∃ (f : Addr) (fd : FuncData), Fg P w K mg base CX k f fd ps sp ∧ mg x = some (.ref f) ∧
    PySem.W.keepIn K (.ref f) = true ∧ Binds K fd ps []
/-- .. called with keywords -/
structure CalK (P : Program) (w : World) (K : PySem.W.Frag) (mg : Str → Option Value) (base : Heap)
    (CX : CXT) (k : Nat) (x : Str) (ps : List Str) (n : Nat) (ks : List Str)
    (g : List Value → List Value → List Value) (gV : List V → List V → List V) (sp : Sp) : Prop where
  ex : ∃ (f : Addr) (fd : FuncData), Fg P w K mg base CX k f fd ps sp ∧ mg x = some (.ref f) ∧
    PySem.W.keepIn K (.ref f) = true ∧ KBn K fd ps n ks g gV
end

section
variable {X : Cx} {CX : CXT} {k n : Nat} {ps ks : List Str} {sp : Sp} {E : XK} {x : Str} {p pos : Pos}
  {e : Expr} {es : List Expr} {kws : List Keyword} {t tk : TA}
  {g : List Value → List Value → List Value} {gV : List V → List V → List V}

/-- the end of a call, where the caller stands -/
theorem back {pins : List (Addr × Obj)} {σ : L2.St} {H : Hp} {s s' : Shared} {Q : VK} {E : XK} {r : Result}
    (hx : Passes CX X E) (I : Inv X pins σ H s) (hq : CR CX X.stack X.prog X.w H s Q E r s') :
    match r with
    | .ok (.ret u) => EP X pins σ Q u s'
    | .ok _ => False
    | .error e => X.xe e s' := by
  cases r with
  | error e => exact hx pins σ H s e s' I hq
  | ok fl =>
    cases fl with
    | ret u => exact I.after hq
    | next => exact hq
    | brk => exact hq
    | cont => exact hq

theorem enter {f : Addr} {fd : FuncData} {pins : List (Addr × Obj)} {σ : L2.St} {H : Hp} {s : Shared} {Q : VK}
    {args : Args} {us : List Value} {vs : List V} (F : Fg X.prog X.w X.K X.mg X.base CX k f fd ps sp)
    (hr : Rm k X.A) (hx : Passes CX X E) (I : Inv X pins σ H s) (hb : BindsTo s fd args (ps.zip us))
    (r : Vals vs us) (h : sp vs H Q E) :
    wpAny (model X.prog X.w) X.A (call (.ref f) args.pos args.kw) (EP X pins σ Q) X.xe s := by
  refine wpAny_call (codeAny_mono (F.go X.A X.stack s H args us vs Q E hr I.env0 hb r h) ?_)
  intro r s' hq
  have z := back hx I hq
  cases r with
  | error e => exact z
  | ok fl =>
    cases fl with
    | ret u => exact z
    | next => exact z.elim
    | brk => exact z.elim
    | cont => exact z.elim

theorem pe_cal (C : Cal X.prog X.w X.K X.mg X.base CX k x ps sp) (hr : Rm k X.A) (hx : Passes CX X E)
    (ha : PA X (e :: es) t) (hg : Gl X x := by rfl) (hdb : (x == ("__debug__" : Str)) = false := by decide)
    (he : starEach (e :: es) X.env = (false, eval e X.env) :: starEach es X.env := by rfl)
    (hpl : (backTo pos (starEach es X.env)).any (·.1) = false := by rfl) :
    PE X (.Call (.Name x p) (e :: es) [] pos) (tCall sp [] E t) := by
  obtain ⟨f, fd, F, hm, hk, hb⟩ := C.ex
  constructor
  intro pins s σ H Q I h
  refine wpAny_Call_Name_kw (ld_glob I hg hm ?_ hdb)
  refine PySem.W.callWith_K (h₀ := X.base) I.ok.mod.kin hk (thn (ha.run pos pins s σ H _ I h) ?_) he hpl
  rintro us s1 ⟨vs, H1, I1, r, q⟩
  have q : sp (vs ++ []) H1 Q E := q
  rw [List.append_nil] at q
  have l : (us ++ []).length = ps.length := by
    rw [List.append_nil, ← r.length]
    exact F.cnt _ _ _ _ q
  have b := hb s1 us I1.kIn l
  rw [List.append_nil] at b
  exact ⟨I1.kIn, enter (args := ⟨us, []⟩) F hr hx I1 b r q⟩

theorem pe_cal0 (C : Cal X.prog X.w X.K X.mg X.base CX k x ps sp) (hr : Rm k X.A) (hx : Passes CX X E)
    (hg : Gl X x := by rfl) (hdb : (x == ("__debug__" : Str)) = false := by decide) :
    PE X (.Call (.Name x p) [] [] pos) (tCall sp [] E tNil) := by
  obtain ⟨f, fd, F, hm, hk, hb⟩ := C.ex
  constructor
  intro pins s σ H Q I h
  have q : sp [] H Q E := h
  refine wpAny_Call_Name_kw (ld_glob I hg hm ?_ hdb)
  refine PySem.W.callWith_K0 I.kIn hk ?_
  have b := hb s [] I.kIn (F.cnt _ _ _ _ q)
  exact enter (args := ⟨[], []⟩) F hr hx I b .nil q

/-- f(k = v, ..): no value by position -/
theorem pe_calk (C : CalK X.prog X.w X.K X.mg X.base CX k x ps 0 ks g gV sp) (hr : Rm k X.A) (hx : Passes CX X E)
    (hkw : PK X kws tk) (hg : Gl X x := by rfl)
    (hall : (backToKw pos (keywordEach kws X.env)).all (·.1.isSome) = true := by rfl)
    (hks : (backToKw pos (keywordEach kws X.env)).filterMap (·.1) = ks := by rfl)
    (hdb : (x == ("__debug__" : Str)) = false := by decide)
    (hpl : ((backTo pos (starEach [] X.env)).any (·.1) || (backToKw pos (keywordEach kws X.env)).any (·.1.isNone)) = false := by rfl) :
    PE X (.Call (.Name x p) [] kws pos) (tCallN 0 ks.length sp gV E tNil tk) := by
  obtain ⟨f, fd, F, hm, hk, hb⟩ := C.ex
  constructor
  intro pins s σ H Q I h
  refine wpAny_Call_Name_kw (ld_glob I hg hm ?_ hdb)
  have h : tk σ H fun zs H2 => ([] : List V).length = 0 ∧ zs.length = ks.length ∧ sp (gV [] zs) H2 Q E := h
  refine PySem.W.callWith_KW0 (h₀ := X.base) I.ok.mod.kin hk hall (thn (hkw.run pos pins s σ H _ I h) ?_) hpl
  rintro ws s2 ⟨zs, H2, I2, rz, _, l2, q2⟩
  refine ⟨I2.kIn, ?_⟩
  rw [hks]
  exact enter (args := ⟨[], ks.zip ws⟩) F hr hx I2
    (hb.to s2 [] ws I2.kIn rfl (rz.length.symm.trans l2)) (hb.rel .nil rz) q2
/-- f(e, .., k = v, ..) -/
theorem pe_calpk (C : CalK X.prog X.w X.K X.mg X.base CX k x ps n ks g gV sp) (hr : Rm k X.A) (hx : Passes CX X E)
    (ha : PA X (e :: es) t) (hkw : PK X kws tk) (hg : Gl X x := by rfl)
    (hall : (backToKw pos (keywordEach kws X.env)).all (·.1.isSome) = true := by rfl)
    (hks : (backToKw pos (keywordEach kws X.env)).filterMap (·.1) = ks := by rfl)
    (hdb : (x == ("__debug__" : Str)) = false := by decide)
    (he : starEach (e :: es) X.env = (false, eval e X.env) :: starEach es X.env := by rfl)
    (hpl : ((backTo pos (starEach (e :: es) X.env)).any (·.1) || (backToKw pos (keywordEach kws X.env)).any (·.1.isNone)) = false := by rfl) :
    PE X (.Call (.Name x p) (e :: es) kws pos) (tCallN n ks.length sp gV E t tk) := by
  obtain ⟨f, fd, F, hm, hk, hb⟩ := C.ex
  constructor
  intro pins s σ H Q I h
  refine wpAny_Call_Name_kw (ld_glob I hg hm ?_ hdb)
  refine PySem.W.callWith_KW (h₀ := X.base) I.ok.mod.kin hk hall (thn (ha.run pos pins s σ H _ I h) ?_) hpl he
  rintro us s1 ⟨vs, H1, I1, r, q⟩
  refine thn (hkw.run pos pins s1 σ H1 _ I1 q) ?_
  rintro ws s2 ⟨zs, H2, I2, rz, l1, l2, q2⟩
  refine ⟨I2.kIn, ?_⟩
  rw [hks]
  exact enter (args := ⟨us, ks.zip ws⟩) F hr hx I2
    (hb.to s2 us ws I2.kIn (r.length.symm.trans l1) (rz.length.symm.trans l2)) (hb.rel r rz) q2
end

/-! ## 3. The law's own call -/
theorem first_call {P : Program} {w : World} {K : PySem.W.Frag} {mg mb : Str → Option Value} {CX : CXT} {k : Nat}
    {fa a : Addr} {fd : FuncData} {x : Str} {sp : Sp} {s : Shared} {vs : List Value} {ns : List Int}
    (KX : K.In s.heap) (hns : s.heap.Ns mainGlobals mg) (hb : s.heap.Ns builtinsNs mb)
    (hbb : ∀ x : Str, x ≠ "__name__" → mb x = bootBuiltins x) (hlim : s.heap.NoLimit) (hg : s.gens = #[])
    (ha : s.heap.get? a = some { cls := .type "list", data := .seq vs.toArray }) (hi : IntsAre vs ns)
    (hl : ns.length ≤ sizeLine) (hr : Rm k callerA)
    (F : ∀ base : Heap, K.In base → base.Ns mainGlobals mg → Fg P w K mg base CX k fa fd [x] sp)
    (hbind : ∀ (s : Shared) (u : Value), BindsTo s fd ⟨[u], []⟩ [(x, u)])
    (hsp : ∀ H : Hp, Only H → SqL K H a (ns.map V.int) → sp [.ref a] H (fun v _ => v = .bl true) fun _ _ _ => False)
    (hCX : ∀ H e s', CX [] H s (fun _ _ _ => False) e s' → False) :
    codeAny (model P w) callerA (.call (.ref fa) ⟨[.ref a], []⟩)
      (fun r s' => r = .ok (.ret (.bool true)) ∧ OldK s.heap s'.heap ∧ s'.os = s.os ∧ AllBare s'.gens) s := by
  -- what is tracked at first: the script at most
  let o : Obj := { cls := .type "list", data := .seq vs.toArray }
  have main : ∀ H : Hp, (∀ b, H b = none ∨ (b = a ∧ H b = some (.frz o (.lst (ns.map V.int))) ∧ K.lookup a = none)) →
      SqL K H a (ns.map V.int) → HOk P w H s.heap → codeAny (model P w) callerA (.call (.ref fa) ⟨[.ref a], []⟩)
      (fun r s' => r = .ok (.ret (.bool true)) ∧ OldK s.heap s'.heap ∧ s'.os = s.os ∧ AllBare s'.gens) s := by
    intro H hH hS hok
    have dictFree : ∀ {b : Addr} {ob : Obj} {es : Array DictEntry} {ep : Nat}, s.heap.get? b = some ob →
        ob.data = .dict es ep → H b = none := by
      intro b ob es ep e d
      rcases hH b with q | ⟨rfl, q, _⟩
      · exact q
      · rw [ha] at e
        cases e
        exact nomatch d
    have nsB : ∀ {b : Addr} {m : Str → Option Value}, s.heap.Ns b m → (hidT s.heap H).Ns b m := by
      rintro b m ⟨ob, es, ep, e, d, r⟩
      exact ⟨ob, es, ep, hidT_get e (dictFree e d), d, r⟩
    have kB : K.In (hidT s.heap H) := by
      intro b ob e
      refine hidT_get (KX b ob e) ?_
      rcases hH b with q | ⟨rfl, _, q⟩
      · exact q
      · rw [e] at q
        cases q
    have lim' : (hidT s.heap H).NoLimit := by
      obtain ⟨mc, h1, h2⟩ := hlim
      exact ⟨mc, nsB h1, h2⟩
    have md : Mod K mg (hidT s.heap H) := ⟨kB, nsB hns, ⟨mb, nsB hb, hbb⟩, lim'⟩
    have nob : ∀ b ∈ frs ([] : List Env), H b = none := fun b hb => by cases hb
    have e0 : Env0 P w K mg (hidT s.heap H) callerA [] s H :=
      ⟨rfl, md, fun b ob e => of_hidT e, Nat.le_of_eq (hidT_size _ _), trivial, nob, hok, .of_eq hg⟩
    have oH : Only H := by
      intro b
      rcases hH b with q | ⟨_, q, _⟩
      · exact .inl q
      · exact .inr ⟨_, _, q⟩
    have run := (F _ kB (nsB hns)).go callerA [] s H ⟨[.ref a], []⟩ [.ref a] [.ref a] _ _ hr e0
      (hbind s (.ref a)) (.cons rfl .nil) (hsp H oH hS)
    refine codeAny_mono run ?_
    intro r s' h
    match r, h with
    | .error e, h => exact (hCX H e s' h).elim
    | .ok .next, h => exact False.elim h
    | .ok .brk, h => exact False.elim h
    | .ok .cont, h => exact False.elim h
    | .ok (.ret u), h =>
      obtain ⟨v, H', os, bare, un, hok', rv, q⟩ := h
      have q : v = .bl true := q
      subst q
      have ru : u = Value.bool true := rv
      subst ru
      refine ⟨rfl, OldK.of_keep ?_, os, bare⟩
      intro b ob e
      rcases hH b with q | ⟨_, q, _⟩
      · exact un.keep b ob e q (fun z => by cases z) (fun z => by cases z)
      · obtain ⟨e1, _⟩ := hok b _ q
        obtain ⟨e2, _⟩ := hok' b _ (un.frzs b o _ q)
        rw [e] at e1
        cases e1
        exact e2
  have rv := vals_ints hi
  cases hk : K.lookup a with
  | some ob =>
    have e := KX a ob hk
    rw [ha] at e
    cases e
    refine main (fun _ => none) (fun b => .inl rfl) (.inr ⟨_, vs.toArray, _, hk, rfl, rfl, rfl, ?_, by simpa using rv⟩) (fun b u z => by cases z)
    rw [List.size_toArray, hi.length]
    exact hl
  | none =>
    let H1 : Hp := fun b => if b = a then some (.frz o (.lst (ns.map V.int))) else none
    have at1 : H1 a = some (.frz o (.lst (ns.map V.int))) := if_pos rfl
    refine main H1 ?_ (.inl (.inr ⟨o, at1⟩)) ?_
    · intro b
      by_cases hb : b = a
      · subst hb
        exact .inr ⟨rfl, at1, hk⟩
      · exact .inl (if_neg hb)
    · intro b u z
      by_cases hb : b = a
      · subst hb
        rw [at1] at z
        cases z
        exact ⟨ha, by rw [List.length_map]; exact hl, vs, _, rv, ha⟩
      · have z' : H1 b = none := if_neg hb
        rw [z'] at z
        cases z

/-- the goal behind the head -/
theorem law_walk {l : PySem.W.OpenLaw} {n k : Nat} {q : Program} {loose : List Str} {XP : (Str → Option Value) → Heap → Prop}
    {YP : World → Heap → Prop} {d : DefRec} {CX : CXT} {x : Str}
    (hn : l.most = some n) (hn2 : n ≤ sizeLine) (hdf : d.params.defaults = []) (hr : Rm k callerA)
    (F : ∀ (w : World) (mg : Str → Option Value) (fa : Addr) (h : Heap), YP w h → h.Ns mainGlobals mg → mg d.name = some (.ref fa) →
      ∃ (K : PySem.W.Frag) (fd : FuncData) (sp : Sp), K.In h ∧ (∀ (s : Shared) (u : Value), BindsTo s fd ⟨[u], []⟩ [(x, u)]) ∧
        (∀ (H : Hp) (a : Addr) (ns : List Int), ns.length ≤ n → Only H → SqL K H a (ns.map V.int) →
          sp [.ref a] H (fun v _ => v = .bl true) fun _ _ _ => False) ∧
        ∀ base : Heap, K.In base → base.Ns mainGlobals mg → Fg l.prog w K mg base CX k fa fd [x] sp)
    (hCX : ∀ (H : Hp) (s : Shared) (e : Value) (s' : Shared), CX [] H s (fun _ _ _ => False) e s' → False) :
    PySem.W.WalkO q loose XP YP l.row.toRowW d [] (fun f vs => PySem.call f vs) := by
  refine Att.attach_call hn hdf ?_
  intro w s₀ s₁ mg mb fa o pm cd doc a vs ns G Y ho hd hcd hmg hobj hints hlen hg
  obtain ⟨K, fd, sp, KX, hb, hsp, hF⟩ := F w mg fa _ Y G.T.g hmg
  exact first_call KX G.T.g G.T.b G.T.builtins G.T.nolimit hg hobj hints (Nat.le_trans hlen hn2) hr hF hb
    (fun H hO hS => hsp H a ns hlen hO hS) (fun H e s' => hCX H s₁ e s')
end VB
namespace VB
open PySem PySem.Spec PyProof.Rows L2
mutual
theorem dp_noDict {K : PySem.W.Frag} {H : Hp} : ∀ {d : PyData} {v : V}, Dp K H v d → d.hasDict = false
  | .none, _, _ => by simp only [PyData.hasDict]
  | .bool _, _, _ => by simp only [PyData.hasDict]
  | .int _, _, _ => by simp only [PyData.hasDict]
  | .str _, _, _ => by simp only [PyData.hasDict]
  | .list ds, _, .lst _ h => by
    simp only [PyData.hasDict]
    exact dpAll_noDict h
  | .tuple ds, _, .tup _ h => by
    simp only [PyData.hasDict]
    exact dpAll_noDict h
  | .dict _, _, h => nomatch h
theorem dpAll_noDict {K : PySem.W.Frag} {H : Hp} : ∀ {ds : List PyData} {vs : List V}, DpAll K H vs ds → PyData.hasDictAll ds = false
  | [], _, _ => by simp only [PyData.hasDictAll]
  | d :: ds, _, .cons h t => by simp only [PyData.hasDictAll, dp_noDict h, dpAll_noDict t, Bool.or_self]
end
section
variable {X : Cx} {k : Nat}
/-- repr(x), x data of any depth without dicts -/
@[irreducible] def rRepr (K : PySem.W.Frag) : List V → Hp → VK → Prop := fun xs H Q => ∃ (a : Addr) (d : PyData), xs = [.ref a] ∧
  Dp K H (.ref a) d ∧ d.showable = true ∧ d.depth ≤ 60 ∧ d.shown.length ≤ sizeLine ∧ Q (.str d.shown) H
theorem call_repr (hr : Rm k X.A) : CallR X (.builtin "repr") (rRepr X.K) := by
  intro pins s σ H xs us Q I r h
  unfold rRepr at h
  obtain ⟨a, d, rfl, hd, hs, hdep, hl, q⟩ := h
  obtain ⟨u, rfl, ru⟩ := vals1 r
  obtain ⟨as, rd⟩ := Dp.reads I d _ u hd ru
  cases (show u = Value.ref a from ru)
  have hu := hr.rm.un
  refine repr_of_reads' rd hs (PyData.noDict_hsm (dp_noDict hd)) hr.gd (by omega) (fun _ _ e => e) ?_ hl
  intro h' u tk kp
  refine ⟨.str d.shown, H, ?_, ⟨u, rfl⟩, q⟩
  exact I.un (Un.kept kp) (I.hok.kept kp)
end
end VB
namespace VB
open PySem PySem.Spec PyProof.Rows L2
section
variable {X : Cx} {K : PySem.W.Frag}
def rAddU (K : PySem.W.Frag) : R2 := fun x y H Q => rI0 (fun i j => .int (i + j)) x y H Q ∨ (rCat x y H Q ∨ rCatT K x y H Q)
theorem u_add (hK : X.K = K := by rfl) : OpR X (binaryOp .Add) (rAddU K) := by
  subst hK
  exact op_add.or (op_cat.or op_catT)
def rMulU (K : PySem.W.Frag) : R2 := fun x y H Q => rI CMulX (fun i j => .int (i * j)) x y H Q ∨ (rRep x y H Q ∨ rRepT K x y H Q)
theorem u_mul (hK : X.K = K := by rfl) : OpR X (binaryOp .Mult) (rMulU K) := by
  subst hK
  exact op_mulX.or (op_rep.or op_repT)
def rEqU (K : PySem.W.Frag) : R2 := fun x y H Q => rEq x y H Q ∨ rEqD K x y H Q
theorem u_eq {k : Nat} (hr : Rm k X.A) (hK : X.K = K := by rfl) : OpR X (compareOp .Eq) (rEqU K) := by
  subst hK
  exact op_eq.or (op_eqD hr.rm.units)
def rNeU (K : PySem.W.Frag) : R2 := fun x y H Q => rNe x y H Q ∨ rNeD K x y H Q
theorem u_ne {k : Nat} (hr : Rm k X.A) (hK : X.K = K := by rfl) : OpR X (compareOp .NotEq) (rNeU K) := by
  subst hK
  exact op_ne.or (op_neD hr.rm.units)
def rSlU (K : PySem.W.Frag) : V → Option Int → Option Int → Hp → VK → Prop := fun x lo hi H Q => rSlL K x lo hi H Q ∨ (rSlT K x lo hi H Q ∨ rSlS x lo hi H Q)
theorem u_sl (hK : X.K = K := by rfl) : SlR X (rSlU K) := by
  subst hK
  exact sl_list.or (sl_tup.or sl_str)
theorem u_ix (hK : X.K = K := by rfl) : IxR X (rIx K) := by
  subst hK
  exact ix_seq
theorem u_in (hK : X.K = K := by rfl) : OpR X (compareOp .In) (rIn K false) := by
  subst hK
  exact op_in_seq
theorem u_notin (hK : X.K = K := by rfl) : OpR X (compareOp .NotIn) (rIn K true) := by
  subst hK
  exact op_notIn_seq
def rLenU (K : PySem.W.Frag) : List V → Hp → VK → Prop := fun xs H Q => ∃ x n, xs = [x] ∧ LenV K x H n ∧ Q (.int n) H
theorem u_len (hK : X.K = K := by rfl) : CallR X (.builtin "len") (rLenU K) := by
  subst hK
  exact call_len
theorem u_isi (hK : X.K = K := by rfl) : CallR X (.builtin "isinstance") (rIsi K) := by
  subst hK
  exact call_isi
theorem u_isiT (hK : X.K = K := by rfl) : CallR X (.builtin "isinstance") (rIsiT K) := by
  subst hK
  exact call_isiT
theorem u_sum (hc : X.calm = true) (hK : X.K = K := by rfl) : CallR X (.builtin "sum") (rSum K) := by
  subst hK
  exact cr_sum hc
theorem u_all (hc : X.calm = true) (hK : X.K = K := by rfl) : CallR X (.builtin "all") (rAll K) := by
  subst hK
  exact cr_all hc
theorem u_any (hc : X.calm = true) (hK : X.K = K := by rfl) : CallR X (.builtin "any") (rAny K) := by
  subst hK
  exact cr_any hc
theorem u_repr {k : Nat} (hr : Rm k X.A) (hK : X.K = K := by rfl) : CallR X (.builtin "repr") (rRepr K) := by
  subst hK
  exact call_repr hr
def rListU (K : PySem.W.Frag) : List V → Hp → VK → Prop := fun xs H Q => ∃ p ys, xs = [.ref p] ∧ (SqL K H p ys ∨ SqT K H p ys) ∧ ∀ l, H l = none → Q (.ref l) (upd H l (.lst ys))
theorem u_list (hK : X.K = K := by rfl) : CallR X (.type "list") (rListU K) := by
  subst hK
  exact call_list_of
def rTupU (K : PySem.W.Frag) : List V → Hp → VK → Prop := fun xs H Q => ∃ p ys, xs = [.ref p] ∧ ((SqL K H p ys ∧ ∀ l, H l = none → Q (.ref l) (upd H l (.tup ys))) ∨ (SqT K H p ys ∧ Q (.ref p) H))
theorem u_tup (hK : X.K = K := by rfl) : CallR X (.type "tuple") (rTupU K) := by
  subst hK
  exact call_tuple_of
theorem u_count (hK : X.K = K := by rfl) : MtR X "list.count" (rCntI K) := by
  subst hK
  exact mt_lcount
def tTru (K : PySem.W.Frag) (ta : TE) : TT := fun σ H Q => ta σ H fun x H' => ∃ k, TruV K x H' k ∧ Q k H'
theorem pt_tru {a : Expr} {ta : TE} (ha : PE X a ta) (he : ∀ whole, isTrue a X.env whole = (do let v ← whole; standAt a.pos; holding [v] (truthy v))) (hK : X.K = K := by rfl) : PT X a (tTru K ta) := by
  subst hK
  exact pt_truth ha he
theorem pi_either {tg iter : Expr} {a b : TI} (h : PI X tg iter a) (h' : PI X tg iter b) : PI X tg iter (fun σ H R => a σ H R ∨ b σ H R) := by
  constructor
  intro pins s σ H R I q
  rcases q with q | q
  · exact h.run pins s σ H R I q
  · exact h'.run pins s σ H R I q
def iSeq (K : PySem.W.Frag) (t : TE) : TI := fun σ H R => iList K t σ H R ∨ iTup K t σ H R
theorem pi_seq {tg e : Expr} {t : TE} (h : PE X e t) (hK : X.K = K := by rfl) : PI X tg e (iSeq K t) := by
  subst hK
  exact pi_either (pi_list h) (pi_tup h)
theorem pi_enu {e : Expr} {ta : TA} {p pos tpos : Pos} {elts : List Expr} {kk : Nat} (hg : Gl X "enumerate") (hm : X.mg "enumerate" = none) (ha : PA X [e] ta) (hK : X.K = K := by rfl)
    (hs : starEach [e] X.env = (false, eval e X.env) :: starEach [] X.env := by rfl) : PI X (.Tuple elts kk tpos) (.Call (.Name "enumerate" p) [e] [] pos) (iEnum K ta) := by
  subst hK
  exact pi_enum hg hm ha hs
theorem pg_tupU {es : List Expr} {k : Nat} {t : TGs} {n : Nat} {pos : Pos} (hc : X.calm = true) (h : PGs X es t) (hK : X.K = K := by rfl)
    (hn : (assignEach es X.env).length = n := by rfl) (hst : (assignEach es X.env).findIdx? (·.1) = none := by rfl) : PG X (.Tuple es k pos) (gTup K n t) := by
  subst hK
  exact pg_tup hc h hn hst
/-- an int's remainder and quotient by a positive one, as they are -/
theorem fmodE {a b : Int} (h : 0 ≤ b := by decide) : a.fmod b = a % b := Int.fmod_eq_emod_of_nonneg a h
theorem fdivE {a b : Int} (h : 0 ≤ b := by decide) : a.fdiv b = a / b := Int.fdiv_eq_ediv_of_nonneg a h
/-- by a positive divisor -/
theorem u_mod : OpR X (binaryOp .Mod) (rI (fun _ j => 0 < j) fun i j => .int (i % j)) := by
  intro pins s σ H x y v u Q I rx ry h
  obtain ⟨i, j, rfl, rfl, hj, q⟩ := h
  refine op_modN pins s σ H _ _ v u Q I rx ry ⟨i, j, rfl, rfl, by omega, ?_⟩
  show Q (.int (i.fmod j)) H
  rw [fmodE (by omega)]
  exact q
theorem u_fdiv : OpR X (binaryOp .FloorDiv) (rI (fun _ j => 0 < j ∧ j < 1073741824) fun i j => .int (i / j)) := by
  intro pins s σ H x y v u Q I rx ry h
  obtain ⟨i, j, rfl, rfl, hj, q⟩ := h
  refine op_fdivN pins s σ H _ _ v u Q I rx ry ⟨i, j, rfl, rfl, ⟨by omega, by omega⟩, ?_⟩
  show Q (.int (i.fdiv j)) H
  rw [fdivE (by omega)]
  exact q
end
end VB
namespace VB
/-- what follows, shown once for several ways -/
theorem once {R G : Prop} (main : R → G) (rest : R) : G := main rest
end VB
/-! sequences: lists and tuples alike -/
namespace VB
open PySem PySem.Spec PyProof.Rows L2
/-- a list (false) or a tuple (true) of the values xs -/
def Sv (t : Bool) (K : PySem.W.Frag) (H : Hp) (a : Addr) (xs : List V) : Prop := match t with
  | false => SqL K H a xs
  | true => SqT K H a xs
section
variable {K : PySem.W.Frag} {H H' : Hp} {a : Addr} {xs : List V} {t : Bool}
theorem Sv.ex (h : Sv t K H a xs) (e : Evl.Ex H H') : Sv t K H' a xs := by
  cases t with
  | false => exact Evl.ex_l e (show SqL K H a xs from h)
  | true => exact Evl.ex_t e (show SqT K H a xs from h)
theorem Sv.lst (h : H a = some (.lst xs)) : Sv false K H a xs := SqL.of h
theorem Sv.tup (h : H a = some (.tup xs)) : Sv true K H a xs := SqT.of h
/-- a walk over what stands in a slot -/
theorem seq_var {i : Nat} {σ : L2.St} {R : It → Hp → Prop} (e : σ[i]? = some (some (.ref a))) (S : Sv t K H a xs)
    (h : ∀ J, Walk J xs.length (fun H => Sv t K H a xs) (YAt xs) → R J H) : iSeq K (tVar i) σ H R := by
  cases t with
  | false => exact .inl ⟨_, e, a, rfl, ⟨xs, S⟩, h _ walk_list⟩
  | true => exact .inr ⟨_, e, a, rfl, ⟨xs, S⟩, h _ walk_tup⟩
theorem Sv.len (S : Sv t K H a xs) : LenV K (.ref a) H xs.length := by
  cases t with
  | false => exact .inl ⟨xs, S, rfl⟩
  | true => exact .inr ⟨xs, S, rfl⟩
theorem Sv.ix {x v : V} {i : Int} {Q : VK} (S : Sv t K H a xs) (h : atI xs i = some v) (q : Q v H) : rIx K (.ref a) (.int i) H Q := by
  cases t with
  | false => exact .inl ⟨a, xs, i, v, rfl, rfl, S, h, q⟩
  | true => exact .inr (.inl ⟨a, xs, i, v, rfl, rfl, S, h, q⟩)
theorem Sv.either (S : Sv t K H a xs) : SqL K H a xs ∨ SqT K H a xs := by
  cases t with
  | false => exact .inl S
  | true => exact .inr S
end
/-- a range by a step upward -/
theorem rg_up {n c : Int} (hn : 0 ≤ n) (hn2 : n < 1000000) (hc : 0 < c) (hc2 : c < 1000000) : RgC 0 n c ((n + c - 1) / c).toNat := by
  refine ⟨by omega, by omega, ?_, ?_⟩
  · have z := PyProof.Rows.rangeSize_pos (len := n) (c := c) (by omega) hn
    have d : 0 ≤ (n + c - 1) / c := Int.ediv_nonneg (by omega) (by omega)
    have d2 : (n + c - 1) / c ≤ n + c - 1 := Int.ediv_le_self _ (by omega)
    have d3 : (n + c - 1) / c * c ≤ n + c - 1 := Int.ediv_mul_le _ (by omega)
    unfold Builtin.Range.small
    rw [z]
    simp only [Builtin.Range.rangeFitsLong, Bool.and_eq_true, Bool.or_eq_true, decide_eq_true_eq, beq_iff_eq, hc, gt_iff_lt, if_true]
    omega
  · have d : 0 ≤ (n + c - 1) / c := Int.ediv_nonneg (by omega) (by omega)
    rw [PyProof.Rows.rangeSize_pos (by omega) hn]
    omega
/-- the promises' shapes: a new list, a new tuple, a value; what stood stands -/
abbrev RL (xs : List V) (H : Hp) (Q : VK) : Prop := ∀ (p : Addr) (H' : Hp), H p = none → Evl.Ex H H' → H' p = some (.lst xs) → Q (.ref p) H'
abbrev RT (xs : List V) (H : Hp) (Q : VK) : Prop := ∀ (p : Addr) (H' : Hp), H p = none → Evl.Ex H H' → H' p = some (.tup xs) → Q (.ref p) H'
abbrev RV (v : V) (H : Hp) (Q : VK) : Prop := ∀ H' : Hp, Evl.Ex H H' → Q v H'
/-- ints as values -/
abbrev IV (ns : List Int) : List V := ns.map V.int
theorem iv_get {ns : List Int} {i : Nat} {x : V} (h : (IV ns)[i]? = some x) : ∃ n, ns[i]? = some n ∧ x = .int n := by
  rw [List.getElem?_map] at h
  cases e : ns[i]? with
  | none => rw [e] at h; cases h
  | some n =>
    rw [e] at h
    exact ⟨n, rfl, (Option.some.inj h).symm⟩
theorem iv_at {ns : List Int} {i : Nat} {n : Int} (h : ns[i]? = some n) : atI (IV ns) (i : Int) = some (.int n) := by
  apply atI_nat
  rw [List.getElem?_map, h]
  rfl
theorem iv_len (ns : List Int) : (IV ns).length = ns.length := List.length_map ..
theorem iv_snoc (ns : List Int) (n : Int) : IV ns ++ [V.int n] = IV (ns ++ [n]) := by simp
theorem take_snoc {α : Type} {l : List α} {i : Nat} {x : α} (h : l[i]? = some x) : l.take (i + 1) = l.take i ++ [x] := by
  rw [List.take_add_one, h]
  rfl
/-- a comprehension over a range that changes nothing: us its items -/
theorem lc_pureR {n j : Nat} {us : List Int} {te : TE} {vs : List Nat} {σ : L2.St} {H1 : Hp} {D : Addr} {Qd : Hp → Prop} (hl : us.length = n) (hz : n ≤ 60000) (hD : H1 D = none)
    (hw : ∀ x, wipe ((wipe σ vs).set j x) vs = wipe σ vs)
    (hs : ∀ (i : Nat) (u : Int) (H : Hp) (Q : VK), us[i]? = some u → Evl.Ex H1 H → (∀ H' : Hp, Evl.Ex H H' → Q (.int u) H') → te ((wipe σ vs).set j (some (.int (i : Int)))) H Q)
    (hd : ∀ H, Evl.Ex H1 H → H D = some (.lst (IV us)) → Qd H) :
    ∃ W : Nat → Nat → Hp → Prop, (∃ m, W 0 m (upd H1 D (.lst []))) ∧ ∀ i m H, W i m H →
      ((Itr 0 n).stop i H ∧ Qd H) ∨ ((Itr 0 n).go i H ∧ ∃ Nx : Hp → Prop, (∀ H', Nx H' → ∃ m', m' < m ∧ W (i + 1) m' H') ∧ ∀ x H', (Itr 0 n).yld i H x H' →
        gName j x (wipe σ vs) H' fun σ2 H2 => wipe σ2 vs = wipe σ vs ∧ tYes σ2 H2 fun b H3 =>
        if b = true then te σ2 H3 fun y H4 => ∃ acc, H4 D = some (.lst acc) ∧ acc.length < sizeLine ∧ Nx (upd H4 D (.lst (acc ++ [y]))) else Nx H3) := by
  refine lc_range (lo := 0) (n := n) (fun i H' => Evl.Ex H1 H' ∧ i ≤ n ∧ H' D = some (.lst (IV (us.take i)))) ⟨Evl.Ex.new hD, Nat.zero_le _, upd_same⟩ ?_ ?_
  · rintro i H hi ⟨e1, hi2, h1⟩
    have e0 : (0 : Int) + (i : Int) = (i : Int) := Int.zero_add _
    rw [e0]
    refine ⟨hw _, ?_⟩
    obtain ⟨u, hu⟩ : ∃ u, us[i]? = some u := ⟨us[i]'(by omega), by simp [show i < us.length by omega]⟩
    show te _ H _
    refine hs i u H _ hu e1 fun H' e2 => ⟨_, e2 D _ h1, ?_, Evl.Ex.mut (e1.trans e2) hD, by omega, ?_⟩
    · rw [iv_len, List.length_take]
      exact Evl.sz_lt (by omega)
    · rw [upd_same, iv_snoc, take_snoc hu]
  · rintro H ⟨e1, _, h1⟩
    refine hd H e1 ?_
    rw [h1, ← hl, List.take_length]
/-- .. over a sequence -/
theorem lc_pureS {J : It} {G : Hp → Prop} {n j : Nat} {us : List Int} {xs : List V} {te : TE} {vs : List Nat} {σ : L2.St} {H1 : Hp} {D : Addr} {Qd : Hp → Prop} (wk : Walk J n G (YAt xs)) (hG : ∀ H, Evl.Ex H1 H → G H)
    (hl : us.length = n) (hz : n ≤ 60000) (hD : H1 D = none) (hw : ∀ x, wipe ((wipe σ vs).set j x) vs = wipe σ vs)
    (hs : ∀ (i : Nat) (x : V) (u : Int) (H : Hp) (Q : VK), xs[i]? = some x → us[i]? = some u → Evl.Ex H1 H → (∀ H' : Hp, Evl.Ex H H' → Q (.int u) H') → te ((wipe σ vs).set j (some x)) H Q)
    (hd : ∀ H, Evl.Ex H1 H → H D = some (.lst (IV us)) → Qd H) :
    ∃ W : Nat → Nat → Hp → Prop, (∃ m, W 0 m (upd H1 D (.lst []))) ∧ ∀ i m H, W i m H →
      (J.stop i H ∧ Qd H) ∨ (J.go i H ∧ ∃ Nx : Hp → Prop, (∀ H', Nx H' → ∃ m', m' < m ∧ W (i + 1) m' H') ∧ ∀ x H', J.yld i H x H' →
        gName j x (wipe σ vs) H' fun σ2 H2 => wipe σ2 vs = wipe σ vs ∧ tYes σ2 H2 fun b H3 =>
        if b = true then te σ2 H3 fun y H4 => ∃ acc, H4 D = some (.lst acc) ∧ acc.length < sizeLine ∧ Nx (upd H4 D (.lst (acc ++ [y]))) else Nx H3) := by
  refine lc_it wk (fun i H' => Evl.Ex H1 H' ∧ i ≤ n ∧ H' D = some (.lst (IV (us.take i)))) ⟨Evl.Ex.new hD, Nat.zero_le _, upd_same⟩ (fun i H _ h => hG H h.1) ?_ ?_
  · rintro i x H H' hi ⟨e1, hi2, h1⟩ ⟨rfl, hx⟩
    refine ⟨hw _, ?_⟩
    obtain ⟨u, hu⟩ : ∃ u, us[i]? = some u := ⟨us[i]'(by omega), by simp [show i < us.length by omega]⟩
    show te _ H' _
    refine hs i x u H' _ hx hu e1 fun H'' e2 => ⟨_, e2 D _ h1, ?_, Evl.Ex.mut (e1.trans e2) hD, by omega, ?_⟩
    · rw [iv_len, List.length_take]
      exact Evl.sz_lt (by omega)
    · rw [upd_same, iv_snoc, take_snoc hu]
  · rintro H ⟨e1, _, h1⟩
    refine hd H e1 ?_
    rw [h1, ← hl, List.take_length]
end VB
/-! data of ints: what stands, what repr shows, what == says -/
namespace VB
open PySem PySem.Spec PyProof.Rows L2
abbrev DL (ns : List Int) : PyData := .list (ns.map .int)
abbrev DT (ns : List Int) : PyData := .tuple (ns.map .int)
section
variable {K : PySem.W.Frag} {H H' : Hp} {a : Addr} {ns : List Int} {t : Bool}
theorem dpAll_ints : ∀ ns : List Int, DpAll K H (IV ns) (ns.map .int)
  | [] => .nil
  | n :: ns => .cons (.int n) (dpAll_ints ns)
theorem dp_l (h : SqL K H a (IV ns)) : Dp K H (.ref a) (DL ns) := .lst h (dpAll_ints ns)
theorem dp_t (h : SqT K H a (IV ns)) : Dp K H (.ref a) (DT ns) := .tup h (dpAll_ints ns)
end
/-- what can be shown, its depth and its text's length bounded -/
structure Sh (d : PyData) (h b : Nat) : Prop where
  ok : d.showable = true
  dep : d.depth ≤ h
  len : d.shown.length ≤ b
theorem Sh.le {d : PyData} {h b h' b' : Nat} (s : Sh d h b) (h1 : h ≤ h' := by omega) (h2 : b ≤ b' := by omega) : Sh d h' b' :=
  ⟨s.ok, Nat.le_trans s.dep h1, Nat.le_trans s.len h2⟩
theorem pow2_lt : ∀ n : Nat, n < 2 ^ n
  | 0 => by decide
  | n + 1 => by
    have := pow2_lt n
    rw [Nat.pow_succ]
    omega
theorem log2_le_self (n : Nat) : n.log2 ≤ n := by
  by_cases h : n = 0
  · subst h
    decide
  · have q := Nat.log2_self_le h
    have p := pow2_lt n.log2
    omega
theorem sh_int {n : Int} (h : 0 ≤ n ∧ n < 10000 ∧ n.natAbs.log2 < 1920) : Sh (.int n) 0 4 := by
  refine ⟨by simp only [PyData.showable, decide_eq_true_eq]; exact h.2.2, by simp only [PyData.depth]; exact Nat.le_refl _, ?_⟩
  rw [PyData.shown_int]
  exact toString_length_le h.1 (by decide) (by omega)
theorem log_small {n : Int} (h : 0 ≤ n) (h2 : n < 10000) : n.natAbs.log2 < 1920 := by
  by_cases z : n.natAbs = 0
  · rw [z]
    decide
  · have q := Nat.log2_lt z (k := 1920)
    refine q.mpr (Nat.lt_of_lt_of_le (m := 2 ^ 14) (by omega) (Nat.pow_le_pow_right (by decide) (by decide)))
theorem piled_le {b : Nat} : ∀ ts : List Str, (∀ t ∈ ts, t.length ≤ b) → piled ts ≤ (b + 2) * ts.length
  | [], _ => Nat.zero_le _
  | t :: ts, h => by
    have a := h t (List.mem_cons_self ..)
    have c := piled_le ts fun u hu => h u (List.mem_cons_of_mem _ hu)
    rw [piled_cons, List.length_cons, Nat.mul_succ]
    omega
theorem join_le {b : Nat} (ts : List Str) (h : ∀ t ∈ ts, t.length ≤ b) : (Str.join ", " ts).length ≤ (b + 2) * ts.length := by
  by_cases z : ts = []
  · subst z
    exact Nat.zero_le _
  · have j := join_length_add ts z
    have p := piled_le ts h
    omega
theorem mem_shown {x : Str} : ∀ {ds : List PyData}, x ∈ PyData.shownAll ds → ∃ d ∈ ds, x = d.shown
  | [], h => by
    rw [PyData.shownAll_nil] at h
    cases h
  | d :: ds, h => by
    rw [PyData.shownAll_cons] at h
    cases h with
    | head => exact ⟨d, List.mem_cons_self .., rfl⟩
    | tail _ h =>
      obtain ⟨e, he, q⟩ := mem_shown h
      exact ⟨e, List.mem_cons_of_mem _ he, q⟩
theorem depAll {h : Nat} : ∀ {ds : List PyData}, (∀ d ∈ ds, d.depth ≤ h) → PyData.depthAll ds ≤ h
  | [], _ => by simp only [PyData.depthAll]; exact Nat.zero_le _
  | d :: ds, q => by
    simp only [PyData.depthAll]
    exact Nat.max_le.mpr ⟨q d (List.mem_cons_self ..), depAll fun e he => q e (List.mem_cons_of_mem _ he)⟩
theorem str_app (a b : Str) : (a ++ b).length = a.length + b.length := by
  exact strLen_append a b
theorem sh_list {ds : List PyData} {h b n : Nat} (q : ∀ d ∈ ds, Sh d h b) (hn : ds.length ≤ n) : Sh (.list ds) (h + 1) ((b + 2) * n + 4) := by
  refine ⟨?_, ?_, ?_⟩
  · simp only [PyData.showable]
    exact PySem.Spec.showableAll_of fun d hd => (q d hd).ok
  · simp only [PyData.depth]
    exact Nat.succ_le_succ (depAll fun d hd => (q d hd).dep)
  · rw [PyData.shown_list, str_app, str_app]
    have j := join_le (b := b) (PyData.shownAll ds) (by
      intro t ht
      obtain ⟨d, hd, rfl⟩ := mem_shown ht
      exact (q d hd).len)
    rw [PyData.shownAll_length] at j
    have l1 : ("[" : Str).length = 1 := by decide
    have l2 : ("]" : Str).length = 1 := by decide
    have m : (b + 2) * ds.length ≤ (b + 2) * n := Nat.mul_le_mul_left _ hn
    omega
theorem sh_tup {ds : List PyData} {h b n : Nat} (q : ∀ d ∈ ds, Sh d h b) (hn : ds.length ≤ n) : Sh (.tuple ds) (h + 1) ((b + 2) * n + 4) := by
  refine ⟨?_, ?_, ?_⟩
  · simp only [PyData.showable]
    exact PySem.Spec.showableAll_of fun d hd => (q d hd).ok
  · simp only [PyData.depth]
    exact Nat.succ_le_succ (depAll fun d hd => (q d hd).dep)
  · rw [PyData.shown_tuple, str_app, str_app]
    have j := join_le (b := b) (PyData.shownAll ds) (by
      intro t ht
      obtain ⟨d, hd, rfl⟩ := mem_shown ht
      exact (q d hd).len)
    rw [PyData.shownAll_length] at j
    have l1 : ("(" : Str).length = 1 := by decide
    have l2 : (if ds.length == 1 then ",)" else ")" : Str).length ≤ 2 := by
      split <;> decide
    have m : (b + 2) * ds.length ≤ (b + 2) * n := Nat.mul_le_mul_left _ hn
    have l3 : (Str.ofString (if ds.length == 1 then ",)" else ")" : String)).length ≤ 2 := by
      split <;> decide
    omega
/-- ints below 10000 -/
def Sm (ns : List Int) : Prop := ∀ n ∈ ns, 0 ≤ n ∧ n < 10000
theorem sm_ds {ns : List Int} (h : Sm ns) : ∀ d ∈ ns.map PyData.int, Sh d 0 4 := by
  intro d hd
  obtain ⟨n, hn, rfl⟩ := List.mem_map.mp hd
  have := h n hn
  exact sh_int ⟨this.1, this.2, log_small this.1 this.2⟩
theorem sh_l {ns : List Int} (h : Sm ns) (hl : ns.length ≤ 6000) : Sh (DL ns) 1 40000 := (sh_list (sm_ds h) (n := 6000) (by simpa using hl)).le
theorem sh_t {ns : List Int} (h : Sm ns) (hl : ns.length ≤ 6000) : Sh (DT ns) 1 40000 := (sh_tup (sm_ds h) (n := 6000) (by simpa using hl)).le
section
variable {K : PySem.W.Frag} {H : Hp} {a b : Addr} {ns ms : List Int} {Q : VK}
theorem rp {d : PyData} {h n : Nat} (e : Dp K H (.ref a) d) (s : Sh d h n) (q : Q (.str d.shown) H) (hh : h ≤ 60 := by decide) (hn : n ≤ 1000000 := by omega) : rRepr K [.ref a] H Q := by
  unfold rRepr
  exact ⟨a, d, rfl, e, s.ok, Nat.le_trans s.dep hh, Nat.le_trans (Nat.le_trans s.len hn) (by decide), q⟩
theorem rp_l (e : SqL K H a (IV ns)) (h : Sm ns) (hl : ns.length ≤ 6000) (q : Q (.str (DL ns).shown) H) : rRepr K [.ref a] H Q := rp (dp_l e) (sh_l h hl) q
theorem rp_t (e : SqT K H a (IV ns)) (h : Sm ns) (hl : ns.length ≤ 6000) (q : Q (.str (DT ns).shown) H) : rRepr K [.ref a] H Q := rp (dp_t e) (sh_t h hl) q
theorem eqvAll_ints : ∀ xs ys : List Int, PyData.eqvAll (xs.map .int) (ys.map .int) = decide (xs = ys)
  | [], [] => by simp [PyData.eqvAll]
  | [], _ :: _ => by simp [PyData.eqvAll]
  | _ :: _, [] => by simp [PyData.eqvAll]
  | x :: xs, y :: ys => by
    simp only [List.map_cons, PyData.eqvAll, PyData.eqv, eqvAll_ints xs ys]
    by_cases h : x = y <;> by_cases h2 : xs = ys <;> simp [h, h2]
theorem canAll : ∀ ns : List Int, PyData.canLayAll0 (ns.map .int) = true
  | [] => by simp [PyData.canLayAll0]
  | n :: ns => by simp [PyData.canLayAll0, PyData.canLay0, canAll ns]
theorem depInts : ∀ ns : List Int, PyData.depthAll (ns.map .int) = 0
  | [] => by simp [PyData.depthAll]
  | n :: ns => by simp [PyData.depthAll, PyData.depth, depInts ns]
theorem shp_l (ns : List Int) : SeqAt.shaped (DL ns) = true := by simp [SeqAt.shaped, PyData.canLay0, PyData.depth, canAll, depInts]
theorem shp_t (ns : List Int) : SeqAt.shaped (DT ns) = true := by simp [SeqAt.shaped, PyData.canLay0, PyData.depth, canAll, depInts]
theorem req_l (e : SqL K H a (IV ns)) (e' : SqL K H b (IV ms)) (q : Q (.bl (decide (ns = ms))) H) : rEqD K (.ref a) (.ref b) H Q := by
  refine ⟨DL ns, DL ms, dp_l e, dp_l e', shp_l _, shp_l _, ?_⟩
  rw [show PyData.eqv (DL ns) (DL ms) = decide (ns = ms) by simp only [DL, PyData.eqv]; exact eqvAll_ints ns ms]
  exact q
theorem req_t (e : SqT K H a (IV ns)) (e' : SqT K H b (IV ms)) (q : Q (.bl (decide (ns = ms))) H) : rEqD K (.ref a) (.ref b) H Q := by
  refine ⟨DT ns, DT ms, dp_t e, dp_t e', shp_t _, shp_t _, ?_⟩
  rw [show PyData.eqv (DT ns) (DT ms) = decide (ns = ms) by simp only [DT, PyData.eqv]; exact eqvAll_ints ns ms]
  exact q
theorem rne_l (e : SqL K H a (IV ns)) (e' : SqL K H b (IV ms)) (q : Q (.bl (!decide (ns = ms))) H) : rNeD K (.ref a) (.ref b) H Q := by
  refine ⟨DL ns, DL ms, dp_l e, dp_l e', shp_l _, shp_l _, ?_⟩
  rw [show PyData.eqv (DL ns) (DL ms) = decide (ns = ms) by simp only [DL, PyData.eqv]; exact eqvAll_ints ns ms]
  exact q
end
end VB
/-! a tuple once is the tuple -/
namespace VB
open PySem PySem.Spec PyProof.Rows L2
theorem tuple_mul1 (l : Addr) (items : Array Value) (n : Nat) (dd : Option Addr) (sl : Array (Option Value)) (x : Int) (u : Tok) (c0 : (decide (x < -(2 ^ 63)) || decide (x ≥ 2 ^ 63)) = false) (c1 : (items.isEmpty || x == 1) = true) :
    Meets (Builtin.«tuple.__mul__» ⟨[.ref l, .int x u], []⟩) (fun _ R s => s.heap.get? l = some { cls := .type "tuple", dict := dd, data := .seq items n, slots := sl } ∧
      R (.ok (.ret (.ref l))) s) :=
  .of_wp fun prog w A R s h => by
    obtain ⟨hp, g, d, tk, os⟩ := s
    obtain ⟨hl, h⟩ := h
    have f1 := AutoSeq1.idx_int
    wp_walk using wpAny_loadPart' hl
    repeat (first
      | (refine wpAny_ite_false (decide_eq_false (by rw [c0]; exact Bool.false_ne_true)) ?_; wp_walk using wpAny_loadPart' hl)
      | (refine wpAny_ite_true (decide_eq_true c1) ?_; wp_walk using wpAny_loadPart' hl))
    exact ⟨_, rfl, h⟩
def rRepT1 (K : PySem.W.Frag) : R2 := fun x y H Q => ∃ l xs, x = .ref l ∧ y = .int 1 ∧ SqT K H l xs ∧ Q (.ref l) H
section
variable {X : Cx} {K : PySem.W.Frag}
theorem op_repT1 : OpR X (binaryOp .Mult) (rRepT1 X.K) := by
  intro pins s σ H x y v u Q I rx ry h
  obtain ⟨l, xs, rfl, rfl, hT, q⟩ := h
  cases rx
  obtain ⟨t, rfl⟩ := ry
  obtain ⟨its, r, ⟨⟨cls, dd, data, sl⟩, ho, hc, n, hd⟩, hs⟩ := I.tuple hT
  simp only at hc hd
  subst hc hd
  have c0 : (decide ((1 : Int) < -(2 ^ 63)) || decide ((1 : Int) ≥ 2 ^ 63)) = false := by decide
  have c1 : (its.toArray.isEmpty || (1 : Int) == 1) = true := by simp
  refine wpAny_binaryOp_repeat_ref (T := "tuple") (U := "int") (by decide) ⟨_, ho, rfl⟩ (fun s' => typeIs_int s' 1 t) noFill_tuple_mul F.fills_int_mul F.slot_int_rmul repeat_tuple F.slot_int_index.lookup
    (call_meets F.slot_int_rmul (typeIs_int s 1 t) F.entry_int_rmul (F.args_int_rmul_2 _ _) (int_rmul_tuple 1 t l its.toArray n dd sl)
      ⟨ho, rfl, ⟨_, ho, rfl⟩, call_meets F.slot_tuple_mul ⟨_, ho, rfl⟩ F.entry_tuple_mul (F.args_tuple_mul_2 _ _) (tuple_mul1 l its.toArray n dd sl 1 t c0 c1) ⟨ho, ?_⟩⟩)
  exact ⟨.ref l, H, I, rfl, q⟩
/-- +, * of this law: tuples once, too -/
@[irreducible] def rMulU1 (K : PySem.W.Frag) : R2 := fun x y H Q => rMulU K x y H Q ∨ rRepT1 K x y H Q
theorem u_mul1 (hK : X.K = K := by rfl) : OpR X (binaryOp .Mult) (rMulU1 K) := by
  subst hK
  unfold rMulU1
  exact (u_mul rfl).or op_repT1
end
end VB
/-! readings that are never unfolded -/
namespace VB
open PySem PySem.Spec PyProof.Rows L2
section
variable {X : Cx} {K : PySem.W.Frag}
@[irreducible] def rTupI (K : PySem.W.Frag) : List V → Hp → VK → Prop := rTupU K
@[irreducible] def rListI (K : PySem.W.Frag) : List V → Hp → VK → Prop := rListU K
theorem u_tupI (hK : X.K = K := by rfl) : CallR X (.type "tuple") (rTupI K) := by
  unfold rTupI
  exact u_tup hK
theorem u_listI (hK : X.K = K := by rfl) : CallR X (.type "list") (rListI K) := by
  unfold rListI
  exact u_list hK
@[irreducible] def tIfI (c : TT) (t u : TS) : TS := tIfS c t u
theorem ps_ifI {test : Expr} {body orelse : List Stmt} {pos : Pos} {c : TT} {t u : TS} (hc : PT X test c) (ht : PSs X body t) (hu : PSs X orelse u) : PS X (.If test body orelse pos) (tIfI c t u) := by
  unfold tIfI
  exact ps_if hc ht hu
end
end VB
/-! bits of octets: plain mathematics -/
namespace BM
def bitsOf (o : Int) : List Int := [o / 128 % 2, o / 64 % 2, o / 32 % 2, o / 16 % 2, o / 8 % 2, o / 4 % 2, o / 2 % 2, o / 1 % 2]
def bitsL (os : List Int) : List Int := os.flatMap bitsOf
def octOf (bs : List Int) : Int := bs.foldl (fun n b => 2 * n + b) 0
def octetsN : Nat → List Int → List Int
  | 0, _ => []
  | n + 1, bs => octOf (bs.take 8) :: octetsN n (bs.drop 8)
def octetsL (bs : List Int) : List Int := octetsN ((bs.length + 7) / 8) bs
def Oct (os : List Int) : Prop := ∀ o ∈ os, 0 ≤ o ∧ o ≤ 255
def Bit (bs : List Int) : Prop := ∀ b ∈ bs, b = 0 ∨ b = 1
/-- the indices at which the first is 1 and the second 0 -/
def fallenL : Int → List Int → List Int → List Int
  | k, a :: as, b :: bs => if a = 1 ∧ b = 0 then k :: fallenL (k + 1) as bs else fallenL (k + 1) as bs
  | _, _, _ => []
/-- what a mask leaves on the way -/
def turned : List Int → List Int → Int → List Int
  | a :: as, b :: bs, m => if a = b then a :: turned as bs m else (if m % 2 = 1 then b else a) :: turned as bs (m / 2)
  | _, _, _ => []
def unlike : List Int → List Int → Nat
  | a :: as, b :: bs => (if a = b then 0 else 1) + unlike as bs
  | _, _ => 0

theorem bitsOf_bit {o b : Int} (h : b ∈ bitsOf o) : b = 0 ∨ b = 1 := by
  simp only [bitsOf, List.mem_cons, List.not_mem_nil, or_false] at h
  omega
theorem bitsL_bit (os : List Int) : Bit (bitsL os) := by
  intro b h
  obtain ⟨o, _, ho⟩ := List.mem_flatMap.mp h
  exact bitsOf_bit ho
theorem bitsL_nil : bitsL [] = [] := rfl
theorem bitsL_cons (o : Int) (os : List Int) : bitsL (o :: os) = bitsOf o ++ bitsL os := by simp [bitsL]
theorem bitsOf_len (o : Int) : (bitsOf o).length = 8 := rfl
theorem bitsL_len : ∀ os : List Int, (bitsL os).length = 8 * os.length
  | [] => rfl
  | o :: os => by
    rw [bitsL_cons, List.length_append, bitsL_len os, bitsOf_len, List.length_cons]
    omega
theorem bitsL_append (a b : List Int) : bitsL (a ++ b) = bitsL a ++ bitsL b := by simp [bitsL]
theorem octOf_bitsOf {o : Int} (h : 0 ≤ o ∧ o ≤ 255) : octOf (bitsOf o) = o := by
  have key : ∀ n : Fin 256, octOf (bitsOf ((n : Nat) : Int)) = ((n : Nat) : Int) := by decide +kernel
  have e := key ⟨o.toNat, by omega⟩
  have e2 : ((o.toNat : Nat) : Int) = o := Int.toNat_of_nonneg h.1
  simp only [e2] at e
  exact e
theorem eight {bs : List Int} (h : 8 ≤ bs.length) : ∃ a b c d e f g i r, bs = a :: b :: c :: d :: e :: f :: g :: i :: r := by
  match bs, h with
  | a :: b :: c :: d :: e :: f :: g :: i :: r, _ => exact ⟨a, b, c, d, e, f, g, i, r, rfl⟩
theorem octOf8 (a b c d e f g i : Int) : octOf [a, b, c, d, e, f, g, i] = 128 * a + 64 * b + 32 * c + 16 * d + 8 * e + 4 * f + 2 * g + i := by
  simp only [octOf, List.foldl_cons, List.foldl_nil]
  omega
theorem bit_le {x : Int} (h : x = 0 ∨ x = 1) : 0 ≤ x ∧ x ≤ 1 := by omega
theorem bitsOf_octOf {a b c d e f g i : Int} (h : Bit [a, b, c, d, e, f, g, i]) : bitsOf (octOf [a, b, c, d, e, f, g, i]) = [a, b, c, d, e, f, g, i] := by
  obtain ⟨a0, a1⟩ := bit_le (h a (by simp))
  obtain ⟨b0, b1⟩ := bit_le (h b (by simp))
  obtain ⟨c0, c1⟩ := bit_le (h c (by simp))
  obtain ⟨d0, d1⟩ := bit_le (h d (by simp))
  obtain ⟨e0, e1⟩ := bit_le (h e (by simp))
  obtain ⟨f0, f1⟩ := bit_le (h f (by simp))
  obtain ⟨g0, g1⟩ := bit_le (h g (by simp))
  obtain ⟨i0, i1⟩ := bit_le (h i (by simp))
  clear h
  rw [octOf8]
  simp only [bitsOf, List.cons.injEq, and_true]
  refine ⟨?_, ?_, ?_, ?_, ?_, ?_, ?_, ?_⟩ <;> omega
theorem octOf_range {a b c d e f g i : Int} (h : Bit [a, b, c, d, e, f, g, i]) : 0 ≤ octOf [a, b, c, d, e, f, g, i] ∧ octOf [a, b, c, d, e, f, g, i] ≤ 255 := by
  have ha := h a (by simp)
  have hb := h b (by simp)
  have hc := h c (by simp)
  have hd := h d (by simp)
  have he := h e (by simp)
  have hf := h f (by simp)
  have hg := h g (by simp)
  have hi := h i (by simp)
  rw [octOf8]
  omega
theorem Bit.split8 {a b c d e f g i : Int} {r : List Int} (h : Bit (a :: b :: c :: d :: e :: f :: g :: i :: r)) : Bit [a, b, c, d, e, f, g, i] ∧ Bit r := by
  constructor
  · intro x hx
    refine h x ?_
    simp only [List.mem_cons, List.not_mem_nil, or_false] at hx
    simp only [List.mem_cons]
    rcases hx with q | q | q | q | q | q | q | q <;> simp [q]
  · intro x hx
    exact h x (by simp [hx])
/-- bits of octets of bits -/
theorem octetsN_spec : ∀ (n : Nat) (bs : List Int), bs.length = 8 * n → Bit bs → bitsL (octetsN n bs) = bs ∧ Oct (octetsN n bs) ∧ (octetsN n bs).length = n
  | 0, bs, hl, _ => by
    have e : bs = [] := List.eq_nil_of_length_eq_zero (by omega)
    subst e
    exact ⟨rfl, fun _ h => (by cases h), rfl⟩
  | n + 1, bs, hl, hb => by
    obtain ⟨a, b, c, d, e, f, g, i, r, rfl⟩ := eight (bs := bs) (by omega)
    obtain ⟨h1, h2⟩ := hb.split8
    have hr : r.length = 8 * n := by
      simp only [List.length_cons] at hl
      omega
    obtain ⟨i1, i2, i3⟩ := octetsN_spec n r hr h2
    refine ⟨?_, ?_, ?_⟩
    · show bitsL (octOf [a, b, c, d, e, f, g, i] :: octetsN n r) = _
      rw [bitsL_cons, bitsOf_octOf h1, i1]
      rfl
    · intro o ho
      rcases List.mem_cons.mp ho with q | q
      · rw [q]
        exact octOf_range h1
      · exact i2 o q
    · show (octetsN n r).length + 1 = n + 1
      rw [i3]
theorem octetsL_spec {bs : List Int} {n : Nat} (hl : bs.length = 8 * n) (hb : Bit bs) : bitsL (octetsL bs) = bs ∧ Oct (octetsL bs) ∧ (octetsL bs).length = n := by
  have e : (bs.length + 7) / 8 = n := by omega
  unfold octetsL
  rw [e]
  exact octetsN_spec n bs hl hb
theorem octetsL_bitsL : ∀ {os : List Int}, Oct os → octetsL (bitsL os) = os := by
  intro os
  induction os with
  | nil => intro _; rfl
  | cons o os ih =>
    intro h
    have h1 := h o List.mem_cons_self
    have h2 : Oct os := fun x hx => h x (List.mem_cons_of_mem _ hx)
    have i := ih h2
    have l := bitsL_len os
    have l2 := bitsL_len (o :: os)
    unfold octetsL at i ⊢
    have e1 : ((bitsL os).length + 7) / 8 = os.length := by omega
    have e2 : ((bitsL (o :: os)).length + 7) / 8 = os.length + 1 := by
      rw [l2, List.length_cons]
      omega
    rw [e1] at i
    rw [e2, bitsL_cons]
    show octOf ((bitsOf o ++ bitsL os).take 8) :: octetsN os.length ((bitsOf o ++ bitsL os).drop 8) = _
    have t : (bitsOf o ++ bitsL os).take 8 = bitsOf o := by rw [List.take_append_of_le_length (by rw [bitsOf_len]; omega)]; rfl
    have d : (bitsOf o ++ bitsL os).drop 8 = bitsL os := rfl
    rw [t, d, octOf_bitsOf h1, i]
theorem turned_len : ∀ (as bs : List Int) (m : Int), as.length = bs.length → (turned as bs m).length = as.length
  | [], [], _, _ => rfl
  | a :: as, b :: bs, m, h => by
    unfold turned
    have h' : as.length = bs.length := by simpa using h
    split
    · rw [List.length_cons, turned_len as bs m h', List.length_cons]
    · rw [List.length_cons, turned_len as bs _ h', List.length_cons]
  | [], _ :: _, _, h => by simp at h
  | _ :: _, [], _, h => by simp at h
theorem turned_bit : ∀ (as bs : List Int) (m : Int), Bit as → Bit bs → Bit (turned as bs m)
  | [], _, _, _, _ => by
    unfold turned
    intro x h
    cases h
  | _ :: _, [], _, _, _ => by
    unfold turned
    intro x h
    cases h
  | a :: as, b :: bs, m, ha, hb => by
    have h1 := ha a List.mem_cons_self
    have h2 := hb b List.mem_cons_self
    have h3 : Bit as := fun x hx => ha x (List.mem_cons_of_mem _ hx)
    have h4 : Bit bs := fun x hx => hb x (List.mem_cons_of_mem _ hx)
    unfold turned
    split
    · intro x hx
      rcases List.mem_cons.mp hx with q | q
      · rw [q]; exact h1
      · exact turned_bit as bs m h3 h4 x q
    · intro x hx
      rcases List.mem_cons.mp hx with q | q
      · rw [q]
        split
        · exact h2
        · exact h1
      · exact turned_bit as bs _ h3 h4 x q
/-- below at each place -/
def Le : List Int → List Int → Prop
  | a :: as, b :: bs => a ≤ b ∧ Le as bs
  | [], [] => True
  | _, _ => False
theorem Le.refl : ∀ as : List Int, Le as as
  | [] => True.intro
  | a :: as => ⟨Int.le_refl a, Le.refl as⟩
theorem Le.len : ∀ {as bs : List Int}, Le as bs → as.length = bs.length
  | [], [], _ => rfl
  | _ :: as, _ :: bs, h => by rw [List.length_cons, List.length_cons, Le.len h.2]
  | [], _ :: _, h => h.elim
  | _ :: _, [], h => h.elim
/-- where nothing rises from as to bs, what is left lies between -/
theorem turned_down : ∀ {as bs : List Int} (m : Int), Le bs as → Le bs (turned as bs m) ∧ Le (turned as bs m) as
  | [], [], _, _ => ⟨True.intro, True.intro⟩
  | a :: as, b :: bs, m, h => by
    have i1 := turned_down (as := as) (bs := bs) m h.2
    have i2 := turned_down (as := as) (bs := bs) (m / 2) h.2
    have h1 := h.1
    unfold turned
    split
    · rename_i e
      exact ⟨⟨by omega, i1.1⟩, ⟨Int.le_refl a, i1.2⟩⟩
    · refine ⟨⟨?_, i2.1⟩, ⟨?_, i2.2⟩⟩ <;> split <;> omega
  | [], _ :: _, _, h => h.elim
  | _ :: _, [], _, h => h.elim
theorem turned_up : ∀ {as bs : List Int} (m : Int), Le as bs → Le as (turned as bs m) ∧ Le (turned as bs m) bs
  | [], [], _, _ => ⟨True.intro, True.intro⟩
  | a :: as, b :: bs, m, h => by
    have i1 := turned_up (as := as) (bs := bs) m h.2
    have i2 := turned_up (as := as) (bs := bs) (m / 2) h.2
    have h1 := h.1
    unfold turned
    split
    · rename_i e
      exact ⟨⟨Int.le_refl a, i1.1⟩, ⟨by omega, i1.2⟩⟩
    · refine ⟨⟨?_, i2.1⟩, ⟨?_, i2.2⟩⟩ <;> split <;> omega
  | [], _ :: _, _, h => h.elim
  | _ :: _, [], _, h => h.elim
theorem Le.trans : ∀ {as bs cs : List Int}, Le as bs → Le bs cs → Le as cs
  | [], [], [], _, _ => True.intro
  | _ :: _, _ :: _, _ :: _, h, h' => ⟨Int.le_trans h.1 h'.1, h.2.trans h'.2⟩
  | [], _ :: _, _, h, _ => h.elim
  | _ :: _, [], _, h, _ => h.elim
  | [], [], _ :: _, _, h => h.elim
  | _ :: _, _ :: _, [], _, h => h.elim
/-- nothing falls upward -/
theorem fallen_none : ∀ {as bs : List Int} (k : Int), Le as bs → fallenL k as bs = []
  | [], [], _, _ => rfl
  | a :: as, b :: bs, k, h => by
    have h1 := h.1
    unfold fallenL
    rw [if_neg (by omega)]
    exact fallen_none _ h.2
  | [], _ :: _, _, h => h.elim
  | _ :: _, [], _, h => h.elim
def zc (bs : List Int) : Int := ((bs.count 0 : Nat) : Int)
theorem zc_nil : zc [] = 0 := rfl
theorem zc_cons (b : Int) (bs : List Int) : zc (b :: bs) = (if b = 0 then 1 else 0) + zc bs := by
  unfold zc
  rw [List.count_cons]
  by_cases h : b = 0
  · simp [h]
    omega
  · simp [h]
/-- more zeros below, as many only if equal -/
theorem zc_le : ∀ {as bs : List Int}, Bit as → Bit bs → Le as bs → zc bs ≤ zc as ∧ (zc bs = zc as → as = bs)
  | [], [], _, _, _ => ⟨Int.le_refl _, fun _ => rfl⟩
  | a :: as, b :: bs, ha, hb, h => by
    have h1 := ha a List.mem_cons_self
    have h2 := hb b List.mem_cons_self
    have h3 : Bit as := fun x hx => ha x (List.mem_cons_of_mem _ hx)
    have h4 : Bit bs := fun x hx => hb x (List.mem_cons_of_mem _ hx)
    have h5 := h.1
    obtain ⟨i1, i2⟩ := zc_le h3 h4 h.2
    rw [zc_cons, zc_cons]
    rcases h1 with rfl | rfl <;> rcases h2 with rfl | rfl
    · refine ⟨by simp; omega, fun e => ?_⟩
      rw [i2 (by simp at e; omega)]
    · refine ⟨by simp; omega, fun e => ?_⟩
      simp at e
      omega
    · omega
    · refine ⟨by simp; omega, fun e => ?_⟩
      rw [i2 (by simp at e; omega)]
  | [], _ :: _, _, _, h => h.elim
  | _ :: _, [], _, _, h => h.elim
/-- zeros: what falls more, what rises less -/
theorem zc_diff : ∀ (as bs : List Int) (k l : Int), Bit as → Bit bs → as.length = bs.length → zc bs = zc as + ((fallenL k as bs).length : Int) - ((fallenL l bs as).length : Int)
  | [], [], _, _, _, _, _ => rfl
  | a :: as, b :: bs, k, l, ha, hb, hl => by
    have h1 := ha a List.mem_cons_self
    have h2 := hb b List.mem_cons_self
    have h3 : Bit as := fun x hx => ha x (List.mem_cons_of_mem _ hx)
    have h4 : Bit bs := fun x hx => hb x (List.mem_cons_of_mem _ hx)
    have i := zc_diff as bs (k + 1) (l + 1) h3 h4 (by simpa using hl)
    unfold fallenL
    rw [zc_cons, zc_cons]
    rcases h1 with rfl | rfl <;> rcases h2 with rfl | rfl <;> simp <;> omega
  | [], _ :: _, _, _, _, _, hl => by simp at hl
  | _ :: _, [], _, _, _, _, hl => by simp at hl
/-- both sets empty: equal -/
theorem fallen_both : ∀ (as bs : List Int) (k l : Int), Bit as → Bit bs → as.length = bs.length → fallenL k as bs = [] → fallenL l bs as = [] → as = bs
  | [], [], _, _, _, _, _, _, _ => rfl
  | a :: as, b :: bs, k, l, ha, hb, hl, e1, e2 => by
    have h1 := ha a List.mem_cons_self
    have h2 := hb b List.mem_cons_self
    have h3 : Bit as := fun x hx => ha x (List.mem_cons_of_mem _ hx)
    have h4 : Bit bs := fun x hx => hb x (List.mem_cons_of_mem _ hx)
    unfold fallenL at e1 e2
    rcases h1 with rfl | rfl <;> rcases h2 with rfl | rfl
    · simp at e1 e2
      rw [fallen_both as bs _ _ h3 h4 (by simpa using hl) e1 e2]
    · simp at e2
    · simp at e1
    · simp at e1 e2
      rw [fallen_both as bs _ _ h3 h4 (by simpa using hl) e1 e2]
  | [], _ :: _, _, _, _, _, hl, _, _ => by simp at hl
  | _ :: _, [], _, _, _, _, hl, _, _ => by simp at hl
theorem fallen_self : ∀ (as : List Int) (k : Int), fallenL k as as = []
  | [], _ => rfl
  | a :: as, k => by
    unfold fallenL
    rw [if_neg (by omega)]
    exact fallen_self as _
theorem fallen_len : ∀ (as bs : List Int) (k : Int), (fallenL k as bs).length ≤ as.length
  | [], _, _ => by simp [fallenL]
  | _ :: _, [], _ => by simp [fallenL]
  | a :: as, b :: bs, k => by
    unfold fallenL
    have i := fallen_len as bs (k + 1)
    split <;> simp only [List.length_cons] <;> omega
/-- the mask of no bit, and one that reaches beyond all -/
theorem turned_zero : ∀ (as bs : List Int), as.length = bs.length → turned as bs 0 = as
  | [], [], _ => rfl
  | a :: as, b :: bs, h => by
    have h' : as.length = bs.length := by simpa using h
    unfold turned
    split
    · rw [turned_zero as bs h']
    · have e : (0 : Int) / 2 = 0 := rfl
      rw [if_neg (by decide), e, turned_zero as bs h']
  | [], _ :: _, h => by simp at h
  | _ :: _, [], h => by simp at h
theorem unlike_eq : ∀ (as bs : List Int) (k l : Int), Bit as → Bit bs → as.length = bs.length → unlike as bs = (fallenL k as bs).length + (fallenL l bs as).length
  | [], [], _, _, _, _, _ => rfl
  | a :: as, b :: bs, k, l, ha, hb, hl => by
    have h1 := ha a List.mem_cons_self
    have h2 := hb b List.mem_cons_self
    have h3 : Bit as := fun x hx => ha x (List.mem_cons_of_mem _ hx)
    have h4 : Bit bs := fun x hx => hb x (List.mem_cons_of_mem _ hx)
    have i := unlike_eq as bs (k + 1) (l + 1) h3 h4 (by simpa using hl)
    unfold fallenL unlike
    rcases h1 with rfl | rfl <;> rcases h2 with rfl | rfl <;> simp <;> omega
  | [], _ :: _, _, _, _, _, hl => by simp at hl
  | _ :: _, [], _, _, _, _, hl => by simp at hl
theorem pow2_odd (n : Nat) : ((2 : Int) ^ (n + 1) - 1) % 2 = 1 ∧ ((2 : Int) ^ (n + 1) - 1) / 2 = 2 ^ n - 1 := by
  have e : (2 : Int) ^ (n + 1) = 2 * 2 ^ n := by rw [Int.pow_succ]; omega
  omega
/-- all ones up to the last unlike bit: the new ones -/
theorem turned_ones : ∀ (as bs : List Int) (n : Nat), as.length = bs.length → unlike as bs ≤ n → turned as bs (2 ^ n - 1) = bs
  | [], [], _, _, _ => rfl
  | a :: as, b :: bs, n, h, hu => by
    have h' : as.length = bs.length := by simpa using h
    unfold unlike at hu
    unfold turned
    split
    · rename_i e
      rw [if_pos e] at hu
      rw [turned_ones as bs n h' (by omega), e]
    · rename_i e
      rw [if_neg e] at hu
      obtain ⟨k, rfl⟩ : ∃ k, n = k + 1 := ⟨n - 1, by omega⟩
      obtain ⟨o1, o2⟩ := pow2_odd k
      rw [if_pos o1, o2, turned_ones as bs k h' (by omega)]
  | [], _ :: _, _, h, _ => by simp at h
  | _ :: _, [], _, h, _ => by simp at h
/-- a mask whose first n bits are 0, where at most n bits are unlike: nothing turns -/
theorem turned_beyond : ∀ (as bs : List Int) (n : Nat), as.length = bs.length → unlike as bs ≤ n → turned as bs (2 ^ n) = as
  | [], [], _, _, _ => rfl
  | a :: as, b :: bs, n, h, hu => by
    have h' : as.length = bs.length := by simpa using h
    unfold unlike at hu
    unfold turned
    split
    · rename_i e
      rw [if_pos e] at hu
      rw [turned_beyond as bs n h' (by omega)]
    · rename_i e
      rw [if_neg e] at hu
      obtain ⟨k, rfl⟩ : ∃ k, n = k + 1 := ⟨n - 1, by omega⟩
      have e1 : (2 : Int) ^ (k + 1) = 2 * 2 ^ k := by rw [Int.pow_succ]; omega
      have e2 : ((2 : Int) ^ (k + 1)) % 2 = 0 := by omega
      have e3 : ((2 : Int) ^ (k + 1)) / 2 = 2 ^ k := by omega
      rw [if_neg (by omega), e3, turned_beyond as bs k h' (by omega)]
  | [], _ :: _, _, h, _ => by simp at h
  | _ :: _, [], _, h, _ => by simp at h
/-- 4096 ones: the first 4096 unlike bits turn, the others stay -/
theorem turned_first : ∀ (n m : Nat), turned (List.replicate (n + m) 1) (List.replicate (n + m) 0) (2 ^ n - 1) = List.replicate n 0 ++ List.replicate m 1
  | 0, m => by
    have e : ((2 : Int) ^ 0 - 1) = 0 := rfl
    rw [e, Nat.zero_add, turned_zero _ _ (by simp)]
    simp
  | n + 1, m => by
    have e : n + 1 + m = (n + m) + 1 := by omega
    rw [e, List.replicate_succ, List.replicate_succ, List.replicate_succ]
    unfold turned
    obtain ⟨o1, o2⟩ := pow2_odd n
    rw [if_neg (by decide), if_pos o1, o2, turned_first n m]
    rfl
theorem fold_bound : ∀ (l : List Int) (n : Int), Bit l → 0 ≤ n → 0 ≤ l.foldl (fun n b => 2 * n + b) n ∧ l.foldl (fun n b => 2 * n + b) n + 1 ≤ (n + 1) * 2 ^ l.length
  | [], n, _, h => by simp [h]
  | b :: l, n, hb, h => by
    have h1 := hb b List.mem_cons_self
    have h2 : Bit l := fun x hx => hb x (List.mem_cons_of_mem _ hx)
    obtain ⟨i1, i2⟩ := fold_bound l (2 * n + b) h2 (by omega)
    refine ⟨i1, ?_⟩
    rw [List.foldl_cons, List.length_cons, Int.pow_succ]
    have p : (0 : Int) ≤ 2 ^ l.length := Int.pow_nonneg (by decide)
    have m : (2 * n + b + 1) * 2 ^ l.length ≤ (2 * (n + 1)) * 2 ^ l.length := Int.mul_le_mul_of_nonneg_right (by omega) p
    have e : (2 * (n + 1)) * 2 ^ l.length = (n + 1) * (2 ^ l.length * 2) := by
      rw [Int.mul_comm 2 (n + 1), Int.mul_assoc, Int.mul_comm 2]
    omega
theorem octOf_bound {l : List Int} (h : Bit l) (hl : l.length ≤ 8) : 0 ≤ octOf l ∧ octOf l < 256 := by
  obtain ⟨h1, h2⟩ := fold_bound l 0 h (Int.le_refl 0)
  have p : (2 : Int) ^ l.length ≤ 2 ^ 8 := by
    have q : (2 : Nat) ^ l.length ≤ 2 ^ 8 := Nat.pow_le_pow_right (by decide) hl
    exact_mod_cast q
  have e : (2 : Int) ^ 8 = 256 := rfl
  unfold octOf
  omega
theorem Bit.take {l : List Int} (h : Bit l) (n : Nat) : Bit (l.take n) := fun x hx => h x (List.mem_of_mem_take hx)
theorem Bit.drop {l : List Int} (h : Bit l) (n : Nat) : Bit (l.drop n) := fun x hx => h x (List.mem_of_mem_drop hx)
end BM
/-! bits of octets and the operators on bits -/
namespace BM
/-- bit k of a number, as an int -/
def tb (n k : Nat) : Int := if n.testBit k then 1 else 0
theorem tb_div (n k : Nat) : ((n : Int) / ((2 ^ k : Nat) : Int)) % 2 = tb n k := by
  unfold tb
  rw [Nat.testBit_eq_decide_div_mod_eq]
  have e : ((n : Int) / ((2 ^ k : Nat) : Int)) % 2 = ((n / 2 ^ k % 2 : Nat) : Int) := by simp
  rw [e]
  by_cases h : n / 2 ^ k % 2 = 1
  · rw [h]
    simp
  · have h0 : n / 2 ^ k % 2 = 0 := by omega
    rw [h0]
    simp
theorem bitsOf_tb (n : Nat) : bitsOf (n : Int) = [tb n 7, tb n 6, tb n 5, tb n 4, tb n 3, tb n 2, tb n 1, tb n 0] := by
  have h7 := tb_div n 7
  have h6 := tb_div n 6
  have h5 := tb_div n 5
  have h4 := tb_div n 4
  have h3 := tb_div n 3
  have h2 := tb_div n 2
  have h1 := tb_div n 1
  have h0 := tb_div n 0
  unfold bitsOf
  rw [← h7, ← h6, ← h5, ← h4, ← h3, ← h2, ← h1, ← h0]
  rfl
theorem tb_bit (n k : Nat) : tb n k = 0 ∨ tb n k = 1 := by
  unfold tb
  split
  · exact .inr rfl
  · exact .inl rfl
theorem tb_and (a b k : Nat) : tb (a &&& b) k = if tb a k = 1 ∧ tb b k = 1 then 1 else 0 := by
  unfold tb
  rw [Nat.testBit_and]
  cases a.testBit k <;> cases b.testBit k <;> simp
theorem tb_or (a b k : Nat) : tb (a ||| b) k = if tb a k = 1 ∨ tb b k = 1 then 1 else 0 := by
  unfold tb
  rw [Nat.testBit_or]
  cases a.testBit k <;> cases b.testBit k <;> simp
theorem tb_xor (a b k : Nat) : tb (a ^^^ b) k = if tb a k = tb b k then 0 else 1 := by
  unfold tb
  rw [Nat.testBit_xor]
  cases a.testBit k <;> cases b.testBit k <;> simp
theorem le_app : ∀ {a b c d : List Int}, Le a b → Le c d → Le (a ++ c) (b ++ d)
  | [], [], _, _, _, h => h
  | _ :: _, _ :: _, _, _, h, h' => ⟨h.1, le_app h.2 h'⟩
  | [], _ :: _, _, _, h, _ => h.elim
  | _ :: _, [], _, _, h, _ => h.elim
theorem and_le (a b : Nat) : Le (bitsOf ((a &&& b : Nat) : Int)) (bitsOf (a : Int)) := by
  have key : ∀ k, tb (a &&& b) k ≤ tb a k := by
    intro k
    rw [tb_and]
    have := tb_bit a k
    split <;> omega
  rw [bitsOf_tb, bitsOf_tb]
  exact ⟨key 7, key 6, key 5, key 4, key 3, key 2, key 1, key 0, True.intro⟩
theorem le_or (a b : Nat) : Le (bitsOf (a : Int)) (bitsOf ((a ||| b : Nat) : Int)) := by
  have key : ∀ k, tb a k ≤ tb (a ||| b) k := by
    intro k
    rw [tb_or]
    have := tb_bit a k
    split <;> omega
  rw [bitsOf_tb, bitsOf_tb]
  exact ⟨key 7, key 6, key 5, key 4, key 3, key 2, key 1, key 0, True.intro⟩
theorem bits255 : bitsOf 255 = [1, 1, 1, 1, 1, 1, 1, 1] := by decide
theorem le_255 (o : Int) : Le (bitsOf o) (bitsOf 255) := by
  have key : ∀ b ∈ bitsOf o, b ≤ 1 := fun b hb => by
    have := bitsOf_bit hb
    omega
  rw [bits255]
  unfold bitsOf at key ⊢
  exact ⟨key _ (by simp), key _ (by simp), key _ (by simp), key _ (by simp), key _ (by simp), key _ (by simp), key _ (by simp), key _ (by simp), True.intro⟩
/-- lists of octets, pair by pair -/
theorem bitsL_le : ∀ {xs ys : List Int}, xs.length = ys.length → (∀ p ∈ xs.zip ys, Le (bitsOf p.1) (bitsOf p.2)) → Le (bitsL xs) (bitsL ys)
  | [], [], _, _ => True.intro
  | x :: xs, y :: ys, hl, h => by
    rw [bitsL_cons, bitsL_cons]
    exact le_app (h (x, y) (by simp)) (bitsL_le (by simpa using hl) fun p hp => h p (by simp [hp]))
  | [], _ :: _, hl, _ => by simp at hl
  | _ :: _, [], hl, _ => by simp at hl
theorem nat_of {o : Int} (h : 0 ≤ o) : ∃ n : Nat, o = n := ⟨o.toNat, by omega⟩
theorem and_oct {a b : Nat} (ha : a ≤ 255) : (a &&& b) ≤ 255 := Nat.le_trans Nat.and_le_left ha
theorem or_oct {a b : Nat} (ha : a ≤ 255) (hb : b ≤ 255) : (a ||| b) ≤ 255 := by
  have h : (a ||| b) < 2 ^ 8 := Nat.or_lt_two_pow (by omega) (by omega)
  omega
theorem xor_oct {a b : Nat} (ha : a ≤ 255) (hb : b ≤ 255) : (a ^^^ b) ≤ 255 := by
  have h : (a ^^^ b) < 2 ^ 8 := Nat.xor_lt_two_pow (by omega) (by omega)
  omega
/-- one more bit -/
theorem fallen_snoc : ∀ (as bs : List Int) (k x y : Int), as.length = bs.length → fallenL k (as ++ [x]) (bs ++ [y]) = fallenL k as bs ++ (if x = 1 ∧ y = 0 then [k + (as.length : Int)] else [])
  | [], [], k, x, y, _ => by
    simp [fallenL]
  | a :: as, b :: bs, k, x, y, h => by
    have i := fallen_snoc as bs (k + 1) x y (by simpa using h)
    rw [List.cons_append, List.cons_append]
    unfold fallenL
    have e : k + 1 + (as.length : Int) = k + ((a :: as).length : Int) := by
      rw [List.length_cons]
      omega
    rw [e] at i
    split <;> simp [i]
  | [], _ :: _, _, _, _, h => by simp at h
  | _ :: _, [], _, _, _, h => by simp at h
end BM
/-! bits that are 1, bits that are unlike, one bit turned -/
namespace BM
/-- the indices of the ones, from k on -/
def onesL : Int → List Int → List Int
  | _, [] => []
  | k, b :: r => if b = 1 then k :: onesL (k + 1) r else onesL (k + 1) r
/-- the indices of the unlike ones -/
def diffL : Int → List Int → List Int → List Int
  | k, a :: as, b :: bs => if a = b then diffL (k + 1) as bs else k :: diffL (k + 1) as bs
  | _, _, _ => []
theorem onesL_app : ∀ (a b : List Int) (k : Int), onesL k (a ++ b) = onesL k a ++ onesL (k + (a.length : Int)) b
  | [], b, k => by simp [onesL]
  | x :: a, b, k => by
    have e : k + ((x :: a).length : Int) = k + 1 + (a.length : Int) := by simp; omega
    rw [List.cons_append, onesL, onesL, onesL_app a b (k + 1), e]
    split <;> simp
theorem onesL_snoc (a : List Int) (x : Int) : onesL 0 (a ++ [x]) = onesL 0 a ++ (if x = 1 then [(a.length : Int)] else []) := by
  rw [onesL_app]
  simp [onesL]
theorem onesL_len : ∀ (a : List Int) (k : Int), (onesL k a).length ≤ a.length
  | [], k => by simp [onesL]
  | x :: a, k => by
    have := onesL_len a (k + 1)
    rw [onesL]
    split <;> simp <;> omega
/-- of two bits -/
theorem ones_of {f : Int → Int → Int} (P : List Int → List Int → Int → List Int) (c : Int → Int → Prop) [∀ a b, Decidable (c a b)] (h0 : ∀ k, P [] [] k = []) (h1 : ∀ a as b bs k, P (a :: as) (b :: bs) k = if c a b then k :: P as bs (k + 1) else P as bs (k + 1))
    (h : ∀ a b, (a = 0 ∨ a = 1) → (b = 0 ∨ b = 1) → (f a b = 1 ↔ c a b)) : ∀ (as bs : List Int) (k : Int), as.length = bs.length → Bit as → Bit bs → onesL k (List.zipWith f as bs) = P as bs k
  | [], [], k, _, _, _ => by simp [onesL, h0]
  | [], _ :: _, k, e, _, _ => by simp at e
  | _ :: _, [], k, e, _, _ => by simp at e
  | a :: as, b :: bs, k, e, ha, hb => by
    have r := ones_of P c h0 h1 h as bs (k + 1) (by simpa using e) (fun x hx => ha x (List.mem_cons_of_mem _ hx)) (fun x hx => hb x (List.mem_cons_of_mem _ hx))
    have q := h a b (ha a (List.mem_cons_self ..)) (hb b (List.mem_cons_self ..))
    rw [List.zipWith_cons_cons, onesL, h1, r]
    by_cases z : c a b
    · rw [if_pos z, if_pos (q.mpr z)]
    · rw [if_neg z, if_neg (fun y => z (q.mp y))]
/-- the bits of two lists of octets, put together -/
theorem bitsL_both {g : Int → Int → Int} {f : Int → Int → Int} (h : ∀ x y, 0 ≤ x ∧ x ≤ 255 → 0 ≤ y ∧ y ≤ 255 → bitsOf (g x y) = List.zipWith f (bitsOf x) (bitsOf y)) :
    ∀ xs ys : List Int, Oct xs → Oct ys → bitsL ((xs.zip ys).map fun p => g p.1 p.2) = List.zipWith f (bitsL xs) (bitsL ys)
  | [], ys, _, _ => by simp [bitsL]
  | x :: xs, [], _, _ => by simp [bitsL]
  | x :: xs, y :: ys, hx, hy => by
    have r := bitsL_both h xs ys (fun o ho => hx o (List.mem_cons_of_mem _ ho)) (fun o ho => hy o (List.mem_cons_of_mem _ ho))
    have q := h x y (hx x (List.mem_cons_self ..)) (hy y (List.mem_cons_self ..))
    rw [List.zip_cons_cons, List.map_cons, bitsL_cons, bitsL_cons, bitsL_cons, r, q, List.zipWith_append (by rw [bitsOf_len, bitsOf_len])]
/-- where lists part -/
theorem diff_at : ∀ (as bs : List Int) (k p : Int) (rest : List Int), as.length = bs.length → diffL k as bs = p :: rest →
    ∃ (pre : List Int) (x y : Int) (as' bs' : List Int), as = pre ++ x :: as' ∧ bs = pre ++ y :: bs' ∧ x ≠ y ∧ p = k + (pre.length : Int) ∧ rest = diffL (p + 1) as' bs' ∧ as'.length = bs'.length ∧
      ∀ m, turned as bs m = pre ++ (if m % 2 = 1 then y else x) :: turned as' bs' (m / 2)
  | [], _, k, p, rest, _, h => by simp [diffL] at h
  | _ :: _, [], k, p, rest, e, h => by simp at e
  | a :: as, b :: bs, k, p, rest, e, h => by
    rw [diffL] at h
    by_cases z : a = b
    · rw [if_pos z] at h
      obtain ⟨pre, x, y, as', bs', h1, h2, h3, h4, h5, h6, h7⟩ := diff_at as bs (k + 1) p rest (by simpa using e) h
      refine ⟨a :: pre, x, y, as', bs', by rw [h1]; rfl, by rw [h2, z]; rfl, h3, by simp; omega, h5, h6, fun m => ?_⟩
      rw [turned, if_pos z, h7 m]
      rfl
    · rw [if_neg z] at h
      obtain ⟨rfl, rfl⟩ := List.cons.inj h
      refine ⟨[], a, b, as, bs, rfl, rfl, z, by simp, rfl, by simpa using e, fun m => ?_⟩
      rw [turned, if_neg z]
      rfl
theorem diff_nil : ∀ (as bs : List Int) (k : Int), as.length = bs.length → diffL k as bs = [] → as = bs
  | [], [], k, _, _ => rfl
  | [], _ :: _, k, e, h => by simp at e
  | _ :: _, [], k, e, h => by simp at e
  | a :: as, b :: bs, k, e, h => by
    rw [diffL] at h
    by_cases z : a = b
    · rw [if_pos z] at h
      rw [z, diff_nil as bs (k + 1) (by simpa using e) h]
    · rw [if_neg z] at h
      cases h
theorem turned_same : ∀ (as : List Int) (m : Int), turned as as m = as
  | [], m => by simp [turned]
  | a :: as, m => by rw [turned, if_pos rfl, turned_same as m]
/-- the j-th bit of an octet -/
theorem bit_at : ∀ o : Nat, o < 256 → ∀ j : Nat, j < 8 → (bitsOf (o : Int))[j]? = some (((o &&& (128 / 2 ^ j)) / (128 / 2 ^ j) : Nat) : Int) := by decide +kernel
theorem bit_on : ∀ o : Nat, o < 256 → ∀ j : Nat, j < 8 → (o &&& (128 / 2 ^ j) ≠ 0 ↔ (bitsOf (o : Int))[j]? = some 1) := by decide +kernel
theorem bit_turn : ∀ o : Nat, o < 256 → ∀ j : Nat, j < 8 → o ^^^ (128 / 2 ^ j) < 256 ∧ bitsOf ((o ^^^ (128 / 2 ^ j) : Nat) : Int) = (bitsOf (o : Int)).set j (1 - (bitsOf (o : Int)).getD j 0) := by decide +kernel
theorem bitsL_get : ∀ (os : List Int) (i j : Nat), j < 8 → (bitsL os)[8 * i + j]? = (os[i]?).bind fun o => (bitsOf o)[j]?
  | [], i, j, _ => by simp [bitsL]
  | o :: os, 0, j, h => by
    rw [bitsL_cons, Nat.mul_zero, Nat.zero_add, List.getElem?_append_left (by rw [bitsOf_len]; exact h)]
    simp
  | o :: os, i + 1, j, h => by
    have e : 8 * (i + 1) + j = 8 + (8 * i + j) := by omega
    rw [bitsL_cons, e, List.getElem?_append_right (by rw [bitsOf_len]; omega), bitsOf_len, Nat.add_sub_cancel_left, bitsL_get os i j h]
    simp
theorem bitsL_set : ∀ (os : List Int) (i j : Nat) (o o' : Int) (b : Int), j < 8 → os[i]? = some o → bitsOf o' = (bitsOf o).set j b → bitsL (os.set i o') = (bitsL os).set (8 * i + j) b
  | [], i, j, o, o', b, _, h, _ => by simp at h
  | x :: os, 0, j, o, o', b, hj, h, q => by
    have e : x = o := by simpa using h
    subst e
    rw [List.set_cons_zero, bitsL_cons, bitsL_cons, q, Nat.mul_zero, Nat.zero_add, List.set_append_left _ _ (by rw [bitsOf_len]; exact hj)]
  | x :: os, i + 1, j, o, o', b, hj, h, q => by
    have e : 8 * (i + 1) + j = 8 + (8 * i + j) := by omega
    have h' : os[i]? = some o := by simpa using h
    rw [List.set_cons_succ, bitsL_cons, bitsL_cons, bitsL_set os i j o o' b hj h' q, e, List.set_append_right _ _ (by rw [bitsOf_len]; omega), bitsOf_len, Nat.add_sub_cancel_left]
end BM
/-! f'{n:b}', n an octet -/
namespace PySem.W
open PySem PySem.Calls PyProof.Rows
open Builtin Builtin.Str Builtin.Int Builtin.Float
/-- the binary text of n -/
def binT (n : Nat) : PySem.Str := ⟨((Nat.toDigits 2 n).map Char.toNat).toArray⟩
theorem binT_len : ∀ n : Nat, n < 256 → (binT n).length ≤ 8 := by decide +kernel
theorem meets_bin' {spec : PySem.Str} {f : FormatSpec} (n : Nat) (hn : n < 256) (t u : Tok) (hne : (spec.length == 0) = false)
    (hasc : ((spec.cps.toList.drop 1).any (· ≥ 128) || (spec.cps.getD 0 0 ≥ 128 && !([60, 62, 61, 94] : List Nat).contains (spec.cps.getD 1 0))) = false)
    (hp : parseFormatSpec spec.cps.toList "int" 62 = .ok f) (hf : f = { align := 62, type := some 98 }) :
    Meets (Builtin.«int.__format__» ⟨[.int (n : Int) t, .str spec u], []⟩) (fun _ R s => ∀ t' k, R (.ok (.ret (.str (binT n) t'))) { s with toks := k }) := by
  apply KPc.meets_of
  intro prog w A s Q E h
  unfold Builtin.«int.__format__»
  simp only [selfAndOne, noKeywords, Int.intOfSelf, asInt?, asStr?, List.isEmpty_nil, if_true, pure_bind, bind_pure, bind_assoc, hne, hasc, Bool.false_eq_true, if_false,
    show (Value.str spec u == Value.none) = false from rfl]
  refine wpAny_bind (wpAny_typeNameOf (T := "str") (typeIs_str _ _ _) (by decide) fun _ => ?_)
  refine wpAny_bind (wpAny_typeNameOfCut_int ?_)
  simp only [hp]
  have hty : f.type = some 98 := by rw [hf]
  simp only [hty, Option.getD_some]
  rw [if_pos (by decide)]
  have hpr : f.precision = none := by rw [hf]
  have hz : f.noNeg0 = false := by rw [hf]
  have hal : f.alt = false := by rw [hf]
  have hw : f.width.getD 0 = 0 := by rw [hf]; rfl
  clear hp hasc hne
  show wpAny _ _ (if _ then _ else _) _ _ _
  rw [if_neg (by simp [hpr])]
  show wpAny _ _ (if _ then _ else _) _ _ _
  rw [if_neg (by simp [hz])]
  show wpAny _ _ (if _ then _ else _) _ _ _
  rw [if_neg (by decide)]
  show wpAny _ _ (if _ then _ else _) _ _ _
  rw [if_neg (by decide)]
  show wpAny _ _ (if _ then _ else _) _ _ _
  rw [if_neg (by omega)]
  refine KXf.ret_text (T := binT n) ?_ ?_ h
  · clear h
    subst hf
    clear hty hpr hz hal hw
    revert n
    decide +kernel
  · clear h
    subst hf
    clear hty hpr hz hal hw
    revert n
    decide +kernel
/-- {e:b}, a field of an octet -/
theorem bin_field {prog : Program} {w : World} {A : Around} {E : Value → Shared → Prop} {s : Shared} {n : Nat} {t : Tok} {Q : Value → Shared → Prop} (hn : n < 256) (h : ∀ t' k, Q (.str (binT n) t') { s with toks := k }) :
    wpAny (model prog w) A (formatField (.int (n : Int) t) "b") Q E s :=
  KXf.field_meets (by decide) (fun s' => typeIs_int s' n t) F.slot_int_format F.entry_int_format F.args_int_format_2 (by decide) (fun u => meets_bin' n hn t u (by decide) (by decide) (by rfl) rfl) h
theorem bin_count : ∀ n : Nat, n < 256 → PySem.Txt.count (binT n) "1" = (([n / 128 % 2, n / 64 % 2, n / 32 % 2, n / 16 % 2, n / 8 % 2, n / 4 % 2, n / 2 % 2, n / 1 % 2].count 1 : Nat) : Int) := by decide +kernel
end PySem.W
namespace VB
open PySem PySem.Spec PyProof.Rows L2
section
variable {X : Cx} {e : Expr} {te : TE} {p1 p2 p3 p4 : Pos} {j : Nat}
/-- f'{e:b}', e an octet -/
def tBin (te : TE) : TE := fun σ H Q => te σ H fun x H1 => ∃ n : Nat, x = .int (n : Int) ∧ n < 256 ∧ Q (.str (PySem.W.binT n)) H1
theorem pe_bin (he : PE X e te) : PE X (.JoinedStr [.FormattedValue e (-1) (some (.JoinedStr [.Constant (.str "b") j p1] p2)) p3] p4) (tBin te) := by
  refine pe_joined1 ⟨fun pins s σ H Q I h => wpAny_FormattedValue_spec (thn (he.run pins s σ H _ I h) fun v s1 hv => ?_)⟩
  obtain ⟨x, H1, I1, r1, n, rfl, hn, q⟩ := hv
  obtain ⟨t, rfl⟩ := r1
  refine thn ((pe_joined1 (pos := p2) (pe_str (x := "b") (j := j) (pos := p1))).run pins s1 σ H1 (fun y H2 => y = .str "b" ∧ H2 = H1) I1 ⟨rfl, rfl⟩) fun w s2 hw => ?_
  obtain ⟨y, H2, I2, r2, rfl, rfl⟩ := hw
  obtain ⟨t2, rfl⟩ := r2
  exact ⟨_, _, rfl, PySem.W.bin_field hn fun t' k => ⟨.str (PySem.W.binT n), H2, I2.tok _, ⟨_, rfl⟩, q⟩⟩
end
end VB
/-! zip of two sequences, each a list or a tuple -/
namespace VB
open PySem PySem.Spec PyProof.Rows L2
/-- a list (false) or a tuple (true) at l -/
def Sq (t : Bool) (h : Heap) (l : Addr) (xs : Array Value) : Prop := match t with
  | false => h.IsList l xs
  | true => h.IsTuple l xs
/-- its iterator at i, at the k-th place -/
def Si (t : Bool) (h : Heap) (i l : Addr) (k : Nat) : Prop := match t with
  | false => h.IsListIter i l k
  | true => h.IsTupleIter i l k
section
variable {t u : Bool} {h h' : Heap} {i l b : Addr} {k : Nat} {xs ys : Array Value}
theorem Sq.ext (x : Sq t h l xs) (e : Heap.ExtBut b h h') (n : l ≠ b) : Sq t h' l xs := by
  cases t with
  | false => exact Heap.IsList.extBut (show h.IsList l xs from x) e n
  | true => exact Heap.IsTuple.extBut (show h.IsTuple l xs from x) e n
theorem Si.ext (x : Si t h i l k) (e : Heap.ExtBut b h h') (n : i ≠ b) : Si t h' i l k := by
  cases t with
  | false => exact Heap.IsListIter.extBut (show h.IsListIter i l k from x) e n
  | true => exact Heap.IsTupleIter.extBut (show h.IsTupleIter i l k from x) e n
theorem Sq.psh (x : Sq t h l xs) (o : Obj) : Sq t (h.push o) l xs := by
  cases t with
  | false => exact Heap.IsList.push (show h.IsList l xs from x) o
  | true => exact Heap.IsTuple.push (show h.IsTuple l xs from x) o
theorem Si.stay (x : Si t h i l k) (e : ∀ o, h.get? i = some o → h'.get? i = some o) : Si t h' i l k := by
  cases t with
  | false => exact Heap.IsListIter.at (show h.IsListIter i l k from x) e
  | true => exact Heap.IsTupleIter.at (show h.IsTupleIter i l k from x) e
theorem Si.obj (x : Si t h i l k) : ∃ o, h.get? i = some o ∧ ∀ v, o.data ≠ .cell v := by
  cases t with
  | false =>
    obtain ⟨o, e, _, d⟩ := (show h.IsListIter i l k from x)
    exact ⟨o, e, fun v q => by rw [d] at q; cases q⟩
  | true =>
    obtain ⟨o, e, _, d⟩ := (show h.IsTupleIter i l k from x)
    exact ⟨o, e, fun v q => by rw [d] at q; cases q⟩
end
section
variable {prog : Program} {w : World} {A : Around} {E : Value → Shared → Prop} {s : Shared} {t u : Bool}
  {z T1 T2 i1 i2 l1 l2 : Addr} {k1 k2 : Nat} {xs ys : Array Value} {x y c d : Value}
theorem draw_item {it l : Addr} {k : Nat} {Q : Value → Shared → Prop} (hi : Si t s.heap it l k) (hl : Sq t s.heap l xs)
    (hx : xs[k]? = some x) (hq : ∀ h', Si t h' it l (k + 1) → Heap.SameBut it s.heap h' → Q x { s with heap := h' }) :
    wpAny (model prog w) A (Builtin.SmallTypes.nextOf (.ref it)) Q E s := by
  cases t with
  | false => exact wpAny_nextOf_list_item (show s.heap.IsListIter it l k from hi) (show s.heap.IsList l xs from hl) hx hq
  | true => exact RZ.nextOf_tuple_item (show s.heap.IsTupleIter it l k from hi) (show s.heap.IsTuple l xs from hl) hx hq
theorem draw_end {it l : Addr} {k : Nat} {Q : Value → Shared → Prop} (hh : A.handled = none) (hi : Si t s.heap it l k)
    (hl : Sq t s.heap l xs) (hx : xs[k]? = none)
    (he : ∀ h' e, Heap.ExtBut it s.heap h' → (∃ o, h'.get? e = some o ∧ o.cls = .type "StopIteration") → E (.ref e) { s with heap := h' }) :
    wpAny (model prog w) A (Builtin.SmallTypes.nextOf (.ref it)) Q E s := by
  cases t with
  | false => exact wpAny_nextOf_list_end hh (show s.heap.IsListIter it l k from hi) (show s.heap.IsList l xs from hl) hx he
  | true => exact RZ.nextOf_tuple_end hh (show s.heap.IsTupleIter it l k from hi) (show s.heap.IsTuple l xs from hl) hx he

/-- what a turn of the zip object leaves -/
structure ZTurn (t u : Bool) (h h' : Heap) (z T1 T2 i1 i2 l1 l2 : Addr) (k1 k2 : Nat) (x y : Value) : Prop where
  zip : IsZip h' z T1 T2 (rawInt h.objs.size)
  out : IsPair h' T2 x y
  it1 : Si t h' i1 l1 (k1 + 1)
  it2 : Si u h' i2 l2 (k2 + 1)
  new : IsPair h' h.objs.size x y
  size : h'.objs.size = h.objs.size + 1
  keep : ∀ b o, b ≠ z → b ≠ T2 → b ≠ i1 → b ≠ i2 → h.get? b = some o → h'.get? b = some o

theorem zmix_item {Q : Value → Shared → Prop} (D : ZipApart z T1 T2 i1 i2 l1 l2) (hz : IsZip s.heap z T1 T2 .none)
    (h1 : IsPair s.heap T1 (.ref i1) (.ref i2)) (h2 : IsPair s.heap T2 c d) (a1 : Si t s.heap i1 l1 k1) (a2 : Si u s.heap i2 l2 k2)
    (b1 : Sq t s.heap l1 xs) (b2 : Sq u s.heap l2 ys) (hx : xs[k1]? = some x) (hy : ys[k2]? = some y)
    (hq : ∀ h', ZTurn t u s.heap h' z T1 T2 i1 i2 l1 l2 k1 k2 x y → Q (.ref s.heap.objs.size) { s with heap := h' }) :
    wpAny (model prog w) A (Builtin.«zip.__next__» ⟨[.ref z], []⟩) (fun fin s' => ∃ v, fin = .done (.ret v) ∧ Q v s') E s := by
  show wpAny _ _ (field (.ref z) 2 >>= _) _ _ _
  refine wpAny_bind (wpAny_field hz rfl (x := .bool false) rfl ?_)
  show wpAny _ _ (field (.ref z) 3 >>= _) _ _ _
  refine wpAny_bind (wpAny_field hz rfl (x := .ref T1) rfl ?_)
  refine wpAny_bind (wpAny_seqItems h1 rfl ?_)
  show wpAny _ _ (Builtin.SmallTypes.ownedTupleIsFree (.ref z) >>= _) _ _ _
  refine wpAny_bind ?_
  unfold Builtin.SmallTypes.ownedTupleIsFree
  refine wpAny_bind (wpAny_field hz rfl (x := .none) rfl (wpAny_pure ?_))
  simp only [if_true]
  refine wpAny_bind (wpAny_rule ?_)
  refine wpAny_bind (wpAny_field hz rfl (x := .ref T2) rfl ?_)
  refine wpAny_bind (wpAny_setField_rec hz (by simp) ?_)
  intro g1 zg1 s1
  replace zg1 : IsZip g1 z T1 T2 .ellipsis := zg1
  refine wpAny_bind ?_
  simp only [List.zipIdx_cons, List.zipIdx_nil, List.forIn_cons, List.forIn_nil]
  -- the first one's item
  refine wpAny_bind (wpAny_bind (wpAny_onRaise ?_))
  show wpAny _ _ (Builtin.SmallTypes.nextOf (.ref i1) >>= _) _ _ _
  refine wpAny_bind (draw_item (a1.ext s1.extBut D.i1z) (b1.ext s1.extBut D.l1z) hx ?_)
  intro g2 n1 s2
  refine wpAny_pure ?_
  have o2 : IsPair g2 T2 c d := s2.extBut _ _ D.TOi1 (s1.extBut _ _ D.TOz h2)
  refine wpAny_bind (wpAny_seqItems o2 rfl ?_)
  refine wpAny_bind (wpAny_updateSeq_pair o2 ?_)
  intro g3 o3 s3
  replace o3 : IsPair g3 T2 x d := o3
  refine wpAny_bind (wpAny_letGo (wpAny_pure ?_))
  -- the second one's
  refine wpAny_bind (wpAny_bind (wpAny_onRaise ?_))
  show wpAny _ _ (Builtin.SmallTypes.nextOf (.ref i2) >>= _) _ _ _
  refine wpAny_bind (draw_item (((a2.ext s1.extBut D.i2z).ext s2.extBut D.i12.symm).ext s3.extBut D.TOi2.symm)
    (((b2.ext s1.extBut D.l2z).ext s2.extBut D.l2i1).ext s3.extBut D.l2TO) hy ?_)
  intro g4 n2 s4
  refine wpAny_pure ?_
  have o4 : IsPair g4 T2 x d := s4.extBut _ _ D.TOi2 o3
  refine wpAny_bind (wpAny_seqItems o4 rfl ?_)
  refine wpAny_bind (wpAny_updateSeq_pair o4 ?_)
  intro g5 o5 s5
  replace o5 : IsPair g5 T2 x y := o5
  refine wpAny_bind (wpAny_letGo (wpAny_pure (wpAny_pure ?_)))
  -- the pair
  refine wpAny_bind (wpAny_seqItems o5 rfl ?_)
  refine wpAny_bind (wpAny_newTuple ?_)
  have sz : g5.objs.size = s.heap.objs.size := by rw [s5.1, s4.1, s3.1, s2.1, s1.1]
  have z5 : IsZip g5 z T1 T2 .ellipsis :=
    s5.extBut _ _ D.TOz.symm (s4.extBut _ _ D.i2z.symm (s3.extBut _ _ D.TOz.symm (s2.extBut _ _ D.i1z.symm zg1)))
  have kp : ∀ b o, b ≠ z → b ≠ T2 → b ≠ i1 → b ≠ i2 → s.heap.get? b = some o → g5.get? b = some o := by
    intro b o e1 e2 e3 e4 e
    exact s5.extBut _ _ e2 (s4.extBut _ _ e4 (s3.extBut _ _ e2 (s2.extBut _ _ e3 (s1.extBut _ _ e1 e))))
  have m1 : Si t g5 i1 l1 (k1 + 1) := ((n1.ext s3.extBut D.TOi1.symm).ext s4.extBut D.i12).ext s5.extBut D.TOi1.symm
  have m2 : Si u g5 i2 l2 (k2 + 1) := n2.ext s5.extBut D.TOi2.symm
  have zlt : z < g5.objs.size := Heap.lt_size z5
  show wpAny _ _ (Builtin.SmallTypes.ownedTupleHandOut (.ref z) (.ref g5.objs.size) >>= _) _ _ _
  refine wpAny_bind ?_
  unfold Builtin.SmallTypes.ownedTupleHandOut
  have z6 : IsZip (g5.push { cls := .type "tuple", data := .seq #[x, y] }) z T1 T2 .ellipsis := Heap.get?_push_of_some _ z5
  refine wpAny_bind (wpAny_setField_rec z6 (by simp) ?_)
  intro g7 z7 s7
  replace z7 : IsZip g7 z T1 T2 (rawInt g5.objs.size) := z7
  refine wpAny_setField_rec z7 (by simp) ?_
  intro g8 z8 s8
  replace z8 : IsZip g8 z T1 T2 (rawInt g5.objs.size) := z8
  have up : ∀ b o, b ≠ z → g5.get? b = some o → g8.get? b = some o := fun b o n e =>
    s8.extBut _ _ n (s7.extBut _ _ n (Heap.get?_push_of_some _ e))
  have nz : g5.objs.size ≠ z := Nat.ne_of_gt zlt
  have p8 : IsPair g8 g5.objs.size x y := s8.extBut _ _ nz (s7.extBut _ _ nz (Heap.get?_push_size _ rfl))
  have l8 : g8.objs.size = g5.objs.size + 1 := by rw [s8.1, s7.1, Heap.size_push]
  rw [sz] at z8 p8 l8
  refine wpAny_pure ⟨_, rfl, ?_⟩
  show Q (.ref g5.objs.size) _
  rw [sz]
  exact hq g8 ⟨z8, up _ _ D.TOz o5, m1.stay (fun o => up _ o D.i1z), m2.stay (fun o => up _ o D.i2z), p8, l8,
    fun b o e1 e2 e3 e4 e => up b o e1 (kp b o e1 e2 e3 e4 e)⟩

theorem zmix_end {Q : Fin → Shared → Prop} (hh : A.handled = none) (D : ZipApart z T1 T2 i1 i2 l1 l2) (hz : IsZip s.heap z T1 T2 .none)
    (h1 : IsPair s.heap T1 (.ref i1) (.ref i2)) (h2 : IsPair s.heap T2 c d) (a1 : Si t s.heap i1 l1 k1) (a2 : Si u s.heap i2 l2 k2)
    (b1 : Sq t s.heap l1 xs) (b2 : Sq u s.heap l2 ys) (hend : xs[k1]? = none ∨ ys[k2]? = none)
    (he : ∀ h' e, (∀ b o, b ≠ z → b ≠ T2 → b ≠ i1 → b ≠ i2 → s.heap.get? b = some o → h'.get? b = some o) →
      (∃ o, h'.get? e = some o ∧ o.cls = .type "StopIteration") → E (.ref e) { s with heap := h' }) :
    wpAny (model prog w) A (Builtin.«zip.__next__» ⟨[.ref z], []⟩) Q E s := by
  show wpAny _ _ (field (.ref z) 2 >>= _) _ _ _
  refine wpAny_bind (wpAny_field hz rfl (x := .bool false) rfl ?_)
  show wpAny _ _ (field (.ref z) 3 >>= _) _ _ _
  refine wpAny_bind (wpAny_field hz rfl (x := .ref T1) rfl ?_)
  refine wpAny_bind (wpAny_seqItems h1 rfl ?_)
  show wpAny _ _ (Builtin.SmallTypes.ownedTupleIsFree (.ref z) >>= _) _ _ _
  refine wpAny_bind ?_
  unfold Builtin.SmallTypes.ownedTupleIsFree
  refine wpAny_bind (wpAny_field hz rfl (x := .none) rfl (wpAny_pure ?_))
  simp only [if_true]
  refine wpAny_bind (wpAny_rule ?_)
  refine wpAny_bind (wpAny_field hz rfl (x := .ref T2) rfl ?_)
  refine wpAny_bind (wpAny_setField_rec hz (by simp) ?_)
  intro g1 zg1 s1
  replace zg1 : IsZip g1 z T1 T2 .ellipsis := zg1
  refine wpAny_bind ?_
  simp only [List.zipIdx_cons, List.zipIdx_nil, List.forIn_cons, List.forIn_nil]
  refine wpAny_bind (wpAny_bind (wpAny_onRaise ?_))
  show wpAny _ _ (Builtin.SmallTypes.nextOf (.ref i1) >>= _) _ _ _
  cases hx : xs[k1]? with
  | none =>
    refine wpAny_bind (draw_end hh (a1.ext s1.extBut D.i1z) (b1.ext s1.extBut D.l1z) hx ?_)
    rintro g2 e s2 ⟨oe, he1, he2⟩
    have zg2 : IsZip g2 z T1 T2 .ellipsis := s2 _ _ D.i1z.symm zg1
    have ez : e ≠ z := by
      rintro rfl
      rw [zg2] at he1
      cases he1
      simp at he2
    refine wpAny_setField_rec zg2 (by simp) ?_
    intro g3 _ s3
    exact he g3 e (fun b o e1 _ e3 _ q => s3.extBut _ _ e1 (s2 _ _ e3 (s1.extBut _ _ e1 q))) ⟨oe, s3.extBut _ _ ez he1, he2⟩
  | some x =>
    have hy : ys[k2]? = none := by
      rcases hend with q | q
      · rw [hx] at q
        cases q
      · exact q
    refine wpAny_bind (draw_item (a1.ext s1.extBut D.i1z) (b1.ext s1.extBut D.l1z) hx ?_)
    intro g2 n1 s2
    refine wpAny_pure ?_
    have o2 : IsPair g2 T2 c d := s2.extBut _ _ D.TOi1 (s1.extBut _ _ D.TOz h2)
    refine wpAny_bind (wpAny_seqItems o2 rfl ?_)
    refine wpAny_bind (wpAny_updateSeq_pair o2 ?_)
    intro g3 o3 s3
    refine wpAny_bind (wpAny_letGo (wpAny_pure ?_))
    refine wpAny_bind (wpAny_bind (wpAny_onRaise ?_))
    show wpAny _ _ (Builtin.SmallTypes.nextOf (.ref i2) >>= _) _ _ _
    refine wpAny_bind (draw_end hh (((a2.ext s1.extBut D.i2z).ext s2.extBut D.i12.symm).ext s3.extBut D.TOi2.symm)
      (((b2.ext s1.extBut D.l2z).ext s2.extBut D.l2i1).ext s3.extBut D.l2TO) hy ?_)
    rintro g4 e s4 ⟨oe, he1, he2⟩
    have zg4 : IsZip g4 z T1 T2 .ellipsis := s4 _ _ D.i2z.symm (s3.extBut _ _ D.TOz.symm (s2.extBut _ _ D.i1z.symm zg1))
    have ez : e ≠ z := by
      rintro rfl
      rw [zg4] at he1
      cases he1
      simp at he2
    refine wpAny_setField_rec zg4 (by simp) ?_
    intro g5 _ s5
    exact he g5 e (fun b o e1 e2 e3 e4 q => s5.extBut _ _ e1 (s4 _ _ e4 (s3.extBut _ _ e2 (s2.extBut _ _ e3 (s1.extBut _ _ e1 q)))))
      ⟨oe, s5.extBut _ _ ez he1, he2⟩
end
end VB
/-! zip of two sequences, each a list or a tuple: its making, its walk -/
namespace VB
open PySem PySem.Spec PyProof.Rows L2
theorem Sv.inj {X : Cx} {pins : List (Addr × Obj)} {σ : L2.St} {H : Hp} {s : Shared} {t : Bool} {a : Addr} {xs ys : List V}
    (I : Inv X pins σ H s) (h : Sv t X.K H a xs) (h' : Sv t X.K H a ys) : xs = ys := by
  cases t with
  | false => exact I.list_inj (show SqL X.K H a xs from h) (show SqL X.K H a ys from h')
  | true => exact I.tuple_inj (show SqT X.K H a xs from h) (show SqT X.K H a ys from h')
theorem Sv.real {X : Cx} {pins : List (Addr × Obj)} {σ : L2.St} {H : Hp} {s : Shared} {t : Bool} {a : Addr} {xs : List V}
    (I : Inv X pins σ H s) (h : Sv t X.K H a xs) : ∃ its : List Value, Vals xs its ∧ Sq t s.heap a its.toArray ∧ a < s.heap.objs.size := by
  cases t with
  | false =>
    obtain ⟨its, r, p, _⟩ := I.list (show SqL X.K H a xs from h)
    exact ⟨its, r, p.isList, p.lt⟩
  | true =>
    obtain ⟨its, r, p, _⟩ := I.tuple (show SqT X.K H a xs from h)
    obtain ⟨o, ho, _⟩ := id p
    exact ⟨its, r, p, Heap.lt_size ho⟩
section
variable {prog : Program} {w : World} {A : Around} {E : Value → Shared → Prop} {s : Shared} {t u : Bool}
  {z T1 T2 i1 i2 l1 l2 : Addr} {k1 k2 : Nat} {xs ys : Array Value} {x y c d : Value}
theorem zmix_next {Q : Option Value → Shared → Prop} (D : ZipApart z T1 T2 i1 i2 l1 l2) (hz : IsZip s.heap z T1 T2 .none)
    (h1 : IsPair s.heap T1 (.ref i1) (.ref i2)) (h2 : IsPair s.heap T2 c d) (a1 : Si t s.heap i1 l1 k1) (a2 : Si u s.heap i2 l2 k2)
    (b1 : Sq t s.heap l1 xs) (b2 : Sq u s.heap l2 ys) (hx : xs[k1]? = some x) (hy : ys[k2]? = some y)
    (hq : ∀ h', ZTurn t u s.heap h' z T1 T2 i1 i2 l1 l2 k1 k2 x y → Q (some (.ref s.heap.objs.size)) { s with heap := h' }) :
    wpAny (model prog w) A (pyNext (.ref z)) Q E s := by
  have ty : s.TypeIs (.ref z) "zip" := ⟨_, hz, rfl⟩
  unfold pyNext
  refine wpAny_bind (wpAny_attempt ?_)
  refine wpAny_callSpecial?_slot (name := Str.ofString "__next__") ty F.slot_zip_next ?_
  refine wpAny_call_entry F.slot_zip_next ty F.entry_zip_next ?_ (F.args_zip_next_1 _)
  exact zmix_item D hz h1 h2 a1 a2 b1 b2 hx hy fun h' q => wpAny_pure (hq h' q)
theorem zmix_stop {Q : Option Value → Shared → Prop} (hh : A.handled = none) (D : ZipApart z T1 T2 i1 i2 l1 l2) (hz : IsZip s.heap z T1 T2 .none)
    (h1 : IsPair s.heap T1 (.ref i1) (.ref i2)) (h2 : IsPair s.heap T2 c d) (a1 : Si t s.heap i1 l1 k1) (a2 : Si u s.heap i2 l2 k2)
    (b1 : Sq t s.heap l1 xs) (b2 : Sq u s.heap l2 ys) (hend : xs[k1]? = none ∨ ys[k2]? = none)
    (hq : ∀ h', (∀ b o, b ≠ z → b ≠ T2 → b ≠ i1 → b ≠ i2 → s.heap.get? b = some o → h'.get? b = some o) → Q none { s with heap := h' }) :
    wpAny (model prog w) A (pyNext (.ref z)) Q E s := by
  have ty : s.TypeIs (.ref z) "zip" := ⟨_, hz, rfl⟩
  unfold pyNext
  refine wpAny_bind (wpAny_attempt ?_)
  refine wpAny_callSpecial?_slot (name := Str.ofString "__next__") ty F.slot_zip_next ?_
  refine wpAny_call_entry F.slot_zip_next ty F.entry_zip_next ?_ (F.args_zip_next_1 _)
  refine zmix_end hh D hz h1 h2 a1 a2 b1 b2 hend ?_
  rintro h' e kp ⟨o, ho, hc⟩
  refine wpAny_bind (wpAny_isInstance (T := "StopIteration") (b := true) ⟨o, ho, hc⟩ isSubtype_stop ?_)
  exact wpAny_pure (hq _ kp)
end
/-- an iterator over l, new -/
def itO (t : Bool) (l : Addr) : Obj := match t with
  | false => { cls := .type "list_iterator", data := .fields #[.ref l, .int 0 0] }
  | true => { cls := .type "tuple_iterator", data := .fields #[.ref l, .int 0 0] }
section
variable (t u : Bool) (h : Heap) (l1 l2 : Addr)
abbrev zm1 : Heap := h.push (itO t l1)
abbrev zm2 : Heap := (zm1 t h l1).push (itO u l2)
abbrev zm3 : Heap := (zm2 t u h l1 l2).push { cls := .type "tuple", data := .seq #[.ref h.objs.size, .ref (zm1 t h l1).objs.size] }
abbrev zm4 : Heap := (zm3 t u h l1 l2).push { cls := .type "tuple", data := .seq #[.none, .none] }
abbrev zm5 : Heap := (zm4 t u h l1 l2).push { cls := .type "zip", data := .fields #[.none, .bool false, .bool false, .ref (zm2 t u h l1 l2).objs.size, .ref (zm3 t u h l1 l2).objs.size] }
end
theorem meets_zmix (t u : Bool) (l1 l2 : Addr) (xs ys : Array Value) :
    Meets (Builtin.«zip.__new__» ⟨[.type "zip", .ref l1, .ref l2], []⟩) (fun _ R s => Sq t s.heap l1 xs ∧ Sq u s.heap l2 ys ∧
      R (.ok (.ret (.ref (zm4 t u s.heap l1 l2).objs.size))) { s with heap := zm5 t u s.heap l1 l2 }) := by
  refine .of_wp ?_
  rintro prog w A R ⟨hp, g, d, tk, os⟩ ⟨b1, b2, h⟩
  have sub := sub_zip
  have c2 : Sq u (hp.push (itO t l1)) l2 ys := b2.psh _
  cases t with
  | false =>
    have e1 : Heap.IsList (Shared.heap ⟨hp, g, d, tk, os⟩) l1 xs := b1
    cases u with
    | false =>
      have e2 : Heap.IsList (Shared.heap ⟨hp.push { cls := .type "list_iterator", data := .fields #[.ref l1, .int 0 0] }, g, d, tk, os⟩) l2 ys := c2
      wp_walk using wpAny_pyIter_list e1, wpAny_pyIter_list e2
      exact ⟨_, rfl, h⟩
    | true =>
      have e2 : Heap.IsTuple (Shared.heap ⟨hp.push { cls := .type "list_iterator", data := .fields #[.ref l1, .int 0 0] }, g, d, tk, os⟩) l2 ys := c2
      wp_walk using wpAny_pyIter_list e1, wpAny_pyIter_tuple e2
      exact ⟨_, rfl, h⟩
  | true =>
    have e1 : Heap.IsTuple (Shared.heap ⟨hp, g, d, tk, os⟩) l1 xs := b1
    cases u with
    | false =>
      have e2 : Heap.IsList (Shared.heap ⟨hp.push { cls := .type "tuple_iterator", data := .fields #[.ref l1, .int 0 0] }, g, d, tk, os⟩) l2 ys := c2
      wp_walk using wpAny_pyIter_tuple e1, wpAny_pyIter_list e2
      exact ⟨_, rfl, h⟩
    | true =>
      have e2 : Heap.IsTuple (Shared.heap ⟨hp.push { cls := .type "tuple_iterator", data := .fields #[.ref l1, .int 0 0] }, g, d, tk, os⟩) l2 ys := c2
      wp_walk using wpAny_pyIter_tuple e1, wpAny_pyIter_tuple e2
      exact ⟨_, rfl, h⟩
theorem si_new {t : Bool} {h : Heap} {i l : Addr} (e : h.get? i = some (itO t l)) : Si t h i l 0 := by
  cases t with
  | false => exact ⟨_, e, rfl, rfl⟩
  | true => exact ⟨_, e, rfl, rfl⟩
section
variable {prog : Program} {w : World} {A : Around} {E : Value → Shared → Prop} {s : Shared} {t u : Bool}
/-- what zip's call leaves -/
structure ZNew (t u : Bool) (h h' : Heap) (l1 l2 : Addr) : Prop where
  zip : IsZip h' (h.objs.size + 4) (h.objs.size + 2) (h.objs.size + 3) .none
  its : IsPair h' (h.objs.size + 2) (.ref h.objs.size) (.ref (h.objs.size + 1))
  out : IsPair h' (h.objs.size + 3) .none .none
  it1 : Si t h' h.objs.size l1 0
  it2 : Si u h' (h.objs.size + 1) l2 0
  keep : ∀ b o, h.get? b = some o → h'.get? b = some o
theorem call_zmix {l1 l2 : Addr} {xs ys : Array Value} {Q : Value → Shared → Prop} (b1 : Sq t s.heap l1 xs) (b2 : Sq u s.heap l2 ys)
    (hq : ∀ h', ZNew t u s.heap h' l1 l2 → Q (.ref (s.heap.objs.size + 4)) { s with heap := h' }) :
    wpAny (model prog w) A (call (.type "zip") [.ref l1, .ref l2]) Q E s := by
  refine callType_new F.called_zip (by decide) (F.typeCall_zip_2 _ _) (F.newCall_zip_2 _ _) (fun obj => F.args_object_init_3 obj _ _)
    F.entry_zip_new (meets_zmix t u l1 l2 xs ys) ⟨b1, b2, ?_⟩
  have n1 : (zm1 t s.heap l1).objs.size = s.heap.objs.size + 1 := Heap.size_push ..
  have n2 : (zm2 t u s.heap l1 l2).objs.size = s.heap.objs.size + 2 := by rw [Heap.size_push, n1]
  have n3 : (zm3 t u s.heap l1 l2).objs.size = s.heap.objs.size + 3 := by rw [Heap.size_push, n2]
  have n4 : (zm4 t u s.heap l1 l2).objs.size = s.heap.objs.size + 4 := by rw [Heap.size_push, n3]
  have f5 : itO t l1 = itO t l1 := rfl
  have nf : ∀ (b : Bool) (l : Addr), (itO b l).isFreed = false := fun b l => by cases b <;> rfl
  have g5 : (zm5 t u s.heap l1 l2).get? (zm4 t u s.heap l1 l2).objs.size = some _ := Heap.get?_push_size _ rfl
  have g4 : (zm5 t u s.heap l1 l2).get? (zm3 t u s.heap l1 l2).objs.size = some _ := Heap.get?_push_of_some _ (Heap.get?_push_size _ rfl)
  have g3 : (zm5 t u s.heap l1 l2).get? (zm2 t u s.heap l1 l2).objs.size = some _ := Heap.get?_push_of_some _ (Heap.get?_push_of_some _ (Heap.get?_push_size _ rfl))
  have g2 : (zm5 t u s.heap l1 l2).get? (zm1 t s.heap l1).objs.size = some (itO u l2) :=
    Heap.get?_push_of_some _ (Heap.get?_push_of_some _ (Heap.get?_push_of_some _ (Heap.get?_push_size _ (nf u l2))))
  have g1 : (zm5 t u s.heap l1 l2).get? s.heap.objs.size = some (itO t l1) :=
    Heap.get?_push_of_some _ (Heap.get?_push_of_some _ (Heap.get?_push_of_some _ (Heap.get?_push_of_some _ (Heap.get?_push_size _ (nf t l1)))))
  show _ ∧ _
  rw [n2, n3, n4] at g5
  rw [n1, n2] at g3
  rw [n3] at g4
  rw [n1] at g2
  rw [n4]
  refine ⟨⟨_, g5, rfl⟩, hq _ ⟨g5, g3, g4, si_new g1, si_new g2, ?_⟩⟩
  intro b o e
  exact Heap.get?_push_of_some _ (Heap.get?_push_of_some _ (Heap.get?_push_of_some _ (Heap.get?_push_of_some _ (Heap.get?_push_of_some _ e))))
end
/-- two sequences as they stand at each turn, the items in new pairs -/
def Itm (t u : Bool) (K : PySem.W.Frag) (a b : Addr) : It :=
  ⟨fun i H => ∃ (xs ys : List V) (x y : V), Sv t K H a xs ∧ Sv u K H b ys ∧ xs[i]? = some x ∧ ys[i]? = some y,
    fun i H v H' => ∃ N x y, v = .ref N ∧ H N = none ∧ H' = upd H N (.tup [x, y]) ∧ (∀ xs, Sv t K H a xs → xs[i]? = some x) ∧ ∀ ys, Sv u K H b ys → ys[i]? = some y,
    fun i H => ∃ xs ys : List V, Sv t K H a xs ∧ Sv u K H b ys ∧ (xs.length ≤ i ∨ ys.length ≤ i)⟩
theorem in5 {a b c d e x : Addr} (h : x ∈ [a, b, c, d, e]) : x = a ∨ x = b ∨ x = c ∨ x = d ∨ x = e := by simpa using h
theorem turn_zmix {P : Program} {w : World} {K : PySem.W.Frag} {t u : Bool} {elts : List Expr} {kk : Nat} {tpos : Pos} {a b z T1 T2 i1 i2 : Addr}
    (D : ZipApart z T1 T2 i1 i2 a b) : Turn P w K (.Tuple elts kk tpos) (Itm t u K a b) [z, T1, T2, i1, i2] z
      (fun i h => IsZip h z T1 T2 .none ∧ IsPair h T1 (.ref i1) (.ref i2) ∧ (∃ x y, IsPair h T2 x y) ∧ Si t h i1 a i ∧ Si u h i2 b i) := by
  refine ⟨by simp, ?_, ?_, ?_, ?_, ?_⟩
  · rintro i h ⟨hz, h1, ⟨x, y, h2⟩, a1, a2⟩ c hc
    rcases in5 hc with rfl | rfl | rfl | rfl | rfl
    · exact ⟨_, hz, fun v q => nomatch q⟩
    · exact ⟨_, h1, fun v q => nomatch q⟩
    · exact ⟨_, h2, fun v q => nomatch q⟩
    · exact a1.obj
    · exact a2.obj
  · rintro i h h' ⟨hz, h1, ⟨x, y, h2⟩, a1, a2⟩ k
    exact ⟨k z (by simp) _ hz, k T1 (by simp) _ h1, ⟨x, y, k T2 (by simp) _ h2⟩, a1.stay fun o q => k i1 (by simp) o q, a2.stay fun o q => k i2 (by simp) o q⟩
  · intro X hP hw hK hc i pins s σ H E I hf st hg
    subst hP hw hK
    obtain ⟨hz, h1, ⟨x0, y0, h2⟩, a1, a2⟩ := st
    obtain ⟨xs, ys, x, y, qx, qy, hx, hy⟩ := hg
    obtain ⟨its, rv, p, _⟩ := qx.real I
    obtain ⟨its2, rv2, p2, _⟩ := qy.real I
    obtain ⟨v1, hv1, r1⟩ := rv.get hx
    obtain ⟨v2, hv2, r2⟩ := rv2.get hy
    have zl : z < s.heap.objs.size := Heap.lt_size hz
    refine zmix_next D hz h1 h2 a1 a2 p p2 (x := v1) (y := v2) (by simpa using hv1) (by simpa using hv2) ?_
    intro g T
    refine ⟨_, rfl, wpAny_letOwnedTupleGo_zip (s := { s with heap := g }) T.zip ?_⟩
    intro g2 z2 sb
    have nN : s.heap.objs.size ≠ z := Nat.ne_of_gt zl
    have pN : g2.get? s.heap.objs.size = some { cls := .type "tuple", data := .seq #[v1, v2] } := (sb.2 _ nN).trans T.new
    have ok : ObjOk X.prog X.w (upd H s.heap.objs.size (.tup [x, y])) g2 s.heap.objs.size (.tup [x, y]) :=
      ⟨by show 2 ≤ sizeLine; decide, [v1, v2], .cons r1 (.cons r2 .nil), ⟨_, pN, rfl, _, rfl⟩⟩
    have J : Inv X pins σ (upd H s.heap.objs.size (.tup [x, y])) { s with heap := g2 } := by
      refine I.turnedNew (t' := s.toks) (ch := [z, T1, T2, i1, i2]) ?_ hf (Nat.le_refl _) ok
      intro c o hb q
      have n : c ≠ z ∧ c ≠ T2 ∧ c ≠ i1 ∧ c ≠ i2 := ⟨fun e => hb (by simp [e]), fun e => hb (by simp [e]), fun e => hb (by simp [e]), fun e => hb (by simp [e])⟩
      exact (sb.2 c n.1).trans (T.keep c o n.1 n.2.1 n.2.2.1 n.2.2.2 q)
    refine ⟨.ref s.heap.objs.size, _, J, rfl, ⟨_, x, y, rfl, I.hok.fresh (Nat.le_refl _), rfl, ?_, ?_⟩, ⟨z2, ?_, ⟨v1, v2, ?_⟩, ?_, ?_⟩, ?_⟩
    · intro l hl
      rw [hl.inj I qx]
      exact hx
    · intro l hl
      rw [hl.inj I qy]
      exact hy
    · exact (sb.2 _ D.TIz).trans (T.keep _ _ D.TIz D.TITO D.TIi1 D.TIi2 h1)
    · exact (sb.2 _ D.TOz).trans T.out
    · exact T.it1.stay fun o q => (sb.2 _ D.i1z).trans q
    · exact T.it2.stay fun o q => (sb.2 _ D.i2z).trans q
    · intro c hcm
      have lt : c < s.heap.objs.size := by
        rcases in5 hcm with rfl | rfl | rfl | rfl | rfl
        · exact zl
        · exact Heap.lt_size h1
        · exact Heap.lt_size h2
        · obtain ⟨_, e, _⟩ := a1.obj
          exact Heap.lt_size e
        · obtain ⟨_, e, _⟩ := a2.obj
          exact Heap.lt_size e
      rw [upd_ne (Nat.ne_of_lt lt)]
      exact (hf c hcm).1
  · intro X hP hw hK hc i pins s σ H E I hf st hg
    subst hP hw hK
    obtain ⟨hz, h1, ⟨x0, y0, h2⟩, a1, a2⟩ := st
    obtain ⟨xs, ys, qx, qy, hend⟩ := hg
    obtain ⟨its, rv, p, _⟩ := qx.real I
    obtain ⟨its2, rv2, p2, _⟩ := qy.real I
    have e1 := rv.length
    have e2 := rv2.length
    have he : its.toArray[i]? = none ∨ its2.toArray[i]? = none := by
      rcases hend with q | q
      · exact .inl (by simp; omega)
      · exact .inr (by simp; omega)
    refine zmix_stop (I.ok.hd hc) D hz h1 h2 a1 a2 p p2 he ?_
    intro g kp
    refine ⟨rfl, I.turnedL (t' := s.toks) (ch := [z, T1, T2, i1, i2]) ?_ hf⟩
    intro c o hb q
    exact kp c o (fun e => hb (by simp [e])) (fun e => hb (by simp [e])) (fun e => hb (by simp [e])) (fun e => hb (by simp [e])) q
  · intro A i s Q E st h
    exact wpAny_pyIter_zip st.1 h
/-- zip(e, e2): lists and tuples, in any mixture -/
def iZm (K : PySem.W.Frag) (ta : TA) : TI := fun σ H R => ta σ H fun vs H1 => ∃ (t u : Bool) (a b : Addr) (xs ys : List V), vs = [.ref a, .ref b] ∧
  Sv t K H1 a xs ∧ Sv u K H1 b ys ∧ R (Itm t u K a b) H1
theorem pi_zm {X : Cx} {K : PySem.W.Frag} {e e2 : Expr} {ta : TA} {p pos tpos : Pos} {elts : List Expr} {kk : Nat} (hg : Gl X "zip") (hm : X.mg "zip" = none) (ha : PA X [e, e2] ta) (hK : X.K = K := by rfl)
    (hs : starEach [e, e2] X.env = (false, eval e X.env) :: starEach [e2] X.env := by rfl) (hpl : (backTo pos (starEach [e2] X.env)).any (·.1) = false := by rfl) :
    PI X (.Tuple elts kk tpos) (.Call (.Name "zip" p) [e, e2] [] pos) (iZm K ta) := by
  subst hK
  constructor
  intro pins s σ H R I h
  refine Call_ (ld_blt I hg hm PyProof.Rows.boot_zip (PyProof.Rows.callWith_type1 (thn (ha.run pos pins s σ H _ I h) ?_) hs hpl))
  rintro us s1 ⟨vs, H1, I1, r1, t, u, a, b, xs, ys, rfl, qx, qy, q⟩
  obtain ⟨w1, w2, rfl, ra, rb⟩ := vals2 r1
  cases (show w1 = Value.ref a from ra)
  cases (show w2 = Value.ref b from rb)
  obtain ⟨its, rv, p1, lt1⟩ := qx.real I1
  obtain ⟨its2, rv2, p2, lt2⟩ := qy.real I1
  refine call_zmix p1 p2 ?_
  intro h' Z
  refine wpAny_pyIter_zip Z.zip ?_
  have I2 : Inv X pins σ H1 { s1 with heap := h' } := I1.kept (t' := s1.toks) Z.keep
  let n := s1.heap.objs.size
  refine ⟨n + 4, [n + 4, n + 2, n + 3, n, n + 1], _, _, H1, rfl, I2, turn_zmix (PySem.W.ktu_apart n a b lt1 lt2), ⟨Z.zip, Z.its, ⟨_, _, Z.out⟩, Z.it1, Z.it2⟩, ?_, q⟩
  intro c hc
  have le : n ≤ c := by
    show s1.heap.objs.size ≤ c
    rcases in5 hc with e | e | e | e | e
    · have e' : @Eq Nat c (s1.heap.objs.size + 4) := e
      omega
    · have e' : @Eq Nat c (s1.heap.objs.size + 2) := e
      omega
    · have e' : @Eq Nat c (s1.heap.objs.size + 3) := e
      omega
    · have e' : @Eq Nat c (s1.heap.objs.size) := e
      omega
    · have e' : @Eq Nat c (s1.heap.objs.size + 1) := e
      omega
  exact I1.fpOk le (I1.hok.fresh le)
/-- the walk -/
theorem walk_zm {t u : Bool} {K : PySem.W.Frag} {a b : Addr} {xs ys : List V} {n : Nat} (hn : n = min xs.length ys.length) :
    Walk (Itm t u K a b) n (fun H => Sv t K H a xs ∧ Sv u K H b ys) (YPair (fun i => xs[i]?) (fun i => ys[i]?)) := by
  subst hn
  refine ⟨?_, ?_, ?_⟩
  · intro i H hi q
    have h1 : i < xs.length := by omega
    have h2 : i < ys.length := by omega
    exact ⟨xs, ys, xs[i], ys[i], q.1, q.2, by simp [h1], by simp [h2]⟩
  · intro H q
    exact ⟨xs, ys, q.1, q.2, by omega⟩
  · rintro i H x H' _ q ⟨N, v, v', h1, h2, h3, h4, h5⟩
    exact ⟨N, v, v', h1, h2, h3, h4 xs q.1, h5 ys q.2⟩
end VB
/-! comprehensions that change nothing, of any values -/
namespace VB
open PySem PySem.Spec PyProof.Rows L2
theorem lc_pureVS {J : It} {G : Hp → Prop} {n j : Nat} {us : List V} {xs : List V} {te : TE} {vs : List Nat} {σ : L2.St} {H1 : Hp} {D : Addr} {Qd : Hp → Prop} (wk : Walk J n G (YAt xs)) (hG : ∀ H, Evl.Ex H1 H → G H)
    (hl : us.length = n) (hz : n ≤ 60000) (hD : H1 D = none) (hw : ∀ x, wipe ((wipe σ vs).set j x) vs = wipe σ vs)
    (hs : ∀ (i : Nat) (x : V) (u : V) (H : Hp) (Q : VK), xs[i]? = some x → us[i]? = some u → Evl.Ex H1 H → (∀ H' : Hp, Evl.Ex H H' → Q u H') → te ((wipe σ vs).set j (some x)) H Q)
    (hd : ∀ H, Evl.Ex H1 H → H D = some (.lst us) → Qd H) :
    ∃ W : Nat → Nat → Hp → Prop, (∃ m, W 0 m (upd H1 D (.lst []))) ∧ ∀ i m H, W i m H →
      (J.stop i H ∧ Qd H) ∨ (J.go i H ∧ ∃ Nx : Hp → Prop, (∀ H', Nx H' → ∃ m', m' < m ∧ W (i + 1) m' H') ∧ ∀ x H', J.yld i H x H' →
        gName j x (wipe σ vs) H' fun σ2 H2 => wipe σ2 vs = wipe σ vs ∧ tYes σ2 H2 fun b H3 =>
        if b = true then te σ2 H3 fun y H4 => ∃ acc, H4 D = some (.lst acc) ∧ acc.length < sizeLine ∧ Nx (upd H4 D (.lst (acc ++ [y]))) else Nx H3) := by
  refine lc_it wk (fun i H' => Evl.Ex H1 H' ∧ i ≤ n ∧ H' D = some (.lst (us.take i))) ⟨Evl.Ex.new hD, Nat.zero_le _, upd_same⟩ (fun i H _ h => hG H h.1) ?_ ?_
  · rintro i x H H' hi ⟨e1, hi2, h1⟩ ⟨rfl, hx⟩
    refine ⟨hw _, ?_⟩
    obtain ⟨u, hu⟩ : ∃ u, us[i]? = some u := ⟨us[i]'(by omega), by simp [show i < us.length by omega]⟩
    show te _ H' _
    refine hs i x u H' _ hx hu e1 fun H'' e2 => ⟨_, e2 D _ h1, ?_, Evl.Ex.mut (e1.trans e2) hD, by omega, ?_⟩
    · rw [List.length_take]
      exact Evl.sz_lt (by omega)
    · rw [upd_same, take_snoc hu]
  · rintro H ⟨e1, _, h1⟩
    refine hd H e1 ?_
    rw [h1, ← hl, List.take_length]
/-- .. over pairs -/
theorem lc_pureVZ {K : PySem.W.Frag} {J : It} {G : Hp → Prop} {n j1 j2 : Nat} {us : List V} {xs ys : Nat → Option V} {te : TE} {vs : List Nat} {σ : L2.St} {H1 : Hp} {D : Addr} {Qd : Hp → Prop} (wk : Walk J n G (YPair xs ys)) (hG : ∀ H, Evl.Ex H1 H → G H)
    (hl : us.length = n) (hz : n ≤ 60000) (hD : H1 D = none) (hw : ∀ x y, wipe (((wipe σ vs).set j1 x).set j2 y) vs = wipe σ vs)
    (hs : ∀ (i : Nat) (x y : V) (u : V) (H : Hp) (Q : VK), xs i = some x → ys i = some y → us[i]? = some u → Evl.Ex H1 H → (∀ H' : Hp, Evl.Ex H H' → Q u H') → te (((wipe σ vs).set j1 (some x)).set j2 (some y)) H Q)
    (hd : ∀ H, Evl.Ex H1 H → H D = some (.lst us) → Qd H) :
    ∃ W : Nat → Nat → Hp → Prop, (∃ m, W 0 m (upd H1 D (.lst []))) ∧ ∀ i m H, W i m H →
      (J.stop i H ∧ Qd H) ∨ (J.go i H ∧ ∃ Nx : Hp → Prop, (∀ H', Nx H' → ∃ m', m' < m ∧ W (i + 1) m' H') ∧ ∀ x H', J.yld i H x H' →
        gTup K 2 (gCons (gName j1) (gCons (gName j2) gNil)) x (wipe σ vs) H' fun σ2 H2 => wipe σ2 vs = wipe σ vs ∧ tYes σ2 H2 fun b H3 =>
        if b = true then te σ2 H3 fun y H4 => ∃ acc, H4 D = some (.lst acc) ∧ acc.length < sizeLine ∧ Nx (upd H4 D (.lst (acc ++ [y]))) else Nx H3) := by
  refine lc_it wk (fun i H' => Evl.Ex H1 H' ∧ i ≤ n ∧ H' D = some (.lst (us.take i))) ⟨Evl.Ex.new hD, Nat.zero_le _, upd_same⟩ (fun i H _ h => hG H h.1) ?_ ?_
  · rintro i v H H' hi ⟨e1, hi2, h1⟩ ⟨T, x, y, rfl, hT, rfl, hx, hy⟩
    have eT := Evl.Ex.new (o := .tup [x, y]) hT
    refine ⟨T, _, rfl, SqT.of upd_same, rfl, x, _, rfl, ⟨y, _, rfl, ?_⟩⟩
    refine ⟨rfl, hw _ _, ?_⟩
    obtain ⟨u, hu⟩ : ∃ u, us[i]? = some u := ⟨us[i]'(by omega), by simp [show i < us.length by omega]⟩
    show te _ _ _
    refine hs i x y u _ _ hx hy hu (e1.trans eT) fun H'' e2 => ⟨_, e2 D _ (eT D _ h1), ?_, Evl.Ex.mut ((e1.trans eT).trans e2) hD, by omega, ?_⟩
    · rw [List.length_take]
      exact Evl.sz_lt (by omega)
    · rw [upd_same, take_snoc hu]
  · rintro H ⟨e1, _, h1⟩
    refine hd H e1 ?_
    rw [h1, ← hl, List.take_length]
/-- a sequence's type -/
theorem Sv.ty {t : Bool} {K : PySem.W.Frag} {H : Hp} {a : Addr} {xs : List V} (h : Sv t K H a xs) : TyX K H (.ref a) (.type (if t then "tuple" else "list")) := by
  cases t with
  | false =>
    have h : SqL K H a xs := h
    rcases h with (h | ⟨o, h⟩) | ⟨o, its, n, h, c, _⟩
    · exact .base (.lst h)
    · exact .base (.frz h)
    · exact .kList h c
  | true =>
    have h : SqT K H a xs := h
    rcases h with (h | ⟨o, h⟩) | ⟨o, its, n, h, c, _⟩
    · exact .base (.tup h)
    · exact .fTuple h
    · exact .kTuple h c
theorem kit_seq (K : PySem.W.Frag) (t : Bool) : PySem.W.kitAny K (.type (if t then "tuple" else "list")) [.type "list", .type "tuple"] = some true := by
  cases t with
  | false => exact kitAny_cons (b := true) (kit_ty (by decide +kernel)) (fun z => nomatch z) (fun _ => rfl)
  | true => exact kitAny_cons (b := false) (kit_ty (by decide +kernel)) (fun _ => kitAny_cons (b := true) (kit_ty (by decide +kernel)) (fun z => nomatch z) (fun _ => rfl)) (fun z => nomatch z)
/-- an int of the module -/
theorem pe_globI {X : Cx} {x : Str} {i : Int} {pos : Pos} (hg : Gl X x) (h : ∃ t, X.mg x = some (.int i t)) (hd : (x == ("__debug__" : Str)) = false := by decide) : PE X (.Name x pos) (tC (.int i)) := by
  obtain ⟨t, h⟩ := h
  exact pe_glob hg h ⟨_, rfl⟩ hd
end VB
/-! what the laws share -/
namespace VB
open PySem PySem.Spec PyProof.Rows L2 BM
section
variable {P : Program} {w : World} {K : PySem.W.Frag} {mg : Str → Option Value} {base : Heap} {f : Addr} {fd : FuncData}
/-- at a: a box: what is left of the digits, whether they count, the seed, the draws so far (below n) -/
def Box (H : Hp) (a : Addr) (n : Int) : Prop := ∃ (d m c : Int) (b : Bool), H a = some (.lst [.int d, .bl b, .int m, .int c]) ∧ 0 ≤ d ∧ 0 ≤ m ∧ m < 2147483629 ∧ 0 ≤ c ∧ c ≤ n
/-- all but what stands at a is as it was -/
def Exb (a : Addr) (H H' : Hp) : Prop := ∀ b o, b ≠ a → H b = some o → H' b = some o
theorem Exb.upd {a : Addr} {H : Hp} {o : HO} : Exb a H (upd H a o) := fun b u n e => by rw [upd_ne n]; exact e
theorem Exb.trans {a : Addr} {H H1 H2 : Hp} (x : Exb a H H1) (y : Exb a H1 H2) : Exb a H H2 := fun b o n e => y b o n (x b o n e)
theorem Exb.of {a : Addr} {H H' : Hp} (x : Evl.Ex H H') : Exb a H H' := fun b o _ e => x b o e
theorem Exb.new {a p : Addr} {H : Hp} {o : HO} (h : H p = none) : Exb a H (L2.upd H p o) := Exb.of (Evl.Ex.new h)
theorem Box.ex {H H' : Hp} {a : Addr} {n : Int} (b : Box H a n) (e : Evl.Ex H H') : Box H' a n := by
  obtain ⟨d, m, c, k, h, r⟩ := b
  exact ⟨d, m, c, k, e _ _ h, r⟩
theorem Box.at {H : Hp} {a p : Addr} {n : Int} (b : Box H a n) (h : H p = none) : p ≠ a := by
  obtain ⟨d, m, c, k, e, r⟩ := b
  rintro rfl
  rw [h] at e
  cases e
theorem Box.le {H : Hp} {a : Addr} {n m : Int} (b : Box H a n) (h : n ≤ m) : Box H a m := by
  obtain ⟨d, m', c, k, e, r1, r2, r3, r4, r5⟩ := b
  exact ⟨d, m', c, k, e, r1, r2, r3, r4, by omega⟩
abbrev ws8 : List Int := [128, 64, 32, 16, 8, 4, 2, 1]
theorem ws8_get {j : Nat} {u : Int} (h : ws8[j]? = some u) : 0 < u ∧ u ≤ 128 := by
  have m := List.mem_of_getElem? h
  simp only [ws8, List.mem_cons, List.not_mem_nil, or_false] at m
  omega
theorem bitsOf_ws (o : Int) : bitsOf o = ws8.map fun u => o / u % 2 := rfl
theorem octetsN_snoc : ∀ (n : Nat) (bs : List Int), octetsN (n + 1) bs = octetsN n bs ++ [octOf ((bs.drop (8 * n)).take 8)]
  | 0, bs => rfl
  | n + 1, bs => by
    show octOf (bs.take 8) :: octetsN (n + 1) (bs.drop 8) = octOf (bs.take 8) :: octetsN n (bs.drop 8) ++ _
    rw [octetsN_snoc n (bs.drop 8), List.drop_drop]
    have e : 8 + 8 * n = 8 * (n + 1) := by omega
    rw [e]
    rfl
theorem octetsN_len : ∀ (n : Nat) (bs : List Int), (octetsN n bs).length = n
  | 0, _ => rfl
  | n + 1, bs => by
    show (octetsN n (bs.drop 8)).length + 1 = _
    rw [octetsN_len n]
theorem cut8 (bs : List Int) (i : Nat) (hi : 8 * i ≤ bs.length) : cutV (IV bs) (some (0 + (i : Int) * 8)) (some (0 + (i : Int) * 8 + 8)) = IV ((bs.drop (8 * i)).take 8) := by
  have e1 : (0 : Int) + (i : Int) * 8 = ((8 * i : Nat) : Int) := by omega
  have e2 : ((8 * i : Nat) : Int) + 8 = ((8 * i + 8 : Nat) : Int) := by omega
  unfold cutV
  rw [e1, e2, HT.sIx_nat, HT.sIx_nat, iv_len, ← List.map_drop, ← List.map_take]
  have e3 : min (8 * i) bs.length = 8 * i := by omega
  rw [e3]
  congr 1
  rw [List.take_eq_take_iff, List.length_drop]
  omega
theorem octOf_snoc (bs : List Int) (b : Int) : octOf (bs ++ [b]) = 2 * octOf bs + b := by
  unfold octOf
  rw [List.foldl_append]
  rfl
theorem if_ne {x y : Int} {A B : Prop} (h1 : x ≠ y → A) (h2 : x = y → B) : if (!decide (V.int x = V.int y)) = true then A else B := by
  by_cases e : x = y
  · rw [decide_eq_true (congrArg V.int e)]
    exact iteF (h2 e)
  · rw [decide_eq_false (fun z => e (V.int.inj z))]
    exact iteT (h1 e)
theorem if_eq {x y : Int} {A B : Prop} (h1 : x = y → A) (h2 : x ≠ y → B) : if decide (V.int x = V.int y) = true then A else B := by
  by_cases e : x = y
  · rw [decide_eq_true (congrArg V.int e)]
    exact iteT (h1 e)
  · rw [decide_eq_false (fun z => e (V.int.inj z))]
    exact iteF (h2 e)
theorem drop_get {α : Type} {l : List α} {i : Nat} {x : α} (h : l[i]? = some x) : l.drop i = x :: l.drop (i + 1) := by
  obtain ⟨hi, e⟩ := List.getElem?_eq_some_iff.mp h
  rw [List.drop_eq_getElem_cons hi, e]
theorem get_lt {α : Type} {l : List α} {i : Nat} (h : i < l.length) : ∃ x, l[i]? = some x := ⟨l[i], by simp [h]⟩
theorem iv_set (pre post : List Int) (x y : Int) : (IV (pre ++ x :: post)).set pre.length (V.int y) = IV (pre ++ y :: post) := by
  rw [← List.map_set, List.set_append_right _ _ (Nat.le_refl _)]
  simp
theorem turned_cons (x y m : Int) (as bs : List Int) : turned (x :: as) (y :: bs) m = if x = y then x :: turned as bs m else (if m % 2 = 1 then y else x) :: turned as bs (m / 2) := by
  rw [turned]
/-- beyond all masks -/
def MM : Int := 2 ^ 4096
theorem MM_eq : (1 : Int) * 2 ^ (4096 : Int).toNat = MM := by
  have e : (4096 : Int).toNat = 4096 := rfl
  rw [e, Int.one_mul]
  rfl
theorem pow_nn (k : Nat) : (0 : Int) < 2 ^ k := Int.pow_pos (by decide)
theorem pow_mono {a b : Nat} (h : a ≤ b) : (2 : Int) ^ a ≤ 2 ^ b := by
  have q : (2 : Nat) ^ a ≤ 2 ^ b := Nat.pow_le_pow_right (by decide) h
  have q2 : (((2 : Nat) ^ a : Nat) : Int) ≤ ((2 ^ b : Nat) : Int) := Int.ofNat_le.mpr q
  simpa using q2
theorem MM_half {k : Nat} (h : k ≤ 4095) : 2 * (2 : Int) ^ k ≤ MM := by
  have q := pow_mono (a := k + 1) (b := 4096) (by omega)
  rw [Int.pow_succ] at q
  unfold MM
  omega
theorem lt_natAbs {x : Int} {n : Nat} (h0 : 0 ≤ x) (h : x < 2 ^ n) : x.natAbs < 2 ^ n := by
  have e : (x.natAbs : Int) = x := Int.natAbs_of_nonneg h0
  have q : (x.natAbs : Int) < ((2 ^ n : Nat) : Int) := by
    rw [e]
    simpa using h
  exact Int.ofNat_lt.mp q
theorem more_bits {x w : Int} {n : Nat} (h0 : 0 ≤ x) (h : x < 2 ^ n) (w0 : 0 ≤ w) (w1 : w < 2 ^ 48) : 0 ≤ x * 2 ^ 48 + w ∧ x * 2 ^ 48 + w < 2 ^ (n + 48) := by
  rw [Int.pow_add]
  have p : (0 : Int) < 2 ^ 48 := pow_nn 48
  have m : (x + 1) * 2 ^ 48 ≤ 2 ^ n * 2 ^ 48 := Int.mul_le_mul_of_nonneg_right (by omega) (Int.le_of_lt p)
  rw [Int.add_mul, Int.one_mul] at m
  have m0 : 0 ≤ x * 2 ^ 48 := Int.mul_nonneg h0 (Int.le_of_lt p)
  omega
theorem oct_snoc {xs : List Int} {r : Int} (h : Oct xs) (h0 : 0 ≤ r) (h1 : r ≤ 255) : Oct (xs ++ [r]) := by
  intro o ho
  rcases List.mem_append.mp ho with q | q
  · exact h o q
  · have e : o = r := by simpa using q
    omega
theorem zip_get {xs ys : List Int} {p : Int × Int} (h : p ∈ xs.zip ys) : ∃ i : Nat, xs[i]? = some p.1 ∧ ys[i]? = some p.2 := by
  obtain ⟨i, hi⟩ := List.mem_iff_getElem?.mp h
  obtain ⟨q1, q2⟩ := List.getElem?_zip_eq_some.mp hi
  exact ⟨i, q1, q2⟩
theorem bitAnd_pp {x y : Int} (hx : 0 ≤ x) (hy : 0 ≤ y) : Builtin.bitAnd x y = ((x.toNat &&& y.toNat : Nat) : Int) := by
  obtain ⟨a, rfl⟩ := nat_of hx
  obtain ⟨b, rfl⟩ := nat_of hy
  rfl
/-- two lists of octets, item by item -/
def both (f : Int → Int → Int) (xs ys : List Int) : List Int := (xs.zip ys).map fun p => f p.1 p.2
theorem both_len {f : Int → Int → Int} {xs ys : List Int} (h : xs.length = ys.length) : (both f xs ys).length = xs.length := by
  unfold both
  rw [List.length_map, List.length_zip]
  omega
theorem both_get {f : Int → Int → Int} {xs ys : List Int} {i : Nat} {u : Int} (h : (both f xs ys)[i]? = some u) : ∃ x y, xs[i]? = some x ∧ ys[i]? = some y ∧ u = f x y := by
  unfold both at h
  rw [List.getElem?_map] at h
  cases e : (xs.zip ys)[i]? with
  | none => rw [e] at h; cases h
  | some p =>
    rw [e] at h
    obtain ⟨q1, q2⟩ := List.getElem?_zip_eq_some.mp e
    exact ⟨p.1, p.2, q1, q2, (Option.some.inj h).symm⟩
theorem both_oct {f : Int → Int → Int} {xs ys : List Int} (ox : Oct xs) (oy : Oct ys) (h : ∀ x y, 0 ≤ x ∧ x ≤ 255 → 0 ≤ y ∧ y ≤ 255 → 0 ≤ f x y ∧ f x y ≤ 255) : Oct (both f xs ys) := by
  intro o ho
  obtain ⟨i, hi⟩ := List.mem_iff_getElem?.mp ho
  obtain ⟨x, y, hx, hy, rfl⟩ := both_get hi
  exact h x y (ox x (List.mem_of_getElem? hx)) (oy y (List.mem_of_getElem? hy))
theorem oct_and {x y : Int} (hx : 0 ≤ x ∧ x ≤ 255) (hy : 0 ≤ y ∧ y ≤ 255) : (0 ≤ Builtin.bitAnd x y ∧ Builtin.bitAnd x y ≤ 255) ∧ Le (bitsOf (Builtin.bitAnd x y)) (bitsOf x) := by
  rw [bitAnd_pp hx.1 hy.1]
  have e : ((x.toNat : Nat) : Int) = x := by omega
  have h := and_oct (a := x.toNat) (b := y.toNat) (by omega)
  refine ⟨by omega, ?_⟩
  have q := and_le x.toNat y.toNat
  rw [e] at q
  exact q
theorem oct_or {x y : Int} (hx : 0 ≤ x ∧ x ≤ 255) (hy : 0 ≤ y ∧ y ≤ 255) : (0 ≤ Builtin.bitOr x y ∧ Builtin.bitOr x y ≤ 255) ∧ Le (bitsOf x) (bitsOf (Builtin.bitOr x y)) := by
  rw [Bits.bitOr_pp hx.1 hy.1]
  have e : ((x.toNat : Nat) : Int) = x := by omega
  have h := or_oct (a := x.toNat) (b := y.toNat) (by omega) (by omega)
  refine ⟨by omega, ?_⟩
  have q := le_or x.toNat y.toNat
  rw [e] at q
  exact q
theorem bitsL_le' {xs ys : List Int} (hl : xs.length = ys.length) (h : ∀ (i : Nat) x y, xs[i]? = some x → ys[i]? = some y → Le (bitsOf x) (bitsOf y)) : Le (bitsL xs) (bitsL ys) :=
  bitsL_le hl fun p hp => by
    obtain ⟨i, h1, h2⟩ := zip_get hp
    exact h i _ _ h1 h2
theorem oct_255 (c : Nat) : Oct (List.replicate c 255) := fun o ho => by
  have e := List.eq_of_mem_replicate ho
  omega
theorem iv_rep (c : Nat) (o : Int) : IV (List.replicate c o) = List.replicate c (V.int o) := List.map_replicate ..
/-- one more octet of a comprehension over a box -/
def Grown (a D : Addr) (H0 : Hp) (m : Int) (i : Nat) (H' : Hp) : Prop := Exb a H0 H' ∧ Box H' a (m + 3 * i) ∧ ∃ xs : List Int, xs.length = i ∧ Oct xs ∧ H' D = some (.lst (IV xs))
theorem Grown.start {a D : Addr} {H : Hp} {m : Int} (B : Box H a m) (hD : H D = none) : Grown a D H m 0 (upd H D (.lst [])) :=
  ⟨Exb.new hD, (B.ex (Evl.Ex.new hD)).le (by omega), [], rfl, fun _ h => (by cases h), upd_same⟩
theorem Grown.more {a D : Addr} {H0 H1 H2 : Hp} {m r : Int} {i : Nat} (g : Grown a D H0 m i H1) (hD : D ≠ a) (hn : H0 D = none) (hi : i ≤ 1000) (e : Exb a H1 H2) (B : Box H2 a (m + 3 * i + 3)) (r0 : 0 ≤ r) (r1 : r ≤ 255) :
    ∃ acc, H2 D = some (.lst acc) ∧ acc.length < sizeLine ∧ Grown a D H0 m (i + 1) (upd H2 D (.lst (acc ++ [V.int r]))) := by
  obtain ⟨e1, B1, xs, hl, ho, h⟩ := g
  have B2 : Box (upd H2 D (.lst (IV xs ++ [V.int r]))) a (m + 3 * i + 3) := by
    obtain ⟨d, m', c, k, hb, q⟩ := B
    exact ⟨d, m', c, k, by rw [upd_ne (Ne.symm hD)]; exact hb, q⟩
  refine ⟨IV xs, e D _ hD h, by rw [iv_len, hl]; exact Evl.sz_lt (by omega), ?_, B2.le (by omega), xs ++ [r], by simp [hl], oct_snoc ho r0 r1, by rw [upd_same, iv_snoc]⟩
  intro b o n q
  have hb : b ≠ D := by
    rintro rfl
    rw [hn] at q
    cases q
  rw [upd_ne hb]
  exact e b o n (e1 b o n q)
/-- keywords in other orders than the parameters' -/
abbrev g1 : List Value → List Value → List Value := fun _ ws => [ws.getD 0 .none]
abbrev g1V : List V → List V → List V := fun _ ws => [ws.getD 0 .non]
abbrev g21 : List Value → List Value → List Value := fun _ ws => [ws.getD 1 .none, ws.getD 0 .none]
abbrev g21V : List V → List V → List V := fun _ ws => [ws.getD 1 .non, ws.getD 0 .non]
abbrev g321 : List Value → List Value → List Value := fun _ ws => [ws.getD 2 .none, ws.getD 1 .none, ws.getD 0 .none]
abbrev g321V : List V → List V → List V := fun _ ws => [ws.getD 2 .non, ws.getD 1 .non, ws.getD 0 .non]
theorem same_ne {x : V} {A B : Prop} (h : B) : if (!decide (x = x)) = true then A else B := by
  rw [decide_eq_true rfl]
  exact iteF h
theorem same_int {x y : Int} {A B : Prop} (e : x = y) (h : B) : if (!decide (V.int x = V.int y)) = true then A else B := by
  subst e
  exact same_ne h
theorem same_bl {x y : Bool} {A B : Prop} (e : x = y) (h : B) : if (!decide (V.bl x = V.bl y)) = true then A else B := by
  subst e
  exact same_ne h
theorem if_dec {p : Prop} [Decidable p] {A B : Prop} (h1 : p → A) (h2 : ¬ p → B) : if decide p = true then A else B := by
  by_cases z : p
  · rw [decide_eq_true z]
    exact iteT (h1 z)
  · rw [decide_eq_false z]
    exact iteF (h2 z)
theorem two_ways {x y : Int} {ta tb : TE} {σ : L2.St} {H : Hp} {Q : VK} (S : V → Hp → Prop) (ha : x = y → ∀ Q' : VK, (∀ v H', S v H' → Q' v H') → ta σ H Q')
    (hb : x ≠ y → ∀ Q' : VK, (∀ v H', S v H' → Q' v H') → tb σ H Q') (hQ : ∀ v H', S v H' → Q v H') : if decide (V.int x = V.int y) = true then ta σ H Q else tb σ H Q :=
  if_eq (fun z => ha z Q hQ) (fun z => hb z Q hQ)
theorem sm_fallen (n : Nat) (as bs : List Int) : ∀ (k : Int), 0 ≤ k → k + (as.length : Int) ≤ 10000 → Sm (fallenL k as bs) := by
  induction as generalizing bs with
  | nil =>
    intro k _ _
    cases bs <;> exact fun n hn => by cases hn
  | cons a as ih =>
    intro k hk hl
    cases bs with
    | nil => exact fun n hn => by cases hn
    | cons b bs =>
      have r := ih bs (k + 1) (by omega) (by simp at hl; omega)
      rw [fallenL]
      split
      · intro n hn
        cases hn with
        | head => simp at hl; omega
        | tail _ hn => exact r n hn
      · exact r
theorem zip8 {f : Int → Int → Int} {a0 a1 a2 a3 a4 a5 a6 a7 b0 b1 b2 b3 b4 b5 b6 b7 : Int} : List.zipWith f [a7, a6, a5, a4, a3, a2, a1, a0] [b7, b6, b5, b4, b3, b2, b1, b0] = [f a7 b7, f a6 b6, f a5 b5, f a4 b4, f a3 b3, f a2 b2, f a1 b1, f a0 b0] := rfl
theorem xor_bits {x y : Int} (hx : 0 ≤ x ∧ x ≤ 255) (hy : 0 ≤ y ∧ y ≤ 255) : bitsOf (Builtin.bitXor x y) = List.zipWith (fun a b => if a = b then 0 else 1) (bitsOf x) (bitsOf y) := by
  obtain ⟨a, rfl⟩ := nat_of hx.1
  obtain ⟨b, rfl⟩ := nat_of hy.1
  rw [Bits.bitXor_pp hx.1 hy.1, Int.toNat_natCast, Int.toNat_natCast, bitsOf_tb, bitsOf_tb, bitsOf_tb, zip8]
  simp only [tb_xor]
theorem and_bits {x y : Int} (hx : 0 ≤ x ∧ x ≤ 255) (hy : 0 ≤ y ∧ y ≤ 255) : bitsOf (Builtin.bitAnd x y) = List.zipWith (fun a b => if a = 1 ∧ b = 1 then 1 else 0) (bitsOf x) (bitsOf y) := by
  obtain ⟨a, rfl⟩ := nat_of hx.1
  obtain ⟨b, rfl⟩ := nat_of hy.1
  rw [bitAnd_pp hx.1 hy.1, Int.toNat_natCast, Int.toNat_natCast, bitsOf_tb, bitsOf_tb, bitsOf_tb, zip8]
  simp only [tb_and]
theorem xor_range {x y : Int} (hx : 0 ≤ x ∧ x ≤ 255) (hy : 0 ≤ y ∧ y ≤ 255) : 0 ≤ Builtin.bitXor x y ∧ Builtin.bitXor x y ≤ 255 := by
  rw [Bits.bitXor_pp hx.1 hy.1]
  have h := xor_oct (a := x.toNat) (b := y.toNat) (by omega) (by omega)
  omega
/-- what falls, octet by octet -/
def fallO (x y : Int) : Int := Builtin.bitAnd x (Builtin.bitXor x y)
def riseO (x y : Int) : Int := Builtin.bitAnd y (Builtin.bitXor x y)
theorem fallO_range {x y : Int} (hx : 0 ≤ x ∧ x ≤ 255) (hy : 0 ≤ y ∧ y ≤ 255) : 0 ≤ fallO x y ∧ fallO x y ≤ 255 := (oct_and hx (xor_range hx hy)).1
theorem riseO_range {x y : Int} (hx : 0 ≤ x ∧ x ≤ 255) (hy : 0 ≤ y ∧ y ≤ 255) : 0 ≤ riseO x y ∧ riseO x y ≤ 255 := (oct_and hy (xor_range hx hy)).1
theorem zw_self {f g : Int → Int → Int} (h : ∀ a b : Int, f a (g a b) = (fun a b => f a (g a b)) a b) : ∀ as bs : List Int, List.zipWith f as (List.zipWith g as bs) = List.zipWith (fun a b => f a (g a b)) as bs
  | [], _ => by simp
  | _ :: _, [] => by simp
  | a :: as, b :: bs => by simp [zw_self h as bs]
theorem zw_other {f g : Int → Int → Int} : ∀ as bs : List Int, List.zipWith f bs (List.zipWith g as bs) = List.zipWith (fun a b => f b (g a b)) as bs
  | [], _ => by simp
  | _ :: _, [] => by simp
  | a :: as, b :: bs => by simp [zw_other as bs]
theorem ones_fall {xs ys : List Int} (ox : Oct xs) (oy : Oct ys) (hl : xs.length = ys.length) : onesL 0 (bitsL (both fallO xs ys)) = fallenL 0 (bitsL xs) (bitsL ys) := by
  have e : bitsL (both fallO xs ys) = List.zipWith (fun a b => if a = 1 ∧ (if a = b then (0 : Int) else 1) = 1 then (1 : Int) else 0) (bitsL xs) (bitsL ys) := by
    refine bitsL_both (fun x y hx hy => ?_) xs ys ox oy
    unfold fallO
    rw [and_bits hx (xor_range hx hy), xor_bits hx hy, zw_self fun _ _ => rfl]
  rw [e]
  refine ones_of (fun as bs k => fallenL k as bs) (fun a b => a = 1 ∧ b = 0) (fun _ => by simp [fallenL]) (fun a as b bs k => by rw [fallenL]) ?_ _ _ 0 (by rw [bitsL_len, bitsL_len, hl]) (bitsL_bit xs) (bitsL_bit ys)
  intro a b ha hb
  rcases ha with rfl | rfl <;> rcases hb with rfl | rfl <;> decide
theorem fallen_swap : ∀ (as bs : List Int) (k : Int) , fallenL k bs as = (fun (as bs : List Int) (k : Int) => fallenL k bs as) as bs k := fun _ _ _ => rfl
theorem ones_rise {xs ys : List Int} (ox : Oct xs) (oy : Oct ys) (hl : xs.length = ys.length) : onesL 0 (bitsL (both riseO xs ys)) = fallenL 0 (bitsL ys) (bitsL xs) := by
  have e : bitsL (both riseO xs ys) = List.zipWith (fun a b => if b = 1 ∧ (if a = b then (0 : Int) else 1) = 1 then (1 : Int) else 0) (bitsL xs) (bitsL ys) := by
    refine bitsL_both (fun x y hx hy => ?_) xs ys ox oy
    unfold riseO
    rw [and_bits hy (xor_range hx hy), xor_bits hx hy, zw_other]
  rw [e]
  refine ones_of (fun as bs k => fallenL k bs as) (fun a b => b = 1 ∧ a = 0) (fun _ => by simp [fallenL]) (fun a as b bs k => by rw [fallenL]) ?_ _ _ 0 (by rw [bitsL_len, bitsL_len, hl]) (bitsL_bit xs) (bitsL_bit ys)
  intro a b ha hb
  rcases ha with rfl | rfl <;> rcases hb with rfl | rfl <;> decide
theorem ones_diff {xs ys : List Int} (ox : Oct xs) (oy : Oct ys) (hl : xs.length = ys.length) : onesL 0 (bitsL (both Builtin.bitXor xs ys)) = diffL 0 (bitsL xs) (bitsL ys) := by
  have e : bitsL (both Builtin.bitXor xs ys) = List.zipWith (fun a b => if a = b then (0 : Int) else 1) (bitsL xs) (bitsL ys) :=
    bitsL_both (fun x y hx hy => xor_bits hx hy) xs ys ox oy
  rw [e]
  refine ones_of (fun as bs k => diffL k as bs) (fun a b => ¬ a = b) (fun _ => by simp [diffL]) (fun a as b bs k => ?_) ?_ _ _ 0 (by rw [bitsL_len, bitsL_len, hl]) (bitsL_bit xs) (bitsL_bit ys)
  · rw [diffL]
    by_cases z : a = b <;> simp [z]
  · intro a b ha hb
    rcases ha with rfl | rfl <;> rcases hb with rfl | rfl <;> decide
/-- the zeros of an octet -/
def zO (n : Nat) : Int := 8 - (([n / 128 % 2, n / 64 % 2, n / 32 % 2, n / 16 % 2, n / 8 % 2, n / 4 % 2, n / 2 % 2, n / 1 % 2].count 1 : Nat) : Int)
theorem zO_eq : ∀ n : Nat, n < 256 → zO n = (((bitsOf (n : Int)).count 0 : Nat) : Int) := by decide +kernel
theorem zO_sum : ∀ os : List Int, Oct os → (os.map fun o => zO o.toNat).sum = zc (bitsL os)
  | [], _ => rfl
  | o :: os, h => by
    have r := zO_sum os fun x hx => h x (List.mem_cons_of_mem _ hx)
    have ho := h o (List.mem_cons_self ..)
    obtain ⟨n, rfl⟩ := nat_of ho.1
    rw [List.map_cons, List.sum_cons, r, Int.toNat_natCast, zO_eq n (by omega), bitsL_cons]
    unfold zc
    rw [List.count_append]
    omega
theorem ty_int (K : PySem.W.Frag) (H : Hp) (i : Int) : TyX K H (.int i) (.type "int") := .base (.int i)
theorem bitAnd_nn (a b : Nat) : Builtin.bitAnd (a : Int) (b : Int) = ((a &&& b : Nat) : Int) := by
  rw [bitAnd_pp (by omega) (by omega)]
  rfl
theorem worth_nat (j : Nat) : (128 : Int) / 2 ^ j = ((128 / 2 ^ j : Nat) : Int) := by
  simp
/-- at bit n of octets -/
theorem at_bit {xs : List Int} {n : Nat} (ox : Oct xs) (h : n < 8 * xs.length) : ∃ o : Nat, o < 256 ∧ xs[n / 8]? = some (o : Int) ∧ (bitsL xs)[n]? = (bitsOf (o : Int))[n % 8]? := by
  obtain ⟨x, hx⟩ := get_lt (l := xs) (i := n / 8) (by omega)
  have hm := ox x (List.mem_of_getElem? hx)
  obtain ⟨o, rfl⟩ := nat_of hm.1
  refine ⟨o, by omega, hx, ?_⟩
  have e := bitsL_get xs (n / 8) (n % 8) (by omega)
  rw [hx] at e
  have e2 : 8 * (n / 8) + n % 8 = n := by omega
  rw [e2] at e
  exact e
theorem both_at {g : Int → Int → Int} {xs ys : List Int} {i : Nat} {x y u : V} (hx : (IV xs)[i]? = some x) (hy : (IV ys)[i]? = some y) (hu : (IV (both g xs ys))[i]? = some u) : ∃ m n : Int, x = .int m ∧ y = .int n ∧ u = .int (g m n) := by
  obtain ⟨m, hm, rfl⟩ := iv_get hx
  obtain ⟨n, hn, rfl⟩ := iv_get hy
  obtain ⟨k, hk, rfl⟩ := iv_get hu
  obtain ⟨m', n', hm', hn', rfl⟩ := both_get hk
  rw [hm] at hm'
  rw [hn] at hn'
  cases hm'
  cases hn'
  exact ⟨_, _, rfl, rfl, rfl⟩
theorem bitXor_nn (a b : Nat) : Builtin.bitXor (a : Int) (b : Int) = ((a ^^^ b : Nat) : Int) := by
  rw [Bits.bitXor_pp (by omega) (by omega)]
  rfl
/-- one unlike bit on -/
theorem one_turn {os done as' bs' U : List Int} {m : Int} {i : Nat} {p : Int} {rest : List Int} (ho : Oct os) (hb : bitsL os = done ++ as') (bb : Bit bs') (hl : as'.length = bs'.length) (hu : diffL (done.length : Int) as' bs' = p :: rest) :
    ∃ (n o : Nat) (x y : Int) (pre as2 bs2 : List Int), p = (n : Int) ∧ o < 256 ∧ os[n / 8]? = some (o : Int) ∧ n / 8 < os.length ∧ as'.length = pre.length + 1 + as2.length ∧ as2.length = bs2.length ∧ Bit bs2 ∧
      (∀ m, turned as' bs' m = pre ++ (if m % 2 = 1 then y else x) :: turned as2 bs2 (m / 2)) ∧ rest = diffL ((done.length + pre.length + 1 : Nat) : Int) as2 bs2 ∧ bitsL os = (done ++ pre ++ [x]) ++ as2 ∧
      Oct (os.set (n / 8) ((o ^^^ (128 / 2 ^ (n % 8)) : Nat) : Int)) ∧ bitsL (os.set (n / 8) ((o ^^^ (128 / 2 ^ (n % 8)) : Nat) : Int)) = (done ++ pre ++ [y]) ++ as2 := by
  obtain ⟨pre, x, y, as2, bs2, h1, h2, h3, h4, h5, h6, h7⟩ := diff_at as' bs' _ p rest hl hu
  have lb := bitsL_len os
  have hn : done.length + pre.length < 8 * os.length := by
    rw [← lb, hb, h1]
    simp
  obtain ⟨o, o1, o2, o3⟩ := at_bit ho hn
  have bx : (bitsL os)[done.length + pre.length]? = some x := by
    rw [hb, h1, List.getElem?_append_right (by omega), Nat.add_sub_cancel_left, List.getElem?_append_right (by omega)]
    simp
  have bx2 : (bitsOf (o : Int))[(done.length + pre.length) % 8]? = some x := by rw [← o3]; exact bx
  have hx : x = 0 ∨ x = 1 := bitsL_bit os x (List.mem_of_getElem? bx)
  have hy : y = 0 ∨ y = 1 := bb y (by rw [h2]; simp)
  have yx : y = 1 - x := by omega
  obtain ⟨t1, t2⟩ := bit_turn o o1 ((done.length + pre.length) % 8) (by omega)
  have gd : (bitsOf (o : Int)).getD ((done.length + pre.length) % 8) 0 = x := by rw [List.getD_eq_getElem?_getD, bx2]; rfl
  rw [gd, ← yx] at t2
  have st := bitsL_set os ((done.length + pre.length) / 8) ((done.length + pre.length) % 8) _ _ _ (by omega) o2 t2
  have e8 : 8 * ((done.length + pre.length) / 8) + (done.length + pre.length) % 8 = done.length + pre.length := by omega
  rw [e8] at st
  refine ⟨done.length + pre.length, o, x, y, pre, as2, bs2, by rw [h4]; simp, o1, o2, by omega, by rw [h1]; simp; omega, h6, fun b hbm => bb b (by rw [h2]; simp [hbm]), h7, by rw [h5, h4]; congr 1, ?_, ?_, ?_⟩
  · rw [hb, h1]
    simp
  · intro z hz
    rcases List.mem_or_eq_of_mem_set hz with z1 | z1
    · exact ho z z1
    · omega
  · rw [st, hb, h1, List.append_assoc, List.append_assoc, List.set_append_right _ _ (by omega), Nat.add_sub_cancel_left]
    congr 1
    rw [List.set_append_right _ _ (Nat.le_refl _), Nat.sub_self]
    rfl
theorem Sv.tupOf {H : Hp} {a : Addr} {xs : List V} {t : Bool} {Q : VK} (S : Sv t K H a xs) (q : ∀ p H', Evl.Ex H H' → SqT K H' p xs → Q (.ref p) H') : rTupI K [.ref a] H Q := by
  unfold rTupI
  cases t with
  | false => exact ⟨a, xs, rfl, .inl ⟨S, fun l hl => q l _ (Evl.Ex.new hl) (SqT.of upd_same)⟩⟩
  | true => exact ⟨a, xs, rfl, .inr ⟨S, q a H (Evl.Ex.refl _) S⟩⟩
theorem Sv.listOf {H : Hp} {a : Addr} {xs : List V} {t : Bool} {Q : VK} (S : Sv t K H a xs) (q : ∀ p, H p = none → Q (.ref p) (upd H p (.lst xs))) : rListI K [.ref a] H Q := by
  unfold rListI
  exact ⟨a, xs, rfl, S.either, q⟩
theorem test_false {c : TT} {t u : TS} {D : Ends} {σ : L2.St} {H : Hp} (hc : ∀ Q' : Bool → Hp → Prop, (∀ H1, Evl.Ex H H1 → Q' false H1) → c σ H Q') (hu : ∀ H1, Evl.Ex H H1 → u D σ H1) : tIfI c t u D σ H := by
  unfold tIfI
  exact hc _ fun H1 e => iteF (hu H1 e)
theorem mem3 {w p q r : Int} {A B : Prop} (h1 : (w = p ∨ w = q ∨ w = r) → A) (h2 : B) : if (if false = true then !inV (V.int w) [.int p, .int q, .int r] else inV (V.int w) [.int p, .int q, .int r]) = true then A else B := by
  have e : (if false = true then !inV (V.int w) [.int p, .int q, .int r] else inV (V.int w) [.int p, .int q, .int r]) = decide (w = p ∨ w = q ∨ w = r) := by
    simp [inV, eqV, Bool.beq_eq_decide_eq, eq_comm]
  rw [e]
  exact if_dec h1 fun _ => h2
theorem in3 (w p q r : Int) : inV (.int w) [.int p, .int q, .int r] = decide (w = p ∨ w = q ∨ w = r) := by
  simp [inV, eqV, Bool.beq_eq_decide_eq, eq_comm]
abbrev tn (xs ys : List Int) (m : Int) : List Int := octetsL (turned (bitsL xs) (bitsL ys) m)
theorem tn_spec {xs ys : List Int} (m : Int) (hl : xs.length = ys.length) : bitsL (tn xs ys m) = turned (bitsL xs) (bitsL ys) m ∧ Oct (tn xs ys m) ∧ (tn xs ys m).length = xs.length := by
  have lx := bitsL_len xs
  have ly := bitsL_len ys
  have l := turned_len (bitsL xs) (bitsL ys) m (by omega)
  exact octetsL_spec (by omega) (turned_bit _ _ m (bitsL_bit xs) (bitsL_bit ys))
theorem sm_oct {xs : List Int} (h : Oct xs) : Sm xs := fun n hn => by
  have := h n hn
  omega
theorem ex_b {a : Addr} {H0 H H' : Hp} (e : Evl.Ex H0 H) (h : H0 a = none) (x : Exb a H H') : Evl.Ex H0 H' := fun b o q => x b o (fun z => by rw [z, h] at q; cases q) (e b o q)
theorem same_eq {x : V} {A B : Prop} (h : A) : if decide (x = x) = true then A else B := by
  rw [decide_eq_true rfl]
  exact iteT h
theorem ones_ok {k : Nat} (h : k ≤ 4096) : 0 ≤ (2 : Int) ^ k - 1 ∧ (2 : Int) ^ k - 1 < MM := by
  have p := pow_nn k
  have q : (2 : Int) ^ k ≤ MM := pow_mono h
  omega
theorem same_v {x y : V} {A B : Prop} (e : x = y) (h : B) : if (!decide (x = y)) = true then A else B := by
  subst e
  exact same_ne h
theorem bits_rep (o b : Int) (h : bitsOf o = List.replicate 8 b) : ∀ c : Nat, bitsL (List.replicate c o) = List.replicate (8 * c) b
  | 0 => rfl
  | c + 1 => by
    rw [List.replicate_succ, bitsL_cons, bits_rep o b h c, h, List.replicate_append_replicate]
    congr 1
    omega
theorem bits_ones (c : Nat) : bitsL (List.replicate c 255) = List.replicate (8 * c) 1 := bits_rep 255 1 (by decide) c
theorem bits_none (c : Nat) : bitsL (List.replicate c 0) = List.replicate (8 * c) 0 := bits_rep 0 0 (by decide) c
theorem oct_0 (c : Nat) : Oct (List.replicate c 0) := fun o h => by rw [List.eq_of_mem_replicate h]; omega
theorem zc_ones (n : Nat) : zc (List.replicate n 1) = 0 := by
  unfold zc
  rw [List.count_replicate]
  rfl
theorem zc_none (n : Nat) : zc (List.replicate n 0) = n := by
  unfold zc
  rw [List.count_replicate_self]
theorem le_rep : ∀ n : Nat, Le (List.replicate n 0) (List.replicate n 1)
  | 0 => Le.refl _
  | n + 1 => by
    rw [List.replicate_succ, List.replicate_succ]
    have := le_rep n
    simp [Le, this]
theorem fallen_rep : ∀ (n : Nat) (k : Int), fallenL k (List.replicate n 1) (List.replicate n 0) = (List.range n).map fun (i : Nat) => k + (i : Int)
  | 0, k => rfl
  | n + 1, k => by
    rw [List.replicate_succ, List.replicate_succ, fallenL, if_pos ⟨rfl, rfl⟩, fallen_rep n (k + 1), List.range_succ_eq_map, List.map_cons, List.map_map]
    congr 1
    · simp
    · apply List.map_congr_left
      intro i _
      simp
      omega
theorem due_long {c n : Nat} {dd : List Int} (hn : n = 512) (h : n ≤ c) (hd : dd = List.replicate n 0 ++ List.replicate (c - n) 255) : octetsL (turned (bitsL (List.replicate c 255)) (bitsL (List.replicate c 0)) (2 ^ 4096 - 1)) = dd := by
  subst hd
  have n8 : 4096 = 8 * n := by omega
  rw [n8]
  clear n8 hn
  have e : 8 * c = 8 * n + 8 * (c - n) := by omega
  rw [bits_ones, bits_none, e, turned_first]
  have e2 : List.replicate (8 * n) (0 : Int) ++ List.replicate (8 * (c - n)) 1 = bitsL (List.replicate n 0 ++ List.replicate (c - n) 255) := by
    rw [bitsL_append, bits_none, bits_ones]
  rw [e2, octetsL_bitsL]
  intro o ho
  rcases List.mem_append.mp ho with z | z
  · exact oct_0 _ o z
  · exact oct_255 _ o z
theorem rep_flat (k : Nat) (o : Int) : (List.replicate k [V.int o]).flatten = IV (List.replicate k o) := by
  rw [iv_rep]
  simp
/-- (o,) * k -/
theorem mulT1 {H : Hp} {t : Addr} {k o : Int} {Q : VK} (S : SqT K H t [V.int o]) (h1 : 1 ≤ k) (h2 : k ≤ 1000) (q : ∀ (n : Nat) p H', (n : Int) = k → Evl.Ex H H' → SqT K H' p (IV (List.replicate n o)) → Q (.ref p) H') : rMulU1 K (.ref t) (.int k) H Q := by
  unfold rMulU1
  by_cases e : k = 1
  · subst e
    exact .inr ⟨t, _, rfl, rfl, S, q 1 t H rfl (Evl.Ex.refl _) S⟩
  · refine .inl (.inr (.inr ⟨t, k, _, rfl, rfl, S, by simp, by omega, h2, by simp, fun p hp => q k.toNat p _ (by omega) (Evl.Ex.new hp) ?_⟩))
    rw [rep_flat]
    exact SqT.of upd_same
theorem mulL1 {H : Hp} {t : Addr} {k o : Int} {Q : VK} (S : H t = some (.lst [V.int o])) (h1 : 1 ≤ k) (h2 : k ≤ 1000) (q : ∀ (n : Nat) p H', (n : Int) = k → H p = none → Evl.Ex H H' → H' p = some (.lst (IV (List.replicate n o))) → Q (.ref p) H') : rMulU1 K (.ref t) (.int k) H Q := by
  unfold rMulU1
  refine .inl (.inr (.inl ⟨t, _, _, rfl, rfl, S, by omega, by omega, ?_, fun p hp => q k.toNat p _ (by omega) hp (Evl.Ex.new hp) ?_⟩))
  · exact Evl.sz_of (by simp; omega)
  · rw [upd_same, rep_flat]
theorem mulI1 {H : Hp} {i j : Int} {Q : VK} (c : CMulX i j) (q : Q (.int (i * j)) H) : rMulU1 K (.int i) (.int j) H Q := by
  unfold rMulU1
  exact .inl (.inl ⟨i, j, rfl, rfl, c, q⟩)
theorem rg_iv (n : Nat) : rgV 0 (n : Int) = IV ((List.range n).map fun (i : Nat) => (0 : Int) + (i : Int)) := by
  have e : ((n : Int) - 0).toNat = n := by omega
  have e2 : ∀ l : List Int, IV l = l.map V.int := fun _ => rfl
  unfold rgV
  rw [e, e2, List.map_map]
  rfl
end
end VB
namespace K07
open PySem PySem.Spec PyProof.Rows L2 VB
def top (i : Nat) : Stmt := PySem.Challenge.pw_onewaybits_k07_pages_told.main.body.getD i (.Pass ⟨0, 0, 0, 0⟩)
def mtop (i j : Nat) : Stmt := match top i with | .ClassDef _ _ _ b _ _ _ _ _ _ _ => b.getD j (.Pass ⟨0, 0, 0, 0⟩) | _ => .Pass ⟨0, 0, 0, 0⟩
abbrev s_is_list : Stmt := top 7
theorem sc_is_list : FnScope ["value"] ["value"] (defScope s_is_list) := ⟨rfl, rfl, rfl, by decide +kernel, rfl, by decide +kernel, by decide +kernel⟩
abbrev s_is_octets : Stmt := top 8
theorem sc_is_octets : FnScope ["value", "octet"] ["value"] (defScope s_is_octets) := ⟨rfl, rfl, rfl, by decide +kernel, rfl, by decide +kernel, by decide +kernel⟩
abbrev s_is_octets_of : Stmt := top 9
theorem sc_is_octets_of : FnScope ["value", "count"] ["value", "count"] (defScope s_is_octets_of) := ⟨rfl, rfl, rfl, by decide +kernel, rfl, by decide +kernel, by decide +kernel⟩
abbrev s_zero_bits : Stmt := top 12
theorem sc_zero_bits : FnScope ["octets", "octet"] ["octets"] (defScope s_zero_bits) := ⟨rfl, rfl, rfl, by decide +kernel, rfl, by decide +kernel, by decide +kernel⟩
abbrev s_sealed : Stmt := top 15
theorem sc_sealed : FnScope ["data"] ["data"] (defScope s_sealed) := ⟨rfl, rfl, rfl, by decide +kernel, rfl, by decide +kernel, by decide +kernel⟩
abbrev s_is_clean : Stmt := top 16
theorem sc_is_clean : FnScope ["value"] ["value"] (defScope s_is_clean) := ⟨rfl, rfl, rfl, by decide +kernel, rfl, by decide +kernel, by decide +kernel⟩
abbrev s_is_whole : Stmt := top 17
theorem sc_is_whole : FnScope ["value"] ["value"] (defScope s_is_whole) := ⟨rfl, rfl, rfl, by decide +kernel, rfl, by decide +kernel, by decide +kernel⟩
abbrev s_is_torn : Stmt := top 18
theorem sc_is_torn : FnScope ["value"] ["value"] (defScope s_is_torn) := ⟨rfl, rfl, rfl, by decide +kernel, rfl, by decide +kernel, by decide +kernel⟩
abbrev s_data_of : Stmt := top 19
theorem sc_data_of : FnScope ["octets"] ["octets"] (defScope s_data_of) := ⟨rfl, rfl, rfl, by decide +kernel, rfl, by decide +kernel, by decide +kernel⟩
abbrev s_data_told_by : Stmt := top 20
theorem sc_data_told_by : FnScope ["page", "data", "check"] ["page"] (defScope s_data_told_by) := ⟨rfl, rfl, rfl, by decide +kernel, rfl, by decide +kernel, by decide +kernel⟩
abbrev s_surplus : Stmt := top 21
theorem sc_surplus : FnScope ["octets"] ["octets"] (defScope s_surplus) := ⟨rfl, rfl, rfl, by decide +kernel, rfl, by decide +kernel, by decide +kernel⟩
abbrev s__is_page : Stmt := top 22
theorem sc__is_page : FnScope ["value"] ["value"] (defScope s__is_page) := ⟨rfl, rfl, rfl, by decide +kernel, rfl, by decide +kernel, by decide +kernel⟩
abbrev s__law_cell : Stmt := top 24
theorem sc__law_cell : FnScope ["_law_script", "_law_k"] ["_law_script", "_law_k"] (defScope s__law_cell) := ⟨rfl, rfl, rfl, by decide +kernel, rfl, by decide +kernel, by decide +kernel⟩
abbrev s__law_box : Stmt := top 25
theorem sc__law_box : FnScope ["_law_great"] ["_law_great"] (defScope s__law_box) := ⟨rfl, rfl, rfl, by decide +kernel, rfl, by decide +kernel, by decide +kernel⟩
abbrev s__law_take : Stmt := top 26
theorem sc__law_take : FnScope ["_law_box_here", "_law_many", "_law_digit", "_law_mixed"] ["_law_box_here", "_law_many"] (defScope s__law_take) := ⟨rfl, rfl, rfl, by decide +kernel, rfl, by decide +kernel, by decide +kernel⟩
abbrev s__law_zeros : Stmt := top 27
theorem sc__law_zeros : FnScope ["_law_octets", "_law_found", "_law_octet", "_law_worth"] ["_law_octets"] (defScope s__law_zeros) := ⟨rfl, rfl, rfl, by decide +kernel, rfl, by decide +kernel, by decide +kernel⟩
abbrev s__law_turned : Stmt := top 28
theorem sc__law_turned : FnScope ["_law_page", "_law_bit", "_law_found", "_law_worth", "_law_octet"] ["_law_page", "_law_bit"] (defScope s__law_turned) := ⟨rfl, rfl, rfl, by decide +kernel, rfl, by decide +kernel, by decide +kernel⟩
abbrev s__law_drawn : Stmt := top 29
theorem sc__law_drawn : FnScope ["_law_box_here", "_law_count", "_law_k"] ["_law_box_here", "_law_count"] (defScope s__law_drawn) := ⟨rfl, rfl, rfl, by decide +kernel, rfl, by decide +kernel, by decide +kernel⟩
abbrev s__law_data : Stmt := top 30
theorem sc__law_data : FnScope ["_law_box_here", "_law_way", "_law_found", "_law_k"] ["_law_box_here"] (defScope s__law_data) := ⟨rfl, rfl, rfl, by decide +kernel, rfl, by decide +kernel, by decide +kernel⟩
abbrev s__law_fitting : Stmt := top 31
theorem sc__law_fitting : FnScope ["_law_data_here"] ["_law_data_here"] (defScope s__law_fitting) := ⟨rfl, rfl, rfl, by decide +kernel, rfl, by decide +kernel, by decide +kernel⟩
abbrev s__law_many_turned : Stmt := top 32
theorem sc__law_many_turned : FnScope ["_law_box_here", "_law_page", "_law_most", "_law_found", "_law_k"] ["_law_box_here", "_law_page", "_law_most"] (defScope s__law_many_turned) := ⟨rfl, rfl, rfl, by decide +kernel, rfl, by decide +kernel, by decide +kernel⟩
abbrev s__law_pages : Stmt := top 33
theorem sc__law_pages : FnScope ["_law_box_here", "_law_data_here", "_law_page", "_law_check", "_law_found", "_law_start"] ["_law_box_here", "_law_data_here"] (defScope s__law_pages) := ⟨rfl, rfl, rfl, by decide +kernel, rfl, by decide +kernel, by decide +kernel⟩
abbrev s__law_due : Stmt := top 34
theorem sc__law_due : FnScope ["_law_page", "_law_over", "_law_plain"] ["_law_page"] (defScope s__law_due) := ⟨rfl, rfl, rfl, by decide +kernel, rfl, by decide +kernel, by decide +kernel⟩
abbrev s__law_told : Stmt := top 35
theorem sc__law_told : FnScope ["_law_page", "_law_turn", "_law_told_here"] ["_law_page", "_law_turn"] (defScope s__law_told) := ⟨rfl, rfl, rfl, by decide +kernel, rfl, by decide +kernel, by decide +kernel⟩
abbrev s__law_page_right : Stmt := top 36
theorem sc__law_page_right : FnScope ["_law_page", "_law_turn", "_law_kept"] ["_law_page", "_law_turn"] (defScope s__law_page_right) := ⟨rfl, rfl, rfl, by decide +kernel, rfl, by decide +kernel, by decide +kernel⟩
abbrev s__law_seal_right : Stmt := top 37
theorem sc__law_seal_right : FnScope ["_law_box_here", "_law_data_here", "_law_handed", "_law_kept", "_law_due_here", "_law_told_here"] ["_law_box_here", "_law_data_here"] (defScope s__law_seal_right) := ⟨rfl, rfl, rfl, by decide +kernel, rfl, by decide +kernel, by decide +kernel⟩
abbrev s__law_again_right : Stmt := top 38
theorem sc__law_again_right : FnScope ["_law_box_here", "_law_pages_here", "_law_handed", "_law_at", "_law_page"] ["_law_box_here", "_law_pages_here"] (defScope s__law_again_right) := ⟨rfl, rfl, rfl, by decide +kernel, rfl, by decide +kernel, by decide +kernel⟩
abbrev s__law_right : Stmt := top 39
theorem sc__law_right : FnScope ["_law_box_here", "_law_data_here", "_law_pages_here", "_law_page"] ["_law_box_here"] (defScope s__law_right) := ⟨rfl, rfl, rfl, by decide +kernel, rfl, by decide +kernel, by decide +kernel⟩
abbrev s_law : Stmt := top 40
theorem sc_law : FnScope ["_law_script", "_law_k"] ["_law_script"] (defScope s_law) := ⟨rfl, rfl, rfl, by decide +kernel, rfl, by decide +kernel, by decide +kernel⟩
abbrev FnP (K : PySem.W.Frag) (x : Str) (st : Stmt) (f : Addr) (fd : FuncData) : Prop := FunD K x x (defArgs st) (defBody st) (defScope st) [] [] f fd
abbrev FnM (K : PySem.W.Frag) (m q : Str) (st : Stmt) (f : Addr) (fd : FuncData) : Prop := FunD K m q (defArgs st) (defBody st) (defScope st) [] [] f fd
structure Txt (K : PySem.W.Frag) (mg : Str → Option Value) : Prop where
  f_abs : mg "abs" = none
  f_all : mg "all" = none
  f_bool : mg "bool" = none
  f_int : mg "int" = none
  f_isinstance : mg "isinstance" = none
  f_len : mg "len" = none
  f_list : mg "list" = none
  f_max : mg "max" = none
  f_min : mg "min" = none
  f_range : mg "range" = none
  f_repr : mg "repr" = none
  f_reversed : mg "reversed" = none
  f_sum : mg "sum" = none
  f_tuple : mg "tuple" = none
  g_DATA_OCTETS : ∃ t, mg "DATA_OCTETS" = some (.int 30 t)
  g_MOST_ZEROS : ∃ t, mg "MOST_ZEROS" = some (.int 240 t)
  g_PAGE_OCTETS : ∃ t, mg "PAGE_OCTETS" = some (.int 31 t)
  t_ZEROS_OF_HALF : ∀ H : Hp, SqT K H (He.ga K "ZEROS_OF_HALF") (List.map V.int [4, 3, 3, 2, 3, 2, 2, 1, 3, 2, 2, 1, 2, 1, 1, 0])
  g_ZEROS_OF_HALF : mg "ZEROS_OF_HALF" = some (.ref (He.ga K "ZEROS_OF_HALF"))
end K07
namespace K07
open PySem PySem.Spec PyProof.Rows L2 VB BM
section
variable {P : Program} {w : World} {K : PySem.W.Frag} {mg : Str → Option Value} {base : Heap} {f : Addr} {fd : FuncData}
def spTake : Sp := fun vs H Q _ => ∃ (a : Addr) (many n : Int), vs = [.ref a, .int many] ∧ Box H a n ∧ 0 < many ∧ many < 1000000 ∧ n < 100000000 ∧
  ∀ (r : Int) (H' : Hp), 0 ≤ r → r < many → Exb a H H' → Box H' a (n + 1) → Q (.int r) H'
theorem ok_take (T : Txt K mg) (F : FnP K "_law_take" s__law_take f fd) : Fg P w K mg base CX0 1 f fd ["_law_box_here", "_law_many"] spTake := by
  refine fg_of F sc__law_take (fun vs H Q E h => ?_) (fun cdv A outer s H vs Q E hr h => ⟨_, (PSs.nox (pss_cons (ps_if (PW.pt (pw_and (pt_tru (K := K) (pe_ix (u_ix (K := K)) (pv 0) pe_int (fun _ _ => rfl)) (by intro _; rfl)) (pw_and1 (pt_cmpR op_gt (pe_ix (u_ix (K := K)) (pv 0) pe_int (fun _ _ => rfl)) pe_int (nomark _)))))
  (pss_cons (ps_set (i := 2) sc__law_take.nd rfl (by first | exact Or.inl rfl | exact Or.inr rfl) (pe_op u_mod (pe_callTy call_int1 (by rfl) T.f_int (by decide +kernel) (pa_cons (pe_ix (u_ix (K := K)) (pv 0) pe_int (fun _ _ => rfl)) pa_nil)) (pv 1)))
  (pss_cons (ps_asg (pe_op u_fdiv (pe_ix (u_ix (K := K)) (pv 0) pe_int (fun _ _ => rfl)) (pv 1)) (pg_sub (pv 0) pe_int set_list))
  (pss_one (ps_ret (pv 2))))) pss_nil)
  (pss_cons (ps_asg (pe_op (u_add (K := K)) (pe_ix (u_ix (K := K)) (pv 0) pe_int (fun _ _ => rfl)) pe_int) (pg_sub (pv 0) pe_int set_list))
  (pss_cons (ps_set (i := 3) sc__law_take.nd rfl (by first | exact Or.inl rfl | exact Or.inr rfl) (pe_op u_mod (pe_callTy call_int1 (by rfl) T.f_int (by decide +kernel) (pa_cons (pe_op op_pow (pe_op (u_add (K := K)) (pe_op (u_add (K := K)) (pe_ix (u_ix (K := K)) (pv 0) pe_int (fun _ _ => rfl)) (pe_op (u_mul (K := K)) pe_int (pe_ix (u_ix (K := K)) (pv 0) pe_int (fun _ _ => rfl)))) pe_int) pe_int) pa_nil)) pe_int))
  (pss_one (ps_ret (pe_op u_mod (pe_op u_fdiv (pe_op u_mod (pe_callTy call_int1 (by rfl) T.f_int (by decide +kernel) (pa_cons (pe_op op_pow (pe_op (u_add (K := K)) (pe_op (u_mul (K := K)) (pv 3) pe_int) (pe_op (u_mul (K := K)) pe_int (pe_ix (u_ix (K := K)) (pv 0) pe_int (fun _ _ => rfl)))) pe_int) pa_nil)) pe_int) pe_int) (pv 1)))))))), ?_⟩)
  · obtain ⟨a, many, n, rfl, _⟩ := h
    rfl
  · obtain ⟨a, many, n, rfl, ⟨d, m, c, b, hb, hd, hm, hm2, hc, hc2⟩, h1, h2, hn, q⟩ := h
    have S : SqL K H a [.int d, .bl b, .int m, .int c] := SqL.of hb
    -- the digits' way
    have A1 : b = true → 0 < d → Q (.int (d % many)) (upd H a (.lst [.int (d / many), .bl b, .int m, .int c])) := by
      intro _ _
      refine q _ _ (Int.emod_nonneg _ (by omega)) (Int.emod_lt_of_pos _ h1) Exb.upd ⟨d / many, m, c, b, upd_same, Int.ediv_nonneg hd (by omega), hm, hm2, hc, by omega⟩
    -- the mixed way
    have A2 : ∀ z : Int, Q (.int (z % many)) (upd H a (.lst [.int d, .bl b, .int m, .int (c + 1)])) := by
      intro z
      exact q _ _ (Int.emod_nonneg _ (by omega)) (Int.emod_lt_of_pos _ h1) Exb.upd ⟨d, m, c + 1, b, upd_same, hd, hm, hm2, by omega, by omega⟩
    have S1 : SqL K (upd H a (.lst [.int d, .bl b, .int m, .int (c + 1)])) a [.int d, .bl b, .int m, .int (c + 1)] := SqL.of upd_same
    have k1 : CMulX 15485867 (c + 1) := mulx_ok (a := 30) (b := 30) (by decide) (by show _ < 1073741824; omega) (by decide)
    have k2 : ∀ x : Int, 0 ≤ x → x < 2147483647 → CMulX x 48271 := fun x _ _ => mulx_ok (a := 32) (b := 20) (by show _ < 4294967296; omega) (by decide) (by decide)
    have k3 : CMulX 7919 (c + 1) := mulx_ok (a := 30) (b := 30) (by decide) (by show _ < 1073741824; omega) (by decide)
    have p1 : CPow (m + 15485867 * (c + 1) + 179425033) 5 := ⟨by decide, by decide, by show _ < 18446744073709551616; omega⟩
    have p2 : ∀ x : Int, 0 ≤ x → x < 2147483647 → CPow (x * 48271 + 7919 * (c + 1)) 3 := fun x _ _ => ⟨by decide, by decide, by show _ < 18446744073709551616; omega⟩
    have nz1 : (0 : Int) < 2147483647 := by decide
    have nz2 : (0 : Int) < 2147483587 := by decide
    have cd64 : (0 : Int) < 64 ∧ (64 : Int) < 1073741824 := by decide
    have hx0 : ∀ z : Int, 0 ≤ z % 2147483647 ∧ z % 2147483647 < 2147483647 := by
      intro z
      exact ⟨Int.emod_nonneg _ (by decide), Int.emod_lt_of_pos _ (by decide)⟩
    refine ⟨_, rfl, .inl ⟨a, _, 1, _, rfl, rfl, S, rfl, b, rfl, ?_⟩⟩
    by_cases hbd : b = true ∧ 0 < d
    · obtain ⟨rfl, hd0⟩ := hbd
      refine iteT ⟨_, rfl, .inl ⟨a, _, 0, _, rfl, rfl, S, rfl, _, _, rfl, rfl, _, rfl, ?_⟩⟩
      rw [decide_eq_true hd0]
      refine iteT ⟨_, rfl, .inl ⟨a, _, 0, _, rfl, rfl, S, rfl, .inl ⟨_, rfl, _, rfl, _, _, rfl, rfl, h1, ?_⟩⟩⟩
      refine ⟨_, rfl, .inl ⟨a, _, 0, _, rfl, rfl, S, rfl, _, rfl, _, _, rfl, rfl, ⟨h1, by omega⟩, _, rfl, a, _, _, _, rfl, rfl, hb, rfl, ?_⟩⟩
      exact ⟨_, rfl, A1 rfl hd0⟩
    · apply once
      · intro rest
        cases b with
        | false => exact iteF (iteF rest)
        | true =>
          refine iteT ⟨_, rfl, .inl ⟨a, _, 0, _, rfl, rfl, S, rfl, _, _, rfl, rfl, _, rfl, ?_⟩⟩
          rw [decide_eq_false (fun z => hbd ⟨rfl, z⟩)]
          exact iteF rest
      refine ⟨_, rfl, .inl ⟨a, _, 3, _, rfl, rfl, S, rfl, .inl ⟨_, _, rfl, rfl, _, rfl, a, _, _, _, rfl, rfl, hb, rfl, ?_⟩⟩⟩
      refine ⟨_, rfl, .inl ⟨a, _, 2, _, rfl, rfl, S1, rfl, ?_⟩⟩
      refine ⟨_, rfl, .inl ⟨a, _, 3, _, rfl, rfl, S1, rfl, .inl ⟨_, _, rfl, rfl, k1, .inl ⟨_, _, rfl, rfl, .inl ⟨_, _, rfl, rfl, _, _, rfl, rfl, p1, .inl ⟨_, rfl, _, _, rfl, rfl, nz1, ?_⟩⟩⟩⟩⟩⟩
      refine ⟨_, rfl, .inl ⟨_, _, rfl, rfl, k2 _ (hx0 _).1 (hx0 _).2, ?_⟩⟩
      refine ⟨_, rfl, .inl ⟨a, _, 3, _, rfl, rfl, S1, rfl, .inl ⟨_, _, rfl, rfl, k3, .inl ⟨_, _, rfl, rfl, _, _, rfl, rfl, p2 _ (hx0 _).1 (hx0 _).2, .inl ⟨_, rfl, _, _, rfl, rfl, nz2, ?_⟩⟩⟩⟩⟩
      refine ⟨_, _, rfl, rfl, cd64, _, rfl, _, _, rfl, rfl, h1, ?_⟩
      exact A2 _
/-! ### cells and boxes -/
def spBox : Sp := fun vs H Q _ => ∃ g : Int, vs = [.int g] ∧ ∀ (p : Addr) (H' : Hp), H p = none → Evl.Ex H H' → Box H' p 0 → Q (.ref p) H'
theorem ok_box (T : Txt K mg) (F : FnP K "_law_box" s__law_box f fd) : Fg P w K mg base CX0 1 f fd ["_law_great"] spBox := by
  refine fg_of F sc__law_box (fun vs H Q E h => ?_) (fun cdv A outer s H vs Q E hr h => ⟨_, (PSs.nox (pss_one (ps_ret (pe_lst (pa_cons (pe_callB call_abs (by rfl) T.f_abs (by decide +kernel) (pa_cons (pv 0) pa_nil)) (pa_cons (pe_cmpR op_ge (pe_callB call_abs (by rfl) T.f_abs (by decide +kernel) (pa_cons (pv 0) pa_nil)) (pe_op op_pow pe_int pe_int) (nomark _)) (pa_cons (pe_op u_mod (pe_callTy call_int1 (by rfl) T.f_int (by decide +kernel) (pa_cons (pe_callB call_abs (by rfl) T.f_abs (by decide +kernel) (pa_cons (pv 0) pa_nil)) pa_nil)) pe_int) (pa_cons pe_int pa_nil)))))))), ?_⟩)
  · obtain ⟨g, rfl, _⟩ := h
    rfl
  · obtain ⟨g, rfl, q⟩ := h
    have nz : (0 : Int) < 2147483629 := by decide
    have hp : CPow 10 18 := ⟨by decide, by decide, by decide⟩
    refine ⟨_, rfl, _, rfl, _, rfl, _, rfl, _, _, rfl, rfl, hp, _, _, rfl, rfl, _, rfl, _, rfl, .inl ⟨_, rfl, _, _, rfl, rfl, nz, ?_⟩⟩
    refine ⟨by show 4 ≤ sizeLine; decide, fun p hp => q p _ hp (Evl.Ex.new hp) ⟨_, _, _, _, upd_same, ?_, ?_, ?_, by omega, by omega⟩⟩
    · split <;> omega
    · exact Int.emod_nonneg _ (by decide)
    · exact Int.emod_lt_of_pos _ (by decide)
def spCell (K : PySem.W.Frag) : Sp := fun vs H Q _ => ∃ (a : Addr) (ns : List Int) (k : Int), vs = [.ref a, .int k] ∧ SqL K H a (ns.map V.int) ∧ 0 ≤ k ∧ k ≤ 100 ∧ ns.length ≤ 1000 ∧
  ∀ (g : Int) (H' : Hp), Evl.Ex H H' → Q (.int g) H'
theorem ok_cell (T : Txt K mg) (F : FnP K "_law_cell" s__law_cell f fd) : Fg P w K mg base CX0 1 f fd ["_law_script", "_law_k"] (spCell K) := by
  refine fg_of F sc__law_cell (fun vs H Q E h => ?_) (fun cdv A outer s H vs Q E hr h => ⟨_, (PSs.nox (pss_one (ps_ret (pe_ifExp (pt_cmpR op_lt (pv 1) (pe_callB (u_len (K := K)) (by rfl) T.f_len (by decide +kernel) (pa_cons (pv 0) pa_nil)) (nomark _)) (pe_ix (u_ix (K := K)) (pv 0) (pv 1) (fun _ _ => rfl)) (pe_op (u_add (K := K)) (pe_op (u_mul (K := K)) pe_int (pv 1)) (pe_op u_mod (pe_callTy call_int1 (by rfl) T.f_int (by decide +kernel) (pa_cons (pe_callB (u_sum (K := K) rfl) (by rfl) T.f_sum (by decide +kernel) (pa_cons (pe_slice (u_sl (K := K)) (pv 0) po_none (po_some pe_int)) pa_nil)) pa_nil)) pe_int)))))), ?_⟩)
  · obtain ⟨a, ns, k, rfl, _⟩ := h
    rfl
  · obtain ⟨a, ns, k, rfl, S, k0, k1, hl, q⟩ := h
    have nz : (0 : Int) < 1000003 := by decide
    refine ⟨_, rfl, _, rfl, _, _, rfl, .inl ⟨_, S, rfl⟩, _, _, rfl, rfl, _, rfl, ?_⟩
    rw [List.length_map]
    refine ite2 (fun h => ?_) (fun h => ?_)
    · have h' : k < (ns.length : Int) := by simpa using h
      obtain ⟨j, rfl⟩ : ∃ j : Nat, k = j := ⟨k.toNat, by omega⟩
      have hj : j < ns.length := by omega
      refine ⟨_, rfl, _, rfl, .inl ⟨a, _, _, .int ns[j], rfl, rfl, S, ?_, q _ _ (Evl.Ex.refl _)⟩⟩
      rw [atI_nat]
      simp [hj]
    · have km : CMulX 7919 k := mulx_ok (a := 30) (b := 30) (by decide) (by show _ < 1073741824; omega) (by decide)
      have cut : ∃ ms : List Int, cutV (ns.map V.int) none (some 1) = ms.map V.int := ⟨(ns.drop _).take _, by unfold cutV; rw [← List.map_drop, ← List.map_take]⟩
      obtain ⟨ms, hms⟩ := cut
      refine ⟨_, rfl, .inl ⟨_, _, rfl, rfl, km, _, rfl, _, rfl, .inl ⟨a, _, rfl, S, fun p hp => ⟨p, ms, rfl, ?_, .inl ⟨_, rfl, _, _, rfl, rfl, nz, .inl ⟨_, _, rfl, rfl, q _ _ (Evl.Ex.new hp)⟩⟩⟩⟩⟩⟩
      rw [hms]
      exact SqL.of upd_same

end
end K07
namespace K07
open PySem PySem.Spec PyProof.Rows L2 VB BM
theorem zc_snoc_take (o u : Int) (j : Nat) (h : ws8[j]? = some u) : zc ((ws8.map fun u => o / u % 2).take (j + 1)) = zc ((ws8.map fun u => o / u % 2).take j) + (1 - o / u % 2) := by
  have e : ((ws8.map fun u => o / u % 2).take (j + 1)) = ((ws8.map fun u => o / u % 2).take j) ++ [o / u % 2] := by
    refine take_snoc ?_
    rw [List.getElem?_map, h]
    rfl
  rw [e]
  unfold zc
  rw [List.count_append]
  rcases Int.emod_two_eq (o / u) with z | z <;> rw [z] <;> simp
theorem zc_app (a b : List Int) : zc (a ++ b) = zc a + zc b := by
  unfold zc
  rw [List.count_append]
  omega
/-- a list as new, of octets -/
abbrev NewL (a : Addr) (n : Int) (H : Hp) (Q : VK) (ok : List Int → Prop) : Prop := ∀ (p : Addr) (H' : Hp) (xs : List Int), Oct xs → ok xs → p ≠ a → H p = none → Exb a H H' → Box H' a n → H' p = some (.lst (IV xs)) → Q (.ref p) H'
theorem oct_set {os : List Int} {i : Nat} {v : Int} (h : Oct os) (h0 : 0 ≤ v ∧ v ≤ 255) : Oct (os.set i v) := by
  intro z hz
  rcases List.mem_or_eq_of_mem_set hz with z1 | z1
  · exact h z z1
  · omega
theorem oct_app {a b : List Int} (h1 : Oct a) (h2 : Oct b) : Oct (a ++ b) := by
  intro o ho
  rcases List.mem_append.mp ho with z | z
  · exact h1 o z
  · exact h2 o z
theorem oct_rep {c : Nat} {o : Int} (h : 0 ≤ o ∧ o ≤ 255) : Oct (List.replicate c o) := fun z hz => by
  rw [List.eq_of_mem_replicate hz]
  exact h
theorem bit_up : ∀ o : Nat, o < 256 → ∀ j : Nat, j < 8 → (o / (128 / 2 ^ j) % 2 = 0 → o + 128 / 2 ^ j < 256) ∧ (o / (128 / 2 ^ j) % 2 = 1 → 128 / 2 ^ j ≤ o) := by decide +kernel
theorem ws8_at (j : Nat) (h : j < 8) : ws8[j]? = some ((128 / 2 ^ j : Nat) : Int) := by
  rcases j with _ | _ | _ | _ | _ | _ | _ | _ | j
  all_goals first | rfl | omega
section
variable {P : Program} {w : World} {K : PySem.W.Frag} {mg : Str → Option Value} {base : Heap} {f : Addr} {fd : FuncData}
/-- one value many times -/
theorem rep_l {H : Hp} {t : Addr} {k : Int} {o : Int} {Q : VK} (S : H t = some (.lst [V.int o])) (h1 : 0 ≤ k) (h2 : k ≤ 1000) (q : ∀ p, H p = none → Q (.ref p) (upd H p (.lst (IV (List.replicate k.toNat o))))) : rMulU K (.ref t) (.int k) H Q := by
  refine .inr (.inl ⟨t, k, _, rfl, rfl, S, by omega, by omega, ?_, fun p hp => ?_⟩)
  · exact Evl.sz_of (by simp; omega)
  · rw [rep_flat]
    exact q p hp
/-- two lists, one behind the other -/
theorem cat_l {H : Hp} {p r : Addr} {xs ys : List Int} {Q : VK} (h1 : H p = some (.lst (IV xs))) (h2 : H r = some (.lst (IV ys))) (hl : xs.length + ys.length ≤ 10000) (q : ∀ t, H t = none → Q (.ref t) (upd H t (.lst (IV (xs ++ ys))))) : rAddU K (.ref p) (.ref r) H Q := by
  refine .inr (.inl ⟨p, r, _, _, rfl, rfl, h1, h2, ?_, fun t ht => ?_⟩)
  · rw [iv_len, iv_len]
    exact Evl.sz_of (by omega)
  · have e : IV xs ++ IV ys = IV (xs ++ ys) := (List.map_append ..).symm
    rw [e]
    exact q t ht
def spLZ (K : PySem.W.Frag) : Sp := fun vs H Q _ => ∃ (a : Addr) (os : List Int) (t : Bool), vs = [.ref a] ∧ Sv t K H a (IV os) ∧ os.length ≤ 100 ∧ RV (.int (zc (bitsL os))) H Q
theorem ok_lzeros (T : Txt K mg) (F : FnP K "_law_zeros" s__law_zeros f fd) : Fg P w K mg base CX0 1 f fd ["_law_octets"] (spLZ K) := by
  refine fg_of F sc__law_zeros (fun vs H Q E h => ?_) (fun cdv A outer s H vs Q E hr h => ⟨_, (PSs.nox (pss_cons (ps_set (i := 1) sc__law_zeros.nd rfl (by first | exact Or.inl rfl | exact Or.inr rfl) pe_int)
  (pss_cons (ps_for PassesOwn.never rfl (pi_seq (K := K) (pv 0)) (pg_name (i := 2) sc__law_zeros.nd rfl (by first | exact Or.inl rfl | exact Or.inr rfl))
  (pss_one (ps_for PassesOwn.never rfl (pi_seq (K := K) (pe_lst (pa_cons pe_int (pa_cons pe_int (pa_cons pe_int (pa_cons pe_int (pa_cons pe_int (pa_cons pe_int (pa_cons pe_int (pa_cons pe_int pa_nil)))))))))) (pg_name (i := 3) sc__law_zeros.nd rfl (by first | exact Or.inl rfl | exact Or.inr rfl))
  (pss_one (ps_set (i := 1) sc__law_zeros.nd rfl (by first | exact Or.inl rfl | exact Or.inr rfl) (pe_op op_sub (pe_op (u_add (K := K)) (pv 1) pe_int) (pe_op u_mod (pe_op u_fdiv (pe_callTy call_int1 (by rfl) T.f_int (by decide +kernel) (pa_cons (pv 2) pa_nil)) (pv 3)) pe_int)))))))
  (pss_one (ps_ret (pv 1)))))), ?_⟩)
  · obtain ⟨a, os, t, rfl, _⟩ := h
    rfl
  · obtain ⟨a, os, t, rfl, S, hl, q⟩ := h
    have nz : (0 : Int) < 2 := by decide
    refine seq_var (t := t) rfl S fun J wk => ?_
    rw [iv_len] at wk
    refine for_it wk (fun i σ H' => ∃ v2 v3 : Option V, σ = [some (.ref a), some (.int (zc (bitsL (os.take i)))), v2, v3] ∧ Evl.Ex H H') ⟨_, _, rfl, Evl.Ex.refl _⟩ (fun i σ H' _ h => S.ex h.choose_spec.choose_spec.2) ?_ ?_
    · rintro i x σ H1 H2 hi ⟨v2, v3, rfl, e1⟩ ⟨rfl, hx⟩
      obtain ⟨o, ho, rfl⟩ := iv_get hx
      refine .inl ⟨by show 8 ≤ sizeLine; decide, fun p hp => ⟨p, rfl, ⟨_, SqL.of upd_same⟩, ?_⟩⟩
      refine for_it (walk_list (K := K) (a := p) (xs := IV ws8)) (fun j σ H' => ∃ v3 : Option V, σ = [some (.ref a), some (.int (zc (bitsL (os.take i)) + zc ((ws8.map fun u => o / u % 2).take j))), some (.int o), v3] ∧ Evl.Ex H H' ∧ H' p = some (.lst (IV ws8))) ⟨v3, ?_, e1.trans (Evl.Ex.new hp), upd_same⟩ (fun j σ H' _ h => SqL.of h.choose_spec.2.2) ?_ ?_
      · rw [List.take_zero, zc_nil, Int.add_zero]
        rfl
      · rintro j x σ H1' H2' hj ⟨v3', rfl, e2, hp2⟩ ⟨rfl, hx2⟩
        obtain ⟨u, hu, rfl⟩ := iv_get hx2
        obtain ⟨u1, u2⟩ := ws8_get hu
        refine ⟨_, rfl, .inl ⟨_, _, rfl, rfl, _, rfl, .inl ⟨_, rfl, _, rfl, _, _, rfl, rfl, ⟨by omega, by omega⟩, _, _, rfl, rfl, nz, _, _, rfl, rfl, ?_⟩⟩⟩
        refine ⟨some (.int u), ?_, e2, hp2⟩
        rw [zc_snoc_take o u j hu]
        have e : zc (bitsL (os.take i)) + zc ((ws8.map fun u => o / u % 2).take j) + 1 - o / u % 2 = zc (bitsL (os.take i)) + (zc ((ws8.map fun u => o / u % 2).take j) + (1 - o / u % 2)) := by omega
        rw [← e]
        rfl
      · rintro σ H3 ⟨v3', rfl, e3, hp3⟩
        refine ⟨some (.int o), v3', ?_, e3⟩
        have e8 : (ws8.map fun u => o / u % 2).take (IV ws8).length = bitsOf o := rfl
        rw [e8, take_snoc ho, bitsL_append, zc_app, bitsL_cons, bitsL_nil, List.append_nil]
    · rintro σ H' ⟨v2, v3, rfl, e1⟩
      rw [List.take_length]
      exact ⟨_, rfl, q H' e1⟩
/-! ### one bit turned -/
def spLT (K : PySem.W.Frag) : Sp := fun vs H Q _ => ∃ (a : Addr) (os : List Int) (t : Bool) (n : Nat), vs = [.ref a, .int (n : Int)] ∧ Sv t K H a (IV os) ∧ Oct os ∧ os.length ≤ 100 ∧ n < 8 * os.length ∧
  ∀ (p : Addr) (H' : Hp) (ys : List Int), Oct ys → ys.length = os.length → H p = none → Evl.Ex H H' → H' p = some (.lst (IV ys)) → Q (.ref p) H'
theorem ok_lturned (T : Txt K mg) (F : FnP K "_law_turned" s__law_turned f fd) : Fg P w K mg base CX0 1 f fd ["_law_page", "_law_bit"] (spLT K) := by
  refine fg_of F sc__law_turned (fun vs H Q E h => ?_) (fun cdv A outer s H vs Q E hr h => ⟨_, (PSs.nox (pss_cons (ps_par (i := 2) (j := 3) rfl sc__law_turned.nd rfl rfl (by decide) rfl rfl (pa_cons (pe_callTy (u_list (K := K)) (by rfl) T.f_list (by decide +kernel) (pa_cons (pv 0) pa_nil)) (pa_cons (pe_ix (u_ix (K := K)) (pe_lst (pa_cons pe_int (pa_cons pe_int (pa_cons pe_int (pa_cons pe_int (pa_cons pe_int (pa_cons pe_int (pa_cons pe_int (pa_cons pe_int pa_nil))))))))) (pe_op u_mod (pe_callTy call_int1 (by rfl) T.f_int (by decide +kernel) (pa_cons (pv 1) pa_nil)) pe_int) (fun _ _ => rfl)) pa_nil)) (by rfl))
  (pss_cons (ps_set (i := 4) sc__law_turned.nd rfl (by first | exact Or.inl rfl | exact Or.inr rfl) (pe_ix (u_ix (K := K)) (pv 2) (pe_op u_fdiv (pv 1) pe_int) (fun _ _ => rfl)))
  (pss_cons (ps_asg (pe_ifExp (pt_cmpR (u_eq (K := K) hr) (pe_op u_mod (pe_op u_fdiv (pe_callTy call_int1 (by rfl) T.f_int (by decide +kernel) (pa_cons (pv 4) pa_nil)) (pv 3)) pe_int) pe_int (nomark _)) (pe_op (u_add (K := K)) (pv 4) (pv 3)) (pe_op op_sub (pv 4) (pv 3))) (pg_sub (pv 2) (pe_op u_fdiv (pv 1) pe_int) set_list))
  (pss_one (ps_ret (pv 2))))))), ?_⟩)
  · obtain ⟨a, os, t, n, rfl, _⟩ := h
    rfl
  · obtain ⟨a, os, t, n, rfl, S, oo, hl, hn, q⟩ := h
    have h8 : n / 8 < os.length := by omega
    have n8 : (0 : Int) < 8 := by decide
    have n8' : (0 : Int) < 8 ∧ (8 : Int) < 1073741824 := by decide
    have n2 : (0 : Int) < 2 := by decide
    obtain ⟨o, o1, o2, o3⟩ := at_bit oo hn
    obtain ⟨bu, bd⟩ := bit_up o o1 (n % 8) (by omega)
    have w0 : (0 : Int) < ((128 / 2 ^ (n % 8) : Nat) : Int) ∧ ((128 / 2 ^ (n % 8) : Nat) : Int) < 1073741824 := by
      have h1 := ws8_at (n % 8) (by omega)
      have := ws8_get h1
      omega
    refine ⟨_, rfl, a, _, rfl, S.either, fun l nl => ?_⟩
    have e1 := Evl.Ex.new (o := .lst (IV os)) nl
    refine ⟨by show 8 ≤ sizeLine; decide, fun p np => ⟨_, rfl, .inl ⟨_, rfl, _, _, rfl, rfl, n8, .inl ⟨p, _, _, _, rfl, rfl, SqL.of upd_same, iv_at (ws8_at (n % 8) (by omega)), _, _, rfl, ?_⟩⟩⟩⟩
    have e2 := Evl.Ex.new (o := .lst (IV ws8)) np
    have hl1 := e2 l _ upd_same
    refine ⟨_, rfl, _, rfl, _, _, rfl, rfl, n8', .inl ⟨l, _, _, _, rfl, rfl, SqL.of hl1, iv_at o2, ?_⟩⟩
    refine ⟨_, rfl, .inl ⟨_, rfl, _, rfl, _, _, rfl, rfl, w0, _, _, rfl, rfl, n2, .inl ⟨rfl, _, rfl, ?_⟩⟩⟩
    have fin : ∀ v : Int, 0 ≤ v ∧ v ≤ 255 → tAsg (tC (.int v)) (gSub (tVar 2) (tOp (rI (fun x j => 0 < j ∧ j < 1073741824) fun i j => V.int (i / j)) (tVar 1) (tC (V.int 8))) rSetL) { nx := tRet (tVar 2) { nx := fun x H' => Q V.non H', rt := Q }, rt := Q } [some (.ref a), some (.int (n : Int)), some (.ref l), some (.int ((128 / 2 ^ (n % 8) : Nat) : Int)), some (.int (o : Int))] (upd (upd H l (.lst (IV os))) p (.lst (IV ws8))) := by
      intro v hv
      refine ⟨_, rfl, _, rfl, _, _, rfl, rfl, n8', l, _, _, n / 8, rfl, rfl, hl1, Evl.ixN_nat (by rw [iv_len]; exact h8), ?_⟩
      refine ⟨_, rfl, q l _ (os.set (n / 8) v) (oct_set oo hv) (by rw [List.length_set]) nl ?_ ?_⟩
      · exact Evl.Ex.mut (e1.trans e2) nl
      · rw [upd_same, ← List.map_set]
    refine if_eq (fun z => ?_) (fun z => ?_)
    · exact ⟨_, rfl, _, rfl, .inl ⟨_, _, rfl, rfl, fin _ (by have := bu (by omega); omega)⟩⟩
    · exact ⟨_, rfl, _, rfl, _, _, rfl, rfl, fin _ (by have := bd (by omega); omega)⟩
/-! ### drawn octets -/
def spLD : Sp := fun vs H Q _ => ∃ (a : Addr) (c : Nat) (n : Int), vs = [.ref a, .int (c : Int)] ∧ Box H a n ∧ c ≤ 31 ∧ n < 90000000 ∧ NewL a (n + 31) H Q (fun xs => xs.length = c)
theorem ok_ldrawn (T : Txt K mg) (F : FnP K "_law_drawn" s__law_drawn f fd) (C__law_take : Cal P w K mg base CX0 1 "_law_take" ["_law_box_here", "_law_many"] spTake) : Fg P w K mg base CX0 2 f fd ["_law_box_here", "_law_count"] spLD := by
  refine fg_of F sc__law_drawn (fun vs H Q E h => ?_) (fun cdv A outer s H vs Q E hr h => ⟨_, (PSs.nox (pss_one (ps_ret (pe_lc (own := [("_law_k", 2)]) rfl sc__law_drawn.nd (pi_range1 rfl T.f_range (pa_cons (pv 1) pa_nil)) (blkOk_by (own := [("_law_k", 2)]) (N := ["_law_box_here", "_law_count", "_law_k"]) (sc := defScope s__law_drawn) (by decide +kernel)) (fun _ _ _ _ _ => (pg_name (i := 2) sc__law_drawn.nd rfl (by first | exact Or.inl rfl | exact Or.inr rfl))) (fun _ _ _ _ _ => pts_nil) (fun _ _ _ _ _ => (pe_cal C__law_take hr.le pass0 (pa_cons (pv 0) (pa_cons pe_int pa_nil)))))))), ?_⟩)
  · obtain ⟨a, c, n, rfl, _⟩ := h
    rfl
  · obtain ⟨a, c, n, rfl, B, hc, hn, q⟩ := h
    refine ⟨_, rfl, (c : Int), rfl, by omega, by omega, fun D hD => ?_⟩
    have nn : ((c : Int)).toNat = c := by omega
    have nD := B.at hD
    rw [nn]
    refine lc_range (lo := 0) (n := c) (fun i H' => i ≤ c ∧ Exb a H H' ∧ Box H' a (n + i) ∧ ∃ xs : List Int, xs.length = i ∧ Oct xs ∧ H' D = some (.lst (IV xs))) ⟨by omega, Exb.new hD, (B.ex (Evl.Ex.new hD)).le (by omega), [], rfl, fun _ h => (by cases h), upd_same⟩ ?_ ?_
    · rintro i H1 hi ⟨_, e1, B1, xs, lx, ox, hx⟩
      refine ⟨rfl, _, rfl, a, 256, n + i, rfl, B1, by omega, by omega, by omega, fun r H2 r0 r1 e2 B2 => ⟨_, e2 D _ nD hx, by rw [iv_len, lx]; exact Evl.sz_lt (by omega), by omega, ?_, ?_, xs ++ [r], by simp [lx], oct_snoc ox r0 (by omega), by rw [upd_same, iv_snoc]⟩⟩
      · intro b o nb z
        have hb : b ≠ D := by
          rintro rfl
          rw [hD] at z
          cases z
        rw [upd_ne hb]
        exact e2 b o nb (e1 b o nb z)
      · obtain ⟨d, m', c', k, hb, r⟩ := B2
        exact ⟨d, m', c', k, by rw [upd_ne (Ne.symm nD)]; exact hb, r.1, r.2.1, r.2.2.1, r.2.2.2.1, by omega⟩
    · rintro H1 ⟨_, e1, B1, xs, lx, ox, hx⟩
      exact q D H1 xs ox lx nD hD e1 (B1.le (by omega)) hx
end
end K07
namespace K07
open PySem PySem.Spec PyProof.Rows L2 VB BM
theorem Box.mut {H : Hp} {a D : Addr} {n : Int} {o : HO} (B : Box H a n) (h : D ≠ a) : Box (upd H D o) a n := by
  obtain ⟨d, m, c, k, hb, r⟩ := B
  exact ⟨d, m, c, k, by rw [upd_ne (Ne.symm h)]; exact hb, r⟩
theorem Exb.mut {H0 H : Hp} {a D : Addr} {o : HO} (e : Exb a H0 H) (h : H0 D = none) : Exb a H0 (upd H D o) := by
  intro b u nb z
  have hb : b ≠ D := by
    rintro rfl
    rw [h] at z
    cases z
  rw [upd_ne hb]
  exact e b u nb z
theorem Exb.fresh {H H' : Hp} {a p : Addr} (e : Exb a H H') (h : H' p = none) (n : p ≠ a) : H p = none := by
  cases z : H p with
  | none => rfl
  | some o =>
    have := e p o n z
    rw [h] at this
    cases this
theorem Exb.refl (a : Addr) (H : Hp) : Exb a H H := fun _ _ _ e => e
theorem pick {xs : List Int} (h : Oct xs) {r : Int} (r0 : 0 ≤ r) (r1 : r < (xs.length : Int)) : ∃ v, 0 ≤ v ∧ v ≤ 255 ∧ atI (IV xs) r = some (.int v) := by
  obtain ⟨j, rfl⟩ : ∃ j : Nat, r = j := ⟨r.toNat, by omega⟩
  obtain ⟨v, hv⟩ := get_lt (l := xs) (i := j) (by omega)
  have := h v (List.mem_of_getElem? hv)
  exact ⟨v, this.1, this.2, iv_at hv⟩
theorem octs {xs : List Int} (h : (xs.all fun o => decide (0 ≤ o ∧ o ≤ 255)) = true) : Oct xs := fun o ho => by
  have := List.all_eq_true.mp h o ho
  simpa using this
section
variable {P : Program} {w : World} {K : PySem.W.Frag} {mg : Str → Option Value} {base : Heap} {f : Addr} {fd : FuncData}
def spDa : Sp := fun vs H Q _ => ∃ (a : Addr) (n : Int), vs = [.ref a] ∧ Box H a n ∧ n < 80000000 ∧ NewL a (n + 60) H Q (fun xs => xs.length = 30)
theorem ok_ldata (T : Txt K mg) (F : FnP K "_law_data" s__law_data f fd) (C__law_take : Cal P w K mg base CX0 1 "_law_take" ["_law_box_here", "_law_many"] spTake) (C__law_drawn : Cal P w K mg base CX0 2 "_law_drawn" ["_law_box_here", "_law_count"] spLD) : Fg P w K mg base CX0 3 f fd ["_law_box_here"] spDa := by
  refine fg_of F sc__law_data (fun vs H Q E h => ?_) (fun cdv A outer s H vs Q E hr h => ⟨_, (PSs.nox (pss_cons (ps_set (i := 1) sc__law_data.nd rfl (by first | exact Or.inl rfl | exact Or.inr rfl) (pe_cal C__law_take hr.le pass0 (pa_cons (pv 0) (pa_cons pe_int pa_nil))))
  (pss_cons (ps_if (pt_cmpR op_lt (pv 1) pe_int (nomark _))
  (pss_one (ps_ret (pe_ix (u_ix (K := K)) (pe_lst (pa_cons (pe_op (u_mul (K := K)) (pe_lst (pa_cons pe_int pa_nil)) pe_int) (pa_cons (pe_op (u_mul (K := K)) (pe_lst (pa_cons pe_int pa_nil)) pe_int) pa_nil))) (pv 1) (fun _ _ => rfl)))) pss_nil)
  (pss_cons (ps_if (pt_cmpR (u_eq (K := K) hr) (pv 1) pe_int (nomark _))
  (pss_one (ps_ret (pe_cal C__law_drawn hr.le pass0 (pa_cons (pv 0) (pa_cons pe_int pa_nil))))) pss_nil)
  (pss_cons (ps_if (pt_cmpR (u_eq (K := K) hr) (pv 1) pe_int (nomark _))
  (pss_one (ps_ret (pe_op (u_add (K := K)) (pe_lc (own := [("_law_k", 3)]) rfl sc__law_data.nd (pi_range1 rfl T.f_range (pa_cons pe_int pa_nil)) (blkOk_by (own := [("_law_k", 3)]) (N := ["_law_box_here", "_law_way", "_law_found", "_law_k"]) (sc := defScope s__law_data) (by decide +kernel)) (fun _ _ _ _ _ => (pg_name (i := 3) sc__law_data.nd rfl (by first | exact Or.inl rfl | exact Or.inr rfl))) (fun _ _ _ _ _ => pts_nil) (fun _ _ _ _ _ => (pe_cal C__law_take hr.le pass0 (pa_cons (pv 0) (pa_cons pe_int pa_nil))))) (pe_op (u_mul (K := K)) (pe_lst (pa_cons pe_int pa_nil)) pe_int)))) pss_nil)
  (pss_cons (ps_set (i := 2) sc__law_data.nd rfl (by first | exact Or.inl rfl | exact Or.inr rfl) (pe_op (u_mul (K := K)) (pe_lst (pa_cons pe_int pa_nil)) pe_int))
  (pss_cons (ps_for PassesOwn.never rfl (pi_range1 rfl T.f_range (pa_cons (pe_op (u_add (K := K)) pe_int (pe_cal C__law_take hr.le pass0 (pa_cons (pv 0) (pa_cons pe_int pa_nil)))) pa_nil)) (pg_name (i := 3) sc__law_data.nd rfl (by first | exact Or.inl rfl | exact Or.inr rfl))
  (pss_one (ps_asg (pe_ix (u_ix (K := K)) (pe_lst (pa_cons pe_int (pa_cons pe_int (pa_cons pe_int (pa_cons pe_int (pa_cons (pe_cal C__law_take hr.le pass0 (pa_cons (pv 0) (pa_cons pe_int pa_nil))) pa_nil)))))) (pe_cal C__law_take hr.le pass0 (pa_cons (pv 0) (pa_cons pe_int pa_nil))) (fun _ _ => rfl)) (pg_sub (pv 2) (pe_cal C__law_take hr.le pass0 (pa_cons (pv 0) (pa_cons pe_int pa_nil))) set_list))))
  (pss_one (ps_ret (pv 2)))))))))), ?_⟩)
  · obtain ⟨a, n, rfl, _⟩ := h
    rfl
  · obtain ⟨a, n, rfl, B, hn, q⟩ := h
    have r30 : ∀ o : Int, (List.replicate (30 : Int).toNat o).length = 30 := fun o => by rw [List.length_replicate]; rfl
    refine ⟨_, rfl, a, 6, n, rfl, B, by omega, by omega, by omega, fun way H1 p1 p2 e1 B1 => ?_⟩
    refine ⟨_, rfl, _, _, rfl, rfl, _, rfl, if_dec (fun h2 => ?_) (fun h2 => ?_)⟩
    · refine ⟨by show 1 ≤ sizeLine; decide, fun l0 n0 => rep_l (k := 30) upd_same (by omega) (by omega) fun l1 n1 => ?_⟩
      refine ⟨by show 1 ≤ sizeLine; decide, fun l2 n2 => rep_l (k := 30) upd_same (by omega) (by omega) fun l3 n3 => ?_⟩
      refine ⟨by show 2 ≤ sizeLine; decide, fun l4 n4 => ⟨_, rfl, ?_⟩⟩
      have x0 := Evl.Ex.new (o := .lst [V.int 255]) n0
      have x1 := Evl.Ex.new (o := .lst (IV (List.replicate (30 : Int).toNat 255))) n1
      have x2 := Evl.Ex.new (o := .lst [V.int 0]) n2
      have x3 := Evl.Ex.new (o := .lst (IV (List.replicate (30 : Int).toNat 0))) n3
      have x4 := Evl.Ex.new (o := .lst [V.ref l1, V.ref l3]) n4
      have h1 := x4 _ _ (x3 _ _ (x2 _ _ (upd_same (H := upd H1 l0 (.lst [V.int 255])) (a := l1) (o := .lst (IV (List.replicate (30 : Int).toNat 255))))))
      have h3 := x4 _ _ (upd_same (H := upd (upd (upd H1 l0 (.lst [V.int 255])) l1 (.lst (IV (List.replicate (30 : Int).toNat 255)))) l2 (.lst [V.int 0])) (a := l3) (o := .lst (IV (List.replicate (30 : Int).toNat 0))))
      have X := (((x0.trans x1).trans x2).trans x3).trans x4
      have m1 := Evl.fresh_back x0 n1
      have m3 := Evl.fresh_back ((x0.trans x1).trans x2) n3
      have c : way = 0 ∨ way = 1 := by omega
      rcases c with rfl | rfl
      · exact .inl ⟨l4, _, _, _, rfl, rfl, SqL.of upd_same, rfl, q l1 _ _ (oct_rep (by omega)) (r30 _) (B1.at m1) (Exb.fresh e1 m1 (B1.at m1)) (e1.trans (Exb.of X)) ((B1.ex X).le (by omega)) h1⟩
      · exact .inl ⟨l4, _, _, _, rfl, rfl, SqL.of upd_same, rfl, q l3 _ _ (oct_rep (by omega)) (r30 _) (B1.at m3) (Exb.fresh e1 m3 (B1.at m3)) (e1.trans (Exb.of X)) ((B1.ex X).le (by omega)) h3⟩
    refine ⟨_, rfl, .inl ⟨rfl, _, rfl, if_eq (fun h3 => ?_) (fun h3 => ?_)⟩⟩
    · refine ⟨_, rfl, a, 30, n + 1, rfl, B1, by omega, by omega, fun p H2 xs ox lx na np e2 B2 hp => ?_⟩
      exact q p H2 xs ox lx na (Exb.fresh e1 np na) (e1.trans e2) (B2.le (by omega)) hp
    refine ⟨_, rfl, .inl ⟨rfl, _, rfl, if_eq (fun h4 => ?_) (fun h4 => ?_)⟩⟩
    · refine ⟨12, rfl, by omega, by omega, fun D hD => ?_⟩
      have nD := B1.at hD
      refine lc_range (lo := 0) (n := 12) (fun i H' => i ≤ 12 ∧ Exb a H1 H' ∧ Box H' a (n + 1 + i) ∧ ∃ xs : List Int, xs.length = i ∧ Oct xs ∧ H' D = some (.lst (IV xs))) ⟨by omega, Exb.new hD, (B1.ex (Evl.Ex.new hD)).le (by omega), [], rfl, fun _ h => (by cases h), upd_same⟩ ?_ ?_
      · rintro i H2 hi ⟨_, e2, B2, xs, lx, ox, hx⟩
        exact ⟨rfl, _, rfl, a, 7, n + 1 + i, rfl, B2, by omega, by omega, by omega, fun r H3 r0 r1 e3 B3 => ⟨_, e3 D _ nD hx, by rw [iv_len, lx]; exact Evl.sz_lt (by omega), by omega, Exb.mut (e2.trans e3) hD, Box.mut (B3.le (by omega)) nD, xs ++ [r], by simp [lx], oct_snoc ox r0 (by omega), by rw [upd_same, iv_snoc]⟩⟩
      · rintro H2 ⟨_, e2, B2, xs, lx, ox, hx⟩
        refine ⟨by show 1 ≤ sizeLine; decide, fun l0 n0 => rep_l (k := 18) upd_same (by omega) (by omega) fun l1 n1 => ?_⟩
        have x0 := Evl.Ex.new (o := .lst [V.int 0]) n0
        have x1 := Evl.Ex.new (o := .lst (IV (List.replicate (18 : Int).toNat 0))) n1
        refine cat_l (x1 _ _ (x0 _ _ hx)) upd_same (by rw [lx, List.length_replicate]; decide) fun t nt => ?_
        have x2 := Evl.Ex.new (o := .lst (IV (xs ++ List.replicate (18 : Int).toNat 0))) nt
        have X := (x0.trans x1).trans x2
        have mt := Evl.fresh_back (x0.trans x1) nt
        have na := B2.at mt
        exact q t _ _ (oct_app ox (oct_rep (by omega))) (by show (xs ++ List.replicate (18 : Int).toNat 0).length = 30; rw [List.length_append, lx, List.length_replicate]; rfl) na (Exb.fresh (e1.trans e2) mt na) ((e1.trans e2).trans (Exb.of X)) ((B2.ex X).le (by omega)) upd_same
    -- mostly 255s
    refine ⟨by show 1 ≤ sizeLine; decide, fun l0 n0 => rep_l (k := 30) upd_same (by omega) (by omega) fun l n1 => ?_⟩
    have x0 := Evl.Ex.new (o := .lst [V.int 255]) n0
    have x1 := Evl.Ex.new (o := .lst (IV (List.replicate (30 : Int).toNat 255))) n1
    have nl := Evl.fresh_back x0 n1
    have na := B1.at nl
    have nH := Exb.fresh e1 nl na
    refine ⟨_, rfl, a, 5, n + 1, rfl, (B1.ex (x0.trans x1)), by omega, by omega, by omega, fun c H2 c0 c1 e2 B2 => .inl ⟨_, _, rfl, rfl, _, rfl, by omega, by omega, ?_⟩⟩
    have hl2 := e2 l _ na (upd_same (H := upd H1 l0 (.lst [V.int 255])) (a := l) (o := .lst (IV (List.replicate (30 : Int).toNat 255))))
    have E2 := (e1.trans (Exb.of (x0.trans x1))).trans e2
    refine for_range (lo := 0) (n := (1 + c).toNat) (fun i σ H' => ∃ (v : Option V) (xs : List Int), σ = [some (.ref a), some (.int way), some (.ref l), v] ∧ Exb a H H' ∧ Box H' a (n + 2 + 3 * i) ∧ i ≤ 5 ∧ H' l = some (.lst (IV xs)) ∧ Oct xs ∧ xs.length = 30)
      ⟨_, _, rfl, E2, B2.le (by omega), by omega, hl2, oct_rep (by omega), r30 _⟩ ?_ ?_
    · rintro i σ H3 hi ⟨v, xs, rfl, e3, B3, hi5, hl3, ox, lx⟩
      refine ⟨_, rfl, a, 256, n + 2 + 3 * i, rfl, B3, by omega, by omega, by omega, fun r1 H4 q1 q2 e4 B4 => ⟨by show 5 ≤ sizeLine; decide, fun p np => ?_⟩⟩
      have hp := Evl.Ex.new (o := .lst [V.int 254, .int 127, .int 0, .int 239, .int r1]) np
      have npa := B4.at np
      refine ⟨_, rfl, a, 5, n + 2 + 3 * i + 1, rfl, B4.ex hp, by omega, by omega, by omega, fun r2 H5 q3 q4 e5 B5 => ?_⟩
      have oo : Oct [254, 127, 0, 239, r1] := by
        intro o ho
        simp only [List.mem_cons, List.not_mem_nil, or_false] at ho
        omega
      obtain ⟨u, u0, u1, hu⟩ := pick oo q3 (by simpa using q4)
      refine .inl ⟨p, _, _, _, rfl, rfl, SqL.of (e5 p _ npa upd_same), hu, ?_⟩
      refine ⟨_, rfl, _, rfl, a, 30, n + 2 + 3 * i + 1 + 1, rfl, B5, by omega, by omega, by omega, fun r3 H6 q5 q6 e6 B6 => ?_⟩
      have hl6 := e6 l _ na (e5 l _ na (hp l _ (e4 l _ na hl3)))
      have E6 := (((e3.trans e4).trans (Exb.of hp)).trans e5).trans e6
      have h30 : r3.toNat < 30 := by omega
      have eix : ixN (IV xs).length r3 = some r3.toNat := by
        have := Evl.ixN_nat (n := (IV xs).length) (j := r3.toNat) (by rw [iv_len, lx]; exact h30)
        have e3' : ((r3.toNat : Nat) : Int) = r3 := by omega
        rw [e3'] at this
        exact this
      refine ⟨l, _, _, r3.toNat, rfl, rfl, hl6, eix, ?_⟩
      exact ⟨_, xs.set r3.toNat u, rfl, Exb.mut E6 nH, Box.mut (B6.le (by omega)) na, by omega, by rw [upd_same, ← List.map_set], oct_set ox ⟨u0, u1⟩, by rw [List.length_set]; exact lx⟩
    · rintro σ H3 ⟨v, xs, rfl, e3, B3, hi5, hl3, ox, lx⟩
      exact ⟨_, rfl, q l H3 xs ox lx na nH e3 (B3.le (by omega)) hl3⟩
/-! ### a page that fits -/
def spFit (K : PySem.W.Frag) : Sp := fun vs H Q _ => ∃ (a : Addr) (os : List Int) (t : Bool), vs = [.ref a] ∧ Sv t K H a (IV os) ∧ os.length ≤ 40 ∧ RL (IV (os ++ [zc (bitsL os)])) H Q
theorem ok_lfit (T : Txt K mg) (F : FnP K "_law_fitting" s__law_fitting f fd) (C__law_zeros : Cal P w K mg base CX0 1 "_law_zeros" ["_law_octets"] (spLZ K)) : Fg P w K mg base CX0 2 f fd ["_law_data_here"] (spFit K) := by
  refine fg_of F sc__law_fitting (fun vs H Q E h => ?_) (fun cdv A outer s H vs Q E hr h => ⟨_, (PSs.nox (pss_one (ps_ret (pe_op (u_add (K := K)) (pe_callTy (u_list (K := K)) (by rfl) T.f_list (by decide +kernel) (pa_cons (pv 0) pa_nil)) (pe_lst (pa_cons (pe_cal C__law_zeros hr.le pass0 (pa_cons (pv 0) pa_nil)) pa_nil)))))), ?_⟩)
  · obtain ⟨a, os, t, rfl, _⟩ := h
    rfl
  · obtain ⟨a, os, t, rfl, S, hl, q⟩ := h
    refine ⟨_, rfl, a, _, rfl, S.either, fun l nl => ⟨_, rfl, a, os, t, rfl, S.ex (Evl.Ex.new nl), by omega, fun H1 e1 => ⟨by show 1 ≤ sizeLine; decide, fun l1 n1 => ?_⟩⟩⟩
    have e0 := Evl.Ex.new (o := .lst (IV os)) nl
    have e2 := Evl.Ex.new (o := .lst [V.int (zc (bitsL os))]) n1
    refine cat_l (xs := os) (ys := [zc (bitsL os)]) (e2 _ _ (e1 _ _ upd_same)) upd_same (by simp; omega) fun t nt => ?_
    have e3 := Evl.Ex.new (o := .lst (IV (os ++ [zc (bitsL os)]))) nt
    exact q t _ (Evl.fresh_back ((e0.trans e1).trans e2) nt) (((e0.trans e1).trans e2).trans e3) upd_same
/-! ### many bits turned -/
def spMT (K : PySem.W.Frag) : Sp := fun vs H Q _ => ∃ (a c : Addr) (os : List Int) (t : Bool) (most n : Int), vs = [.ref a, .ref c, .int most] ∧ Box H a n ∧ Sv t K H c (IV os) ∧ Oct os ∧ os.length = 31 ∧ 0 < most ∧ most < 20 ∧ n < 80000000 ∧
  NewL a (n + 30) H Q (fun xs => xs.length = 31)
theorem ok_lmt (T : Txt K mg) (F : FnP K "_law_many_turned" s__law_many_turned f fd) (C__law_take : Cal P w K mg base CX0 1 "_law_take" ["_law_box_here", "_law_many"] spTake) (C__law_turned : Cal P w K mg base CX0 1 "_law_turned" ["_law_page", "_law_bit"] (spLT K)) : Fg P w K mg base CX0 2 f fd ["_law_box_here", "_law_page", "_law_most"] (spMT K) := by
  refine fg_of F sc__law_many_turned (fun vs H Q E h => ?_) (fun cdv A outer s H vs Q E hr h => ⟨_, (PSs.nox (pss_cons (ps_set (i := 3) sc__law_many_turned.nd rfl (by first | exact Or.inl rfl | exact Or.inr rfl) (pe_callTy (u_list (K := K)) (by rfl) T.f_list (by decide +kernel) (pa_cons (pv 1) pa_nil)))
  (pss_cons (ps_for PassesOwn.never rfl (pi_range1 rfl T.f_range (pa_cons (pe_op (u_add (K := K)) pe_int (pe_cal C__law_take hr.le pass0 (pa_cons (pv 0) (pa_cons (pv 2) pa_nil)))) pa_nil)) (pg_name (i := 4) sc__law_many_turned.nd rfl (by first | exact Or.inl rfl | exact Or.inr rfl))
  (pss_one (ps_set (i := 3) sc__law_many_turned.nd rfl (by first | exact Or.inl rfl | exact Or.inr rfl) (pe_cal C__law_turned hr.le pass0 (pa_cons (pv 3) (pa_cons (pe_cal C__law_take hr.le pass0 (pa_cons (pv 0) (pa_cons pe_int pa_nil))) pa_nil))))))
  (pss_one (ps_ret (pv 3)))))), ?_⟩)
  · obtain ⟨a, c, os, t, most, n, rfl, _⟩ := h
    rfl
  · obtain ⟨a, c, os, t, most, n, rfl, B, S, oo, lo, m0, m1, hn, q⟩ := h
    refine ⟨_, rfl, c, _, rfl, S.either, fun l nl => ?_⟩
    have x0 := Evl.Ex.new (o := .lst (IV os)) nl
    refine ⟨_, rfl, _, rfl, a, most, n, rfl, B.ex x0, by omega, by omega, by omega, fun r H1 r0 r1 e1 B1 => .inl ⟨_, _, rfl, rfl, _, rfl, by omega, by omega, ?_⟩⟩
    have na := B.at nl
    refine for_range (lo := 0) (n := (2 + r).toNat) (fun i σ H' => ∃ (v : Option V) (l : Addr) (xs : List Int), σ = [some (.ref a), some (.ref c), some (.int most), some (.ref l), v] ∧ Exb a H H' ∧ Box H' a (n + 1 + i) ∧ i ≤ 22 ∧ H' l = some (.lst (IV xs)) ∧ Oct xs ∧ xs.length = 31 ∧ l ≠ a ∧ H l = none)
      ⟨_, l, os, rfl, (Exb.of x0).trans e1, B1.le (by omega), by omega, e1 l _ na upd_same, oo, lo, na, nl⟩ ?_ ?_
    · rintro i σ H2 hi ⟨v, l, xs, rfl, e2, B2, hi2, hl2, ox, lx, na, nl⟩
      refine ⟨_, rfl, _, rfl, a, 248, n + 1 + i, rfl, B2, by omega, by omega, by omega, fun r2 H3 q0 q1 e3 B3 => ?_⟩
      obtain ⟨k, rfl⟩ : ∃ k : Nat, r2 = k := ⟨r2.toNat, by omega⟩
      refine ⟨l, xs, false, k, rfl, Sv.lst (e3 l _ na hl2), ox, by omega, by omega, fun p H4 ys oy ly np e4 hp => ?_⟩
      have npa := B3.at np
      exact ⟨_, p, ys, rfl, (e2.trans e3).trans (Exb.of e4), (B3.ex e4).le (by omega), by omega, hp, oy, by omega, npa, Exb.fresh (e2.trans e3) np npa⟩
    · rintro σ H2 ⟨v, l, xs, rfl, e2, B2, hi2, hl2, ox, lx, na, nl⟩
      exact ⟨_, rfl, q l H2 xs ox lx na nl e2 (B2.le (by omega)) hl2⟩
end
end K07
/-! list(reversed(a list)) -/
namespace RT
open PySem PySem.Spec PyProof.Rows PySem.W PySem.Calls
section
variable {prog : Program} {w : World} {A : Around} {E : Value → Shared → Prop} {R : Result → Shared → Prop} {s : Shared}
/-- the new list S is filled from the iterator at it -/
theorem fill_rev {S it l : Addr} {items : Array Value} {c₀ : Nat} (hh : A.handled = none) (hit : s.heap.IsRevIter it l ((items.size : Int) - 1)) (hl : s.heap.IsList l items) (hne : l ≠ it) (hn : items.size ≤ sizeLine) (hSi : S ≠ it) (hSl : S ≠ l)
    (hS : s.heap.get? S = some { cls := .type "list", data := .seq #[] c₀ })
    (hR : ∀ (s' : Shared) (acc : Array Value) (c' : Nat), s'.gens = s.gens → s'.drawn = s.drawn → s'.os = s.os → (∀ b o, b ≠ it → b ≠ S → s.heap.get? b = some o → s'.heap.get? b = some o) → s'.heap.get? S = some { cls := .type "list", dict := none, data := .seq acc c', slots := #[] } →
      ItemsOf (fun i v => items[items.size - 1 - i]? = some v) acc items.size → R (.ok (.ret .none)) s') :
    wpAny (model prog w) A.in1 (Builtin.List.listExtendWith (.ref S) (.ref it) .none)
      (fun fin s' => match fin with | .done f => R (.ok f) s' | .again c' => c'.quiet = true ∧ codeAny (model prog w) A c' R s') (fun e s' => R (.error e) s') s := by
  have W := (Walks.listRev (prog := prog) (w := w) (A := A.in1) hh it l hne items).toS
  have hSf : S ∉ [it, l] := by simp only [List.mem_cons, List.not_mem_nil, or_false, not_or]; exact ⟨hSi, hSl⟩
  have hT : s.TypeIs (.ref it) "list_reverseiterator" := hit.typeIs
  have same : Builtin.List.listSameRef (.ref S) (.ref it) = false := by simp [Builtin.List.listSameRef, hSi]
  unfold Builtin.List.listExtendWith
  refine wpAny_bind (wpAny_typeOf hT ?_)
  rw [if_neg (by rw [same]; decide)]
  refine wpAny_bind (wpAny_pyIter_revIter hit ?_)
  refine wpAny_bind (wpAny_holding ?_)
  unfold Builtin.List.listLengthHint
  refine wpAny_bind (wpAny_specialOf hT nolen_lri ?_)
  show wpAny _ A.in1 (specialOf (Value.ref it) (Str.ofString "__length_hint__") >>= _) _ _ _
  refine wpAny_bind (wpAny_specialOf hT hint_lri ?_)
  generalize hid : ("list_reverseiterator.__length_hint__" : String) = id0
  wp_delta
  rw [show splitId id0 = some ("list_reverseiterator", "__length_hint__") from by subst hid; decide +kernel]
  subst hid
  refine wpAny_bind (wpAny_isInstance (b := true) hT (by rw [isSubtype_type]; kernel_rfl) ?_)
  refine wpAny_pure ?_
  rw [if_neg (by decide)]
  have e0 : ((items.size : Nat) : Int) - 1 - ((0 : Nat) : Int) = (items.size : Int) - 1 := by omega
  refine wpAny_pure ⟨plainId_quiet F.plain_extend_loop _, codeAny_extend_loopS W hn _ hSf _ items.size 0 _ _ _ rfl (Nat.zero_le _) ⟨Nat.zero_le _, by rw [e0]; exact hit, hl⟩ hS (ItemsOf.nil _) fun s' acc' c' hm hS' hacc => ?_⟩
  have em := Moved.eq_with hm
  refine hR s' acc' c' (by rw [em]) (by rw [em]) (by rw [em]) (fun b o h1 h2 e => hm.heap b o (fun hmem => ?_) e) hS' hacc
  rcases List.mem_cons.mp hmem with e' | hmem
  · exact h2 e'
  · exact h1 (List.mem_singleton.mp hmem)
theorem init_rev {S it l : Addr} {items : Array Value} (hh : A.handled = none) (hit : s.heap.IsRevIter it l ((items.size : Int) - 1)) (hl : s.heap.IsList l items) (hne : l ≠ it) (hn : items.size ≤ sizeLine) (hSi : S ≠ it) (hSl : S ≠ l)
    (hS : s.heap.get? S = some { cls := .type "list", data := .seq #[] })
    (hR : ∀ (s' : Shared) (acc : Array Value) (c' : Nat), s'.gens = s.gens → s'.drawn = s.drawn → s'.os = s.os → (∀ b o, b ≠ it → b ≠ S → s.heap.get? b = some o → s'.heap.get? b = some o) → s'.heap.get? S = some { cls := .type "list", dict := none, data := .seq acc c', slots := #[] } →
      ItemsOf (fun i v => items[items.size - 1 - i]? = some v) acc items.size → R (.ok (.ret .none)) s') :
    wpAny (model prog w) A.in1 (Builtin.«list.__init__» ⟨[.ref S, .ref it], []⟩)
      (fun fin s' => match fin with | .done f => R (.ok f) s' | .again c' => c'.quiet = true ∧ codeAny (model prog w) A c' R s') (fun e s' => R (.error e) s') s := by
  show wpAny _ A.in1 (do let was ← Builtin.List.listItems (.ref S); Builtin.List.listUpdate (.ref S) (fun _ => #[]); letGo was.toList.reverse; Builtin.List.listExtendWith (.ref S) (.ref it) .none) _ _ s
  refine wpAny_bind ?_
  unfold Builtin.List.listItems
  refine wpAny_bind (wpAny_seqItems hS rfl (wpAny_pure ?_))
  show wpAny _ A.in1 (updateSeq S (fun _ => #[]) >>= fun _ => letGo (#[] : Array Value).toList.reverse >>= fun _ => Builtin.List.listExtendWith (.ref S) (.ref it) .none) _ _ s
  refine wpAny_bind (wpAny_updateSeq hS rfl ?_)
  have S2 := Heap.get?_update_self (Obj.mapSeq (fun _ => (#[] : Array Value))) hS rfl
  have rest : ∀ b o, b ≠ S → s.heap.get? b = some o → (s.heap.update S (Obj.mapSeq (fun _ => (#[] : Array Value)))).get? b = some o := fun b o hb e => (Heap.get?_update_other _ _ (Ne.symm hb)).trans e
  refine wpAny_bind (wpAny_letGo ?_)
  refine fill_rev hh (hit.at fun o e => rest it o (Ne.symm hSi) e) (hl.at fun o e => rest l o (Ne.symm hSl) e) hne hn hSi hSl S2 fun s' acc c' h1 h2 h3 h4 h5 h6 => ?_
  exact hR s' acc c' h1 h2 h3 (fun b o n1 n2 e => h4 b o n1 n2 (rest b o n2 e)) h5 h6
theorem call_list_rev {it l : Addr} {items : Array Value} {Q : Value → Shared → Prop} (hh : A.handled = none) (hit : s.heap.IsRevIter it l ((items.size : Int) - 1)) (hl : s.heap.IsList l items) (hne : l ≠ it) (hn : items.size ≤ sizeLine)
    (hQ : ∀ (s' : Shared) (acc : Array Value) (c' : Nat), s'.gens = s.gens → s'.drawn = s.drawn → s'.os = s.os → (∀ b o, b ≠ it → s.heap.get? b = some o → s'.heap.get? b = some o) → s'.heap.get? s.heap.objs.size = some { cls := .type "list", dict := none, data := .seq acc c', slots := #[] } →
      ItemsOf (fun i v => items[items.size - 1 - i]? = some v) acc items.size → Q (.ref s.heap.objs.size) s') :
    wpAny (model prog w) A (call (.type "list") [.ref it]) Q E s := by
  obtain ⟨oi, hoi, _⟩ := id hit
  obtain ⟨ol, hol, _⟩ := id hl
  have hSi : s.heap.objs.size ≠ it := Nat.ne_of_gt (Heap.lt_size hoi)
  have hSl : s.heap.objs.size ≠ l := Nat.ne_of_gt (Heap.lt_size hol)
  refine callType_codes (Q₁ := fun obj s₁ => obj = .ref s.heap.objs.size ∧ s₁ = { s with heap := s.heap.push { cls := .type "list", data := .seq #[] } }) F.called_list (F.typeCall_list_1 _) F.entry_list_init
    (code_list_new _ ⟨rfl, rfl⟩) fun obj s₁ h₁ => ?_
  obtain ⟨rfl, rfl⟩ := h₁
  have hS : (s.heap.push { cls := .type "list", data := .seq #[] }).get? s.heap.objs.size = some { cls := .type "list", data := .seq #[] } := Heap.get?_push_size _ rfl
  refine ⟨⟨_, hS, rfl⟩, F.args_list_init_2 _ _, init_rev (A := A.in1) hh (hit.at fun o e => Heap.get?_push_of_some _ e) (hl.push _) hne hn hSi hSl hS fun s' acc c' h1 h2 h3 h4 h5 h6 => ?_⟩
  exact ⟨rfl, hQ s' acc c' h1 h2 h3 (fun b o n e => h4 b o n (fun z => Nat.lt_irrefl _ (z ▸ Heap.lt_size e)) (Heap.get?_push_of_some _ e)) h5 h6⟩
end
end RT
namespace VB
open PySem PySem.Spec PyProof.Rows L2
section
variable {X : Cx} {K : PySem.W.Frag}
/-- list(reversed(e)), e a list -/
def tLstRev (K : PySem.W.Frag) (te : TE) : TE := fun σ H Q => te σ H fun v H1 => ∃ (a : Addr) (xs : List V), v = .ref a ∧ SqL K H1 a xs ∧ ∀ p, H1 p = none → Q (.ref p) (upd H1 p (.lst xs.reverse))
theorem pe_lstRev {e : Expr} {te : TE} {p p2 pos pos2 : Pos} (hc : X.calm = true) (hg : Gl X "list") (hm : X.mg "list" = none) (hg2 : Gl X "reversed") (hm2 : X.mg "reversed" = none) (he : PE X e te) (hK : X.K = K := by rfl)
    (hs : starEach [e] X.env = (false, eval e X.env) :: starEach [] X.env := by rfl)
    (hs2 : starEach [.Call (.Name "reversed" p2) [e] [] pos2] X.env = (false, eval (.Call (.Name "reversed" p2) [e] [] pos2) X.env) :: starEach [] X.env := by rfl) :
    PE X (.Call (.Name "list" p) [.Call (.Name "reversed" p2) [e] [] pos2] [] pos) (tLstRev K te) := by
  subst hK
  refine ⟨fun pins s σ H Q I h => ?_⟩
  refine Call_ (ld_blt I hg hm boot_list (PyProof.Rows.callWith_type1 (args_cons (Call_ (ld_blt I hg2 hm2 PyProof.Rows.boot_reversed (PyProof.Rows.callWith_type1 (args_cons (thn (he.run pins s σ H _ I h) fun u s1 hh => args_nil ?_) hs) hs rfl))) hs2) hs2 rfl))
  obtain ⟨v, H1, I1, r1, a, xs, ev, hq, q⟩ := hh
  subst ev
  obtain rfl : u = Value.ref a := r1
  obtain ⟨its, rv, pa, hz⟩ := I1.list hq
  refine call_reversed_list pa.isList (args_nil ?_)
  have k0 : ∀ b o, s1.heap.get? b = some o → (s1.heap.push (revObj a ((its.toArray.size : Int) - 1))).get? b = some o := fun b o e => Heap.get?_push_of_some _ e
  have I2 : Inv X pins σ H1 { s1 with heap := s1.heap.push (revObj a ((its.toArray.size : Int) - 1)) } := I1.kept (t' := s1.toks) k0
  obtain ⟨f0, f1, f2, f3, f4, f5⟩ := I1.fpOk (H' := H1) (b := s1.heap.objs.size) (Nat.le_refl _) (I1.hok.fresh (Nat.le_refl _))
  obtain ⟨ol, hol, _⟩ := id pa.isList
  have hne : a ≠ s1.heap.objs.size := Nat.ne_of_lt (Heap.lt_size hol)
  have hn : its.toArray.size ≤ sizeLine := by rw [List.size_toArray, ← rv.length]; exact hz
  refine RT.call_list_rev (s := { s1 with heap := s1.heap.push (revObj a ((its.toArray.size : Int) - 1)) }) (I1.ok.hd hc) ⟨_, Heap.get?_push_size _ rfl, rfl, rfl⟩ (pa.isList.push _) hne hn fun s' acc c' g1 g2 g3 hk hS hi => ?_
  obtain ⟨h', gn, dw, tk, os⟩ := s'
  dsimp only at g1 g2 g3 hk hS
  subst g1 g2 g3
  obtain ⟨G, m1, m2⟩ := restrict h' fun b => decide (b ≠ (s1.heap.push (revObj a ((its.toArray.size : Int) - 1))).objs.size)
  have gk : ∀ b, b ≠ (s1.heap.push (revObj a ((its.toArray.size : Int) - 1))).objs.size → G.get? b = h'.get? b := fun b hb => m1 b (decide_eq_true hb)
  have ge : G.get? (s1.heap.push (revObj a ((its.toArray.size : Int) - 1))).objs.size = none := m2 _ (by simp)
  have nS : ∀ {b : Addr} {o : Obj}, (s1.heap.push (revObj a ((its.toArray.size : Int) - 1))).get? b = some o → b ≠ (s1.heap.push (revObj a ((its.toArray.size : Int) - 1))).objs.size := fun z e => Nat.lt_irrefl _ (e ▸ Heap.lt_size z)
  have I3 : Inv X pins σ H1 ⟨G, s1.gens, s1.drawn, tk, s1.os⟩ := I2.turned (t' := tk) (fun b o hb z => by rw [gk b (nS z)]; exact hk b o hb z) f0 f1 f3 f4 f5
  have nH : H1 (s1.heap.push (revObj a ((its.toArray.size : Int) - 1))).objs.size = none := I2.hok.fresh (Nat.le_refl _)
  refine ⟨.ref (s1.heap.push (revObj a ((its.toArray.size : Int) - 1))).objs.size, upd H1 _ (.lst xs.reverse), ?_, rfl, q _ nH⟩
  refine Inv.laidN (s := ⟨G, s1.gens, s1.drawn, tk, s1.os⟩) (t' := tk) I3 (fun b u z => ?_) ge nH ⟨by rw [List.length_reverse]; exact hz, acc.toList, c', RT.vals_rev rv hi, ?_⟩
  · by_cases hb : b = (s1.heap.push (revObj a ((its.toArray.size : Int) - 1))).objs.size
    · rw [hb, ge] at z
      cases z
    · rw [← gk b hb]
      exact z
  · simpa using hS
end
end VB
namespace K07
open PySem PySem.Spec PyProof.Rows L2 VB BM
/-- the check less the zeros of the data; all 255 -/
def ovr (os : List Int) : Int := os.getD 30 0 - zc (bitsL (os.take 30))
def pln (os : List Int) : Bool := decide (os = List.replicate 31 255)
def dueD (os : List Int) : PyData := .list [.bool (pln os), .bool (decide (ovr os = 0)), .bool (!decide (ovr os = 0) && !pln os), if ovr os = 0 then DT (os.take 30) else .none, .int (ovr os)]
theorem get30 {os : List Int} (h : os.length = 31) : os[30]? = some (os.getD 30 0) := by
  obtain ⟨x, hx⟩ := get_lt (l := os) (i := 30) (by omega)
  rw [List.getD_eq_getElem?_getD, hx]
  rfl
theorem zc_bound (bs : List Int) : 0 ≤ zc bs ∧ zc bs ≤ (bs.length : Int) := by
  have h : bs.count 0 ≤ bs.length := List.count_le_length
  unfold zc
  omega
theorem ovr_bound {os : List Int} (o : Oct os) (h : os.length = 31) : -240 ≤ ovr os ∧ ovr os ≤ 255 := by
  have z := zc_bound (bitsL (os.take 30))
  have l := bitsL_len (os.take 30)
  rw [List.length_take] at l
  have c := o _ (List.mem_of_getElem? (get30 h))
  unfold ovr
  omega
theorem dec_int (x y : Int) : decide (V.int x = V.int y) = decide (x = y) := by
  by_cases h : x = y
  · subst h
    simp
  · rw [decide_eq_false h, decide_eq_false fun z => h (V.int.inj z)]
theorem shown_small : ∀ k : Nat, k < 512 → (PyData.int ((k : Int) - 256)).shown.length ≤ 4 := by decide +kernel
theorem sh_near {n : Int} (h : -256 ≤ n ∧ n < 256) : Sh (.int n) 0 4 := by
  have e : (((n + 256).toNat : Nat) : Int) - 256 = n := by omega
  have s := shown_small (n + 256).toNat (by omega)
  rw [e] at s
  refine ⟨?_, by simp only [PyData.depth]; exact Nat.le_refl _, s⟩
  simp only [PyData.showable, decide_eq_true_eq]
  by_cases z : n.natAbs = 0
  · rw [z]
    decide
  · exact (Nat.log2_lt z (k := 1920)).mpr (Nat.lt_of_lt_of_le (m := 2 ^ 14) (by omega) (Nat.pow_le_pow_right (by decide) (by decide)))
theorem sh_bool (b : Bool) : Sh (.bool b) 0 5 := by
  cases b <;> exact ⟨by decide, by decide, by decide⟩
theorem sh_none : Sh .none 0 4 := ⟨by decide, by decide, by decide⟩
theorem sm_take {xs : List Int} (h : Oct xs) (n : Nat) : Sm (xs.take n) := fun o ho => by
  have := h o (List.mem_of_mem_take ho)
  omega
theorem sh_due {os : List Int} (o : Oct os) (h : os.length = 31) : Sh (dueD os) 2 300000 := by
  have b := ovr_bound o h
  refine (sh_list (n := 5) (h := 1) (b := 40000) (fun d hd => ?_) (by simp)).le
  simp only [List.mem_cons, List.not_mem_nil, or_false] at hd
  rcases hd with rfl | rfl | rfl | rfl | rfl
  · exact (sh_bool _).le
  · exact (sh_bool _).le
  · exact (sh_bool _).le
  · split
    · exact sh_t (sm_take o 30) (by rw [List.length_take]; omega)
    · exact sh_none.le
  · exact (sh_near (by omega)).le
section
variable {P : Program} {w : World} {K : PySem.W.Frag} {mg : Str → Option Value} {base : Heap} {f : Addr} {fd : FuncData}
/-- the first so many -/
theorem Sv.first {t : Bool} {H : Hp} {a : Addr} {os : List Int} {n : Nat} {Q : VK} (S : Sv t K H a (IV os)) (hn : n < os.length) (q : ∀ p H', H p = none → Evl.Ex H H' → Sv t K H' p (IV (os.take n)) → Q (.ref p) H') : rSlU K (.ref a) none (some (n : Int)) H Q := by
  have ec : cutV (IV os) none (some (n : Int)) = IV (os.take n) := by
    unfold cutV
    rw [HT.sIx_nat, iv_len]
    have e2 : HT.sIx os.length 0 none = 0 := rfl
    rw [e2, List.drop_zero, ← List.map_take]
    congr 2
    omega
  cases t with
  | false =>
    refine .inl ⟨a, _, rfl, S, fun p np => ?_⟩
    rw [ec]
    exact q p _ np (Evl.Ex.new np) (Sv.lst upd_same)
  | true =>
    refine .inr (.inl ⟨a, _, rfl, S, ?_, fun p np => ?_⟩)
    · rintro ⟨_, h⟩
      rw [HT.sIx_nat, iv_len] at h
      omega
    · rw [ec]
      exact q p _ np (Evl.Ex.new np) (Sv.tup upd_same)
theorem Dp.ex {H H' : Hp} (e : Evl.Ex H H') : ∀ (d : PyData) (v : V), Dp K H v d → Dp K H' v d := by
  intro d v h
  induction h using Dp.rec (motive_2 := fun vs ds _ => DpAll K H' vs ds) with
  | non => exact .non
  | bl b => exact .bl b
  | int i => exact .int i
  | str x => exact .str x
  | lst s _ ih => exact .lst (Evl.ex_l e s) ih
  | tup s _ ih => exact .tup (Evl.ex_t e s) ih
  | nil => exact .nil
  | cons _ _ h1 h2 => exact .cons h1 h2
theorem Sv.tupU {H : Hp} {a : Addr} {xs : List V} {t : Bool} {Q : VK} (S : Sv t K H a xs) (q : ∀ p H', Evl.Ex H H' → SqT K H' p xs → Q (.ref p) H') : rTupU K [.ref a] H Q := by
  cases t with
  | false => exact ⟨a, xs, rfl, .inl ⟨S, fun l hl => q l _ (Evl.Ex.new hl) (SqT.of upd_same)⟩⟩
  | true => exact ⟨a, xs, rfl, .inr ⟨S, q a H (Evl.Ex.refl _) S⟩⟩
def spDue (K : PySem.W.Frag) : Sp := fun vs H Q _ => ∃ (a : Addr) (os : List Int) (t : Bool), vs = [.ref a] ∧ Sv t K H a (IV os) ∧ Oct os ∧ os.length = 31 ∧ ∀ (p : Addr) (H' : Hp), Evl.Ex H H' → Dp K H' (.ref p) (dueD os) → Q (.ref p) H'
theorem ok_ldue (T : Txt K mg) (F : FnP K "_law_due" s__law_due f fd) (C__law_zeros : Cal P w K mg base CX0 1 "_law_zeros" ["_law_octets"] (spLZ K)) : Fg P w K mg base CX0 2 f fd ["_law_page"] (spDue K) := by
  refine fg_of F sc__law_due (fun vs H Q E h => ?_) (fun cdv A outer s H vs Q E hr h => ⟨_, (PSs.nox (pss_cons (ps_par (i := 1) (j := 2) rfl sc__law_due.nd rfl rfl (by decide) rfl rfl (pa_cons (pe_op op_sub (pe_ix (u_ix (K := K)) (pv 0) pe_int (fun _ _ => rfl)) (pe_cal C__law_zeros hr.le pass0 (pa_cons (pe_slice (u_sl (K := K)) (pv 0) po_none (po_some pe_int)) pa_nil))) (pa_cons (pe_cmpR (u_eq (K := K) hr) (pe_callTy (u_list (K := K)) (by rfl) T.f_list (by decide +kernel) (pa_cons (pv 0) pa_nil)) (pe_op (u_mul (K := K)) (pe_lst (pa_cons pe_int pa_nil)) pe_int) (nomark _)) pa_nil)) (by rfl))
  (pss_one (ps_ret (pe_lst (pa_cons (pv 2) (pa_cons (pe_cmpR (u_eq (K := K) hr) (pv 1) pe_int (nomark _)) (pa_cons (pe_and (pe_cmpR (u_ne (K := K) hr) (pv 1) pe_int (nomark _)) (pe_one (pe_not (pv 2)))) (pa_cons (pe_ifExp (pt_cmpR (u_eq (K := K) hr) (pv 1) pe_int (nomark _)) (pe_callTy (u_tup (K := K)) (by rfl) T.f_tuple (by decide +kernel) (pa_cons (pe_slice (u_sl (K := K)) (pv 0) po_none (po_some pe_int)) pa_nil)) pe_non) (pa_cons (pv 1) pa_nil)))))))))), ?_⟩)
  · obtain ⟨a, os, t, rfl, _⟩ := h
    rfl
  · obtain ⟨a, os, t, rfl, S, oo, lo, q⟩ := h
    refine ⟨_, rfl, Sv.ix (x := .non) S (i := 30) (iv_at (i := 30) (get30 lo)) ⟨_, rfl, 30, rfl, Sv.first S (n := 30) (by omega) fun p H1 np e1 S1 => ⟨p, _, t, rfl, S1, by rw [List.length_take]; omega, fun H2 e2 => ⟨_, _, rfl, rfl, ?_⟩⟩⟩⟩
    have E2 := e1.trans e2
    refine ⟨_, rfl, a, _, rfl, (S.ex E2).either, fun l nl => ⟨by show 1 ≤ sizeLine; decide, fun l0 n0 => rep_l (k := 31) upd_same (by omega) (by omega) fun l1 n1 => ?_⟩⟩
    have x0 := Evl.Ex.new (o := .lst (IV os)) nl
    have x1 := Evl.Ex.new (o := .lst [V.int 255]) n0
    have x2 := Evl.Ex.new (o := .lst (IV (List.replicate (31 : Int).toNat 255))) n1
    refine .inr (req_l (SqL.of (x2 _ _ (x1 _ _ upd_same))) (SqL.of upd_same) ⟨_, _, rfl, ?_⟩)
    have E3 := ((E2.trans x0).trans x1).trans x2
    have S3 := S.ex E3
    generalize upd (upd (upd H2 l (.lst (IV os))) l0 (.lst [V.int 255])) l1 (.lst (IV (List.replicate (31 : Int).toNat 255))) = H3 at S3 E3 ⊢
    have ep : decide (os = List.replicate (31 : Int).toNat 255) = pln os := rfl
    have eo : (fun i j : Int => V.int (i - j)) (os.getD 30 0) (zc (bitsL (os.take 30))) = V.int (ovr os) := rfl
    rw [ep, eo]
    have fin : ∀ (v : V) (d : PyData) (H4 : Hp), Evl.Ex H3 H4 → Dp K H4 v d → d = (if ovr os = 0 then DT (os.take 30) else .none) → 5 ≤ sizeLine ∧ ∀ l, H4 l = none → Q (.ref l) (upd H4 l (.lst [.bl (pln os), .bl (decide (ovr os = 0)), .bl (!decide (ovr os = 0) && !pln os), v, .int (ovr os)])) := by
      intro v d H4 e4 hd ed
      refine ⟨by decide, fun l nl => ?_⟩
      have e5 := Evl.Ex.new (o := .lst [.bl (pln os), .bl (decide (ovr os = 0)), .bl (!decide (ovr os = 0) && !pln os), v, .int (ovr os)]) nl
      refine q l _ ((E3.trans e4).trans e5) (.lst (SqL.of upd_same) (.cons (.bl _) (.cons (.bl _) (.cons (.bl _) (.cons ?_ (.cons (.int _) .nil))))))
      rw [← ed]
      exact Dp.ex e5 _ _ hd
    refine ⟨_, rfl, _, rfl, .inl ⟨rfl, _, rfl, .inl ⟨rfl, _, rfl, ?_⟩⟩⟩
    rw [dec_int]
    by_cases z : ovr os = 0
    · have d1 : decide (ovr os = 0) = true := decide_eq_true z
      rw [d1] at fin ⊢
      refine iteF ⟨_, rfl, .inl ⟨rfl, _, rfl, if_eq (fun _ => ?_) (fun y => absurd z y)⟩⟩
      refine ⟨_, rfl, 30, rfl, Sv.first S3 (n := 30) (by omega) fun p H4 np e4 S4 => ?_⟩
      refine ⟨p, IV (os.take 30), rfl, ?_⟩
      cases t with
      | false => exact .inl ⟨S4, fun l nl => ⟨_, rfl, fin _ _ _ (e4.trans (Evl.Ex.new nl)) (dp_t (SqT.of upd_same)) (by rw [if_pos z])⟩⟩
      | true => exact .inr ⟨S4, ⟨_, rfl, fin _ _ _ e4 (dp_t S4) (by rw [if_pos z])⟩⟩
    · have d0 : decide (ovr os = 0) = false := decide_eq_false z
      rw [d0] at fin ⊢
      refine iteT ⟨_, rfl, _, rfl, _, rfl, .inl ⟨rfl, _, rfl, if_eq (fun y => absurd y z) (fun _ => ⟨_, rfl, ?_⟩)⟩⟩
      exact fin _ _ H3 (Evl.Ex.refl _) .non (by rw [if_neg z])
/-! ### what the program's defs promise -/
def spClean (K : PySem.W.Frag) : Sp := fun vs H Q _ => ∃ (a : Addr) (os : List Int) (t : Bool), vs = [.ref a] ∧ Sv t K H a (IV os) ∧ Oct os ∧ os.length = 31 ∧ RV (.bl (pln os)) H Q
def spWhole (K : PySem.W.Frag) : Sp := fun vs H Q _ => ∃ (a : Addr) (os : List Int) (t : Bool), vs = [.ref a] ∧ Sv t K H a (IV os) ∧ Oct os ∧ os.length = 31 ∧ RV (.bl (decide (ovr os = 0))) H Q
def spTorn (K : PySem.W.Frag) : Sp := fun vs H Q _ => ∃ (a : Addr) (os : List Int) (t : Bool), vs = [.ref a] ∧ Sv t K H a (IV os) ∧ Oct os ∧ os.length = 31 ∧ RV (.bl (!decide (ovr os = 0) && !pln os)) H Q
def spSurplus (K : PySem.W.Frag) : Sp := fun vs H Q _ => ∃ (a : Addr) (os : List Int) (t : Bool), vs = [.ref a] ∧ Sv t K H a (IV os) ∧ Oct os ∧ os.length = 31 ∧ RV (.int (ovr os)) H Q
def spDataOf (K : PySem.W.Frag) : Sp := fun vs H Q _ => ∃ (a : Addr) (os : List Int) (t : Bool), vs = [.ref a] ∧ Sv t K H a (IV os) ∧ Oct os ∧ os.length = 31 ∧ ∀ (v : V) (H' : Hp), Evl.Ex H H' → Dp K H' v (if ovr os = 0 then DT (os.take 30) else .none) → Q v H'
def spSealed (K : PySem.W.Frag) : Sp := fun vs H Q _ => ∃ (a : Addr) (os : List Int) (t : Bool), vs = [.ref a] ∧ Sv t K H a (IV os) ∧ Oct os ∧ os.length = 30 ∧ ∀ (p : Addr) (H' : Hp), Evl.Ex H H' → SqT K H' p (IV (os ++ [zc (bitsL os)])) → Q (.ref p) H'
def spTold7 (K : PySem.W.Frag) : Sp := fun vs H Q _ => ∃ (a : Addr) (os : List Int) (t : Bool) (turn : Int), vs = [.ref a, .int turn] ∧ Sv t K H a (IV os) ∧ Oct os ∧ os.length = 31 ∧ ∀ (p : Addr) (H' : Hp), Evl.Ex H H' → Dp K H' (.ref p) (dueD os) → Q (.ref p) H'
theorem ok_ltold (T : Txt K mg) (F : FnP K "_law_told" s__law_told f fd)
    (C_is_clean : Cal P w K mg base CX0 8 "is_clean" ["value"] (spClean K)) (C_is_whole : Cal P w K mg base CX0 8 "is_whole" ["value"] (spWhole K)) (C_is_torn : Cal P w K mg base CX0 8 "is_torn" ["value"] (spTorn K))
    (C_data_of : Cal P w K mg base CX0 8 "data_of" ["octets"] (spDataOf K)) (C_surplus : Cal P w K mg base CX0 8 "surplus" ["octets"] (spSurplus K))
    (CK_is_clean_0_value : CalK P w K mg base CX0 8 "is_clean" ["value"] 0 ["value"] g1 g1V (spClean K)) (CK_is_whole_0_value : CalK P w K mg base CX0 8 "is_whole" ["value"] 0 ["value"] g1 g1V (spWhole K))
    (CK_is_torn_0_value : CalK P w K mg base CX0 8 "is_torn" ["value"] 0 ["value"] g1 g1V (spTorn K)) (CK_data_of_0_octets : CalK P w K mg base CX0 8 "data_of" ["octets"] 0 ["octets"] g1 g1V (spDataOf K))
    (CK_surplus_0_octets : CalK P w K mg base CX0 8 "surplus" ["octets"] 0 ["octets"] g1 g1V (spSurplus K)) : Fg P w K mg base CX0 9 f fd ["_law_page", "_law_turn"] (spTold7 K) := by
  refine fg_of F sc__law_told (fun vs H Q E h => ?_) (fun cdv A outer s H vs Q E hr h => ⟨_, (PSs.nox (pss_cons (ps_if (pt_cmpR (u_eq (K := K) hr) (pv 1) pe_int (nomark _))
  (pss_one (ps_ret (pe_lst (pa_cons (pe_cal C_is_clean hr.le pass0 (pa_cons (pv 0) pa_nil)) (pa_cons (pe_cal C_is_whole hr.le pass0 (pa_cons (pv 0) pa_nil)) (pa_cons (pe_cal C_is_torn hr.le pass0 (pa_cons (pv 0) pa_nil)) (pa_cons (pe_cal C_data_of hr.le pass0 (pa_cons (pv 0) pa_nil)) (pa_cons (pe_cal C_surplus hr.le pass0 (pa_cons (pv 0) pa_nil)) pa_nil)))))))) pss_nil)
  (pss_cons (ps_set (i := 2) sc__law_told.nd rfl (by first | exact Or.inl rfl | exact Or.inr rfl) (pe_lst (pa_cons (pe_calk CK_surplus_0_octets hr.le pass0 (pk_cons (pv 0) pk_nil)) (pa_cons (pe_calk CK_data_of_0_octets hr.le pass0 (pk_cons (pv 0) pk_nil)) (pa_cons (pe_calk CK_is_torn_0_value hr.le pass0 (pk_cons (pv 0) pk_nil)) (pa_cons (pe_calk CK_is_whole_0_value hr.le pass0 (pk_cons (pv 0) pk_nil)) (pa_cons (pe_calk CK_is_clean_0_value hr.le pass0 (pk_cons (pv 0) pk_nil)) pa_nil)))))))
  (pss_one (ps_ret (pe_lstRev (K := K) rfl rfl T.f_list rfl T.f_reversed (pv 2))))))), ?_⟩)
  · obtain ⟨a, os, t, turn, rfl, _⟩ := h
    rfl
  · obtain ⟨a, os, t, turn, rfl, S, oo, lo, q⟩ := h
    refine ⟨_, rfl, .inl ⟨rfl, _, rfl, if_eq (fun _ => ?_) (fun _ => ?_)⟩⟩
    · refine ⟨_, rfl, a, os, t, rfl, S, oo, lo, fun H1 e1 => ⟨_, rfl, a, os, t, rfl, S.ex e1, oo, lo, fun H2 e2 => ?_⟩⟩
      have E2 := e1.trans e2
      refine ⟨_, rfl, a, os, t, rfl, S.ex E2, oo, lo, fun H3 e3 => ⟨_, rfl, a, os, t, rfl, S.ex (E2.trans e3), oo, lo, fun v H4 e4 d4 => ?_⟩⟩
      have E4 := (E2.trans e3).trans e4
      refine ⟨_, rfl, a, os, t, rfl, S.ex E4, oo, lo, fun H5 e5 => ⟨by show 5 ≤ sizeLine; decide, fun l nl => ?_⟩⟩
      have e6 := Evl.Ex.new (o := .lst [.bl (pln os), .bl (decide (ovr os = 0)), .bl (!decide (ovr os = 0) && !pln os), v, .int (ovr os)]) nl
      exact q l _ ((E4.trans e5).trans e6) (.lst (SqL.of upd_same) (.cons (.bl _) (.cons (.bl _) (.cons (.bl _) (.cons (Dp.ex (e5.trans e6) _ _ d4) (.cons (.int _) .nil))))))
    · refine ⟨_, rfl, rfl, rfl, a, os, t, rfl, S, oo, lo, fun H1 e1 => ⟨_, rfl, rfl, rfl, a, os, t, rfl, S.ex e1, oo, lo, fun v H2 e2 d2 => ?_⟩⟩
      have E2 := e1.trans e2
      refine ⟨_, rfl, rfl, rfl, a, os, t, rfl, S.ex E2, oo, lo, fun H3 e3 => ⟨_, rfl, rfl, rfl, a, os, t, rfl, S.ex (E2.trans e3), oo, lo, fun H4 e4 => ?_⟩⟩
      have E4 := (E2.trans e3).trans e4
      refine ⟨_, rfl, rfl, rfl, a, os, t, rfl, S.ex E4, oo, lo, fun H5 e5 => ⟨by show 5 ≤ sizeLine; decide, fun l nl => ?_⟩⟩
      have e6 := Evl.Ex.new (o := .lst [.int (ovr os), v, .bl (!decide (ovr os = 0) && !pln os), .bl (decide (ovr os = 0)), .bl (pln os)]) nl
      refine ⟨_, rfl, l, _, rfl, SqL.of upd_same, fun l2 nl2 => ?_⟩
      have e7 := Evl.Ex.new (o := .lst [.bl (pln os), .bl (decide (ovr os = 0)), .bl (!decide (ovr os = 0) && !pln os), v, .int (ovr os)]) nl2
      exact q l2 _ (((E4.trans e5).trans e6).trans e7) (.lst (SqL.of upd_same) (.cons (.bl _) (.cons (.bl _) (.cons (.bl _) (.cons (Dp.ex ((((e3.trans e4).trans e5).trans e6).trans e7) _ _ d2) (.cons (.int _) .nil))))))
/-! ### a page, and a seal -/
theorem Sv.rpr {H : Hp} {a : Addr} {os : List Int} {t : Bool} {Q : VK} (S : Sv t K H a (IV os)) (h : Sm os) (hl : os.length ≤ 6000) (q : Q (.str (if t then DT os else DL os).shown) H) : rRepr K [.ref a] H Q := by
  cases t with
  | false => exact rp_l S h hl q
  | true => exact rp_t S h hl q
def spPR (K : PySem.W.Frag) : Sp := fun vs H Q _ => ∃ (a : Addr) (os : List Int) (t : Bool) (turn : Int), vs = [.ref a, .int turn] ∧ Sv t K H a (IV os) ∧ Oct os ∧ os.length = 31 ∧ RV (.bl true) H Q
theorem ok_lpr (T : Txt K mg) (F : FnP K "_law_page_right" s__law_page_right f fd) (C__law_told : Cal P w K mg base CX0 9 "_law_told" ["_law_page", "_law_turn"] (spTold7 K)) (C__law_due : Cal P w K mg base CX0 2 "_law_due" ["_law_page"] (spDue K)) : Fg P w K mg base CX0 10 f fd ["_law_page", "_law_turn"] (spPR K) := by
  refine fg_of F sc__law_page_right (fun vs H Q E h => ?_) (fun cdv A outer s H vs Q E hr h => ⟨_, (PSs.nox (pss_cons (ps_set (i := 2) sc__law_page_right.nd rfl (by first | exact Or.inl rfl | exact Or.inr rfl) (pe_callB (u_repr (K := K) hr) (by rfl) T.f_repr (by decide +kernel) (pa_cons (pv 0) pa_nil)))
  (pss_one (ps_ret (pe_and (pe_cmpR (u_eq (K := K) hr) (pe_callB (u_repr (K := K) hr) (by rfl) T.f_repr (by decide +kernel) (pa_cons (pe_cal C__law_told hr.le pass0 (pa_cons (pv 0) (pa_cons (pv 1) pa_nil))) pa_nil)) (pe_callB (u_repr (K := K) hr) (by rfl) T.f_repr (by decide +kernel) (pa_cons (pe_cal C__law_due hr.le pass0 (pa_cons (pv 0) pa_nil)) pa_nil)) (nomark _)) (pe_one (pe_cmpR (u_eq (K := K) hr) (pe_callB (u_repr (K := K) hr) (by rfl) T.f_repr (by decide +kernel) (pa_cons (pv 0) pa_nil)) (pv 2) (nomark _)))))))), ?_⟩)
  · obtain ⟨a, os, t, turn, rfl, _⟩ := h
    rfl
  · obtain ⟨a, os, t, turn, rfl, S, oo, lo, q⟩ := h
    refine ⟨_, rfl, Sv.rpr S (sm_oct oo) (by omega) ?_⟩
    refine ⟨_, rfl, _, rfl, a, os, t, turn, rfl, S, oo, lo, fun p H1 e1 d1 => rp d1 (sh_due oo lo) ⟨_, rfl, a, os, t, rfl, S.ex e1, oo, lo, fun p2 H2 e2 d2 => rp d2 (sh_due oo lo) (.inl ⟨rfl, _, rfl, same_eq ?_⟩)⟩⟩
    exact ⟨_, rfl, Sv.rpr (S.ex (e1.trans e2)) (sm_oct oo) (by omega) ⟨_, rfl, .inl ⟨rfl, (by rw [decide_eq_true rfl]; exact q _ (e1.trans e2))⟩⟩⟩
/-- a handed list or tuple of octets -/
def spSR (K : PySem.W.Frag) : Sp := fun vs H Q _ => ∃ (a d : Addr) (os : List Int) (n : Int), vs = [.ref a, .ref d] ∧ Box H a n ∧ d ≠ a ∧ H d = some (.lst (IV os)) ∧ Oct os ∧ os.length = 30 ∧ n < 90000000 ∧ ∀ H' : Hp, Exb a H H' → Box H' a (n + 2) → Q (.bl true) H'
theorem ok_lsr (T : Txt K mg) (F : FnP K "_law_seal_right" s__law_seal_right f fd) (C__law_take : Cal P w K mg base CX0 1 "_law_take" ["_law_box_here", "_law_many"] spTake) (C__law_fitting : Cal P w K mg base CX0 2 "_law_fitting" ["_law_data_here"] (spFit K))
    (C_sealed : Cal P w K mg base CX0 8 "sealed" ["data"] (spSealed K)) (CK_sealed_0_data : CalK P w K mg base CX0 8 "sealed" ["data"] 0 ["data"] g1 g1V (spSealed K)) : Fg P w K mg base CX0 9 f fd ["_law_box_here", "_law_data_here"] (spSR K) := by
  refine fg_of F sc__law_seal_right (fun vs H Q E h => ?_) (fun cdv A outer s H vs Q E hr h => ⟨_, (PSs.nox (pss_cons (ps_set (i := 2) sc__law_seal_right.nd rfl (by first | exact Or.inl rfl | exact Or.inr rfl) (pe_ifExp (pt_cmpR (u_eq (K := K) hr) (pe_cal C__law_take hr.le pass0 (pa_cons (pv 0) (pa_cons pe_int pa_nil))) pe_int (nomark _)) (pe_callTy (u_list (K := K)) (by rfl) T.f_list (by decide +kernel) (pa_cons (pv 1) pa_nil)) (pe_callTy (u_tup (K := K)) (by rfl) T.f_tuple (by decide +kernel) (pa_cons (pv 1) pa_nil))))
  (pss_cons (ps_par (i := 3) (j := 4) rfl sc__law_seal_right.nd rfl rfl (by decide) rfl rfl (pa_cons (pe_callB (u_repr (K := K) hr) (by rfl) T.f_repr (by decide +kernel) (pa_cons (pv 2) pa_nil)) (pa_cons (pe_callB (u_repr (K := K) hr) (by rfl) T.f_repr (by decide +kernel) (pa_cons (pe_callTy (u_tup (K := K)) (by rfl) T.f_tuple (by decide +kernel) (pa_cons (pe_cal C__law_fitting hr.le pass0 (pa_cons (pv 1) pa_nil)) pa_nil)) pa_nil)) pa_nil)) (by rfl))
  (pss_cons (ps_set (i := 5) sc__law_seal_right.nd rfl (by first | exact Or.inl rfl | exact Or.inr rfl) (pe_ifExp (pt_cmpR (u_eq (K := K) hr) (pe_cal C__law_take hr.le pass0 (pa_cons (pv 0) (pa_cons pe_int pa_nil))) pe_int (nomark _)) (pe_cal C_sealed hr.le pass0 (pa_cons (pv 2) pa_nil)) (pe_calk CK_sealed_0_data hr.le pass0 (pk_cons (pv 2) pk_nil))))
  (pss_one (ps_ret (pe_and (pe_cmpR (u_eq (K := K) hr) (pe_callB (u_repr (K := K) hr) (by rfl) T.f_repr (by decide +kernel) (pa_cons (pv 5) pa_nil)) (pv 4) (nomark _)) (pe_and (pe_cmpR (u_eq (K := K) hr) (pe_callB (u_repr (K := K) hr) (by rfl) T.f_repr (by decide +kernel) (pa_cons (pv 2) pa_nil)) (pv 3) (nomark _)) (pe_one (pe_cmpR (u_eq (K := K) hr) (pe_callB (u_repr (K := K) hr) (by rfl) T.f_repr (by decide +kernel) (pa_cons (pe_cal C_sealed hr.le pass0 (pa_cons (pv 2) pa_nil)) pa_nil)) (pv 4) (nomark _))))))))))), ?_⟩)
  · obtain ⟨a, d, os, n, rfl, _⟩ := h
    rfl
  · obtain ⟨a, d, os, n, rfl, B, nd, hd, oo, lo, hn, q⟩ := h
    refine ⟨_, rfl, a, 2, n, rfl, B, by omega, by omega, by omega, fun r H1 r0 r1 e1 B1 => ?_⟩
    have hd1 := e1 d _ nd hd
    have due : ∀ (l : Addr) (t : Bool) (H2 : Hp), Exb a H H2 → Box H2 a (n + 1) → H2 d = some (.lst (IV os)) → Sv t K H2 l (IV os) → l ≠ a →
        tSeq (tPar 3 4 (tCons (tCB (rRepr K) (tCons (tVar 2) tNil)) (tCons (tCB (rRepr K) (tCons (tCB (rTupU K) (tCons (tCall (spFit K) [] E0 (tCons (tVar 1) tNil)) tNil)) tNil)) tNil)))
          (tSeq (tAsg (tIf (tTest (tOp (rEqU K) (tCall spTake [] E0 (tCons (tVar 0) (tCons (tC (.int 2)) tNil))) (tC (.int 0)))) (tCall (spSealed K) [] E0 (tCons (tVar 2) tNil)) (tCallN 0 [Str.ofString "data"].length (spSealed K) g1V E0 tNil (tCons (tVar 2) tNil))) (gName 5))
            (tRet (tAndV (tOp (rEqU K) (tCB (rRepr K) (tCons (tVar 5) tNil)) (tVar 4)) (tAndV (tOp (rEqU K) (tCB (rRepr K) (tCons (tVar 2) tNil)) (tVar 3)) (tOp (rEqU K) (tCB (rRepr K) (tCons (tCall (spSealed K) [] E0 (tCons (tVar 2) tNil)) tNil)) (tVar 4))))))
          { nx := fun x H' => Q V.non H', rt := Q } [some (.ref a), some (.ref d), some (.ref l), none, none, none] H2 := by
      intro l t H2 e2 B2 hd2 S2 la
      have sm1 : Sm (os ++ [zc (bitsL os)]) := by
        intro o ho
        rcases List.mem_append.mp ho with z | z
        · exact sm_oct oo o z
        · have e : o = zc (bitsL os) := by simpa using z
          have b := zc_bound (bitsL os)
          rw [bitsL_len] at b
          omega
      have l31 : (os ++ [zc (bitsL os)]).length ≤ 6000 := by simp; omega
      refine ⟨_, rfl, Sv.rpr S2 (sm_oct oo) (by omega) ?_⟩
      refine ⟨_, rfl, d, os, false, rfl, Sv.lst hd2, by omega, fun p H3 np e3 hp => ⟨p, _, rfl, .inl ⟨SqL.of hp, fun p2 np2 => ?_⟩⟩⟩
      have e4 := Evl.Ex.new (o := .tup (IV (os ++ [zc (bitsL os)]))) np2
      refine rp_t (SqT.of upd_same) sm1 l31 ⟨_, _, rfl, ?_⟩
      have E4 := e2.trans (Exb.of (e3.trans e4))
      have B4 := B2.ex (e3.trans e4)
      have S4 := S2.ex (e3.trans e4)
      generalize upd H3 p2 (.tup (IV (os ++ [zc (bitsL os)]))) = H4 at E4 B4 S4
      refine ⟨_, rfl, a, 2, n + 1, rfl, B4, by omega, by omega, by omega, fun r H5 r0 r1 e5 B5 => .inl ⟨rfl, _, rfl, ?_⟩⟩
      have S5 : Sv t K H5 l (IV os) := by
        cases t with
        | false =>
          rcases (show SqL K H4 l (IV os) from S4) with (h | ⟨o, h⟩) | h
          · exact .inl (.inl (e5 l _ la h))
          · exact .inl (.inr ⟨o, e5 l _ la h⟩)
          · exact .inr h
        | true =>
          rcases (show SqT K H4 l (IV os) from S4) with (h | ⟨o, h⟩) | h
          · exact .inl (.inl (e5 l _ la h))
          · exact .inl (.inr ⟨o, e5 l _ la h⟩)
          · exact .inr h
      have rest : ∀ (p : Addr) (H' : Hp), Evl.Ex H5 H' → SqT K H' p (IV (os ++ [zc (bitsL os)])) →
          gName 5 (.ref p) [some (.ref a), some (.ref d), some (.ref l), some (.str (if t then DT os else DL os).shown), some (.str (DT (os ++ [zc (bitsL os)])).shown), none] H' fun σ' H2 =>
            tRet (tAndV (tOp (rEqU K) (tCB (rRepr K) (tCons (tVar 5) tNil)) (tVar 4)) (tAndV (tOp (rEqU K) (tCB (rRepr K) (tCons (tVar 2) tNil)) (tVar 3)) (tOp (rEqU K) (tCB (rRepr K) (tCons (tCall (spSealed K) [] E0 (tCons (tVar 2) tNil)) tNil)) (tVar 4))))
              { nx := fun x H' => Q V.non H', rt := Q } σ' H2 := by
        intro p3 H6 e6 h6
        refine ⟨_, rfl, rp_t h6 sm1 l31 ⟨_, rfl, .inl ⟨rfl, _, rfl, same_eq ?_⟩⟩⟩
        refine ⟨_, rfl, Sv.rpr (S5.ex e6) (sm_oct oo) (by omega) ⟨_, rfl, .inl ⟨rfl, _, rfl, same_eq ?_⟩⟩⟩
        refine ⟨_, rfl, l, os, t, rfl, S5.ex e6, oo, lo, fun p4 H7 e7 h7 => rp_t h7 sm1 l31 ⟨_, rfl, .inl ⟨rfl, ?_⟩⟩⟩
        rw [decide_eq_true rfl]
        exact q H7 ((E4.trans e5).trans (Exb.of (e6.trans e7))) ((B5.ex (e6.trans e7)).le (by omega))
      exact if_eq (fun _ => ⟨_, rfl, l, os, t, rfl, S5, oo, lo, fun p H' e h => rest p H' e h⟩) (fun _ => ⟨_, rfl, rfl, rfl, l, os, t, rfl, S5, oo, lo, fun p H' e h => rest p H' e h⟩)
    refine .inl ⟨rfl, _, rfl, if_eq (fun _ => ?_) (fun _ => ?_)⟩
    · refine ⟨_, rfl, d, _, rfl, .inl (SqL.of hd1), fun l nl => ?_⟩
      have x := Evl.Ex.new (o := .lst (IV os)) nl
      exact due l false _ (e1.trans (Exb.of x)) (B1.ex x) (x _ _ hd1) (Sv.lst upd_same) (B1.at nl)
    · refine ⟨_, rfl, d, _, rfl, .inl ⟨SqL.of hd1, fun l nl => ?_⟩⟩
      have x := Evl.Ex.new (o := .tup (IV os)) nl
      exact due l true _ (e1.trans (Exb.of x)) (B1.ex x) (x _ _ hd1) (Sv.tup upd_same) (B1.at nl)
end
end K07
namespace K07
open PySem PySem.Spec PyProof.Rows L2 VB BM
/-- at q: a page, a list -/
def PageAt (H : Hp) (a q : Addr) : Prop := ∃ ys : List Int, Oct ys ∧ ys.length = 31 ∧ q ≠ a ∧ H q = some (.lst (IV ys))
theorem PageAt.exb {H H' : Hp} {a q : Addr} (h : PageAt H a q) (e : Exb a H H') : PageAt H' a q := by
  obtain ⟨ys, o, l, n, h⟩ := h
  exact ⟨ys, o, l, n, e q _ n h⟩
theorem iv_ref {ys : List Int} {p : Addr} {r : List V} (h : IV ys = V.ref p :: r) : False := by
  cases ys with
  | nil => cases h
  | cons y ys =>
    have := (List.cons.inj h).1
    cases this
theorem PageAt.ref {H : Hp} {a q l p : Addr} {r : List V} {o : HO} (h : PageAt H a q) (hl : H l = some (.lst (V.ref p :: r))) : PageAt (upd H l o) a q := by
  obtain ⟨ys, oy, ly, n, h⟩ := h
  have hq : q ≠ l := by
    rintro rfl
    rw [hl] at h
    have := Option.some.inj h
    injection this with e
    exact iv_ref e.symm
  exact ⟨ys, oy, ly, n, by rw [upd_ne hq]; exact h⟩
theorem oct_fit {os : List Int} (h : Oct os) (l : os.length = 30) : Oct (os ++ [zc (bitsL os)]) := by
  have b := zc_bound (bitsL os)
  rw [bitsL_len] at b
  exact oct_snoc h b.1 (by omega)
/-- so many pages, listed at l -/
structure Pgs (H0 H : Hp) (a l : Addr) (n : Int) (c : Nat) (ps : List Addr) : Prop where
  at_ : H l = some (.lst (ps.map V.ref))
  cnt : ps.length = c
  pg : ∀ q ∈ ps, PageAt H a q
  far : Exb a H0 H
  box : Box H a n
  la : l ≠ a
  new : H0 l = none
theorem Pgs.app {H0 H H' : Hp} {a l q : Addr} {n m : Int} {c : Nat} {ps : List Addr} (p : Pgs H0 H a l n (c + 1) ps) (e : Exb a H H') (B : Box H' a m) (hq : PageAt H' a q) : H' l = some (.lst (ps.map V.ref)) ∧ Pgs H0 (upd H' l (.lst (ps.map V.ref ++ [V.ref q]))) a l m (c + 2) (ps ++ [q]) := by
  have hl := e l _ p.la p.at_
  obtain ⟨p0, r, hp⟩ : ∃ p0 r, ps = p0 :: r := by
    cases hp : ps with
    | nil =>
      have := p.cnt
      rw [hp] at this
      cases this
    | cons p0 r => exact ⟨p0, r, rfl⟩
  refine ⟨hl, ?_, by rw [List.length_append, p.cnt]; rfl, ?_, Exb.mut (p.far.trans e) p.new, Box.mut B p.la, p.la, p.new⟩
  · rw [upd_same, List.map_append]
    rfl
  · intro q' hq'
    have hl' : H' l = some (.lst (V.ref p0 :: r.map V.ref)) := by rw [hl, hp]; rfl
    rcases List.mem_append.mp hq' with z | z
    · exact ((p.pg q' z).exb e).ref hl'
    · have : q' = q := by simpa using z
      rw [this]
      exact hq.ref hl'
section
variable {P : Program} {w : World} {K : PySem.W.Frag} {mg : Str → Option Value} {base : Heap} {f : Addr} {fd : FuncData}
/-- [o] * c + [u] -/
def spPgs : Sp := fun vs H Q _ => ∃ (a d : Addr) (os : List Int) (n : Int), vs = [.ref a, .ref d] ∧ Box H a n ∧ d ≠ a ∧ H d = some (.lst (IV os)) ∧ Oct os ∧ os.length = 30 ∧ n < 70000000 ∧
  ∀ (p : Addr) (H' : Hp) (ps : List Addr), ps.length = 8 → (∀ q ∈ ps, PageAt H' a q) → Exb a H H' → Box H' a (n + 120) → H' p = some (.lst (ps.map V.ref)) → p ≠ a → Q (.ref p) H'
theorem ok_lpages (T : Txt K mg) (F : FnP K "_law_pages" s__law_pages f fd) (C__law_take : Cal P w K mg base CX0 1 "_law_take" ["_law_box_here", "_law_many"] spTake) (C__law_fitting : Cal P w K mg base CX0 2 "_law_fitting" ["_law_data_here"] (spFit K))
    (C__law_turned : Cal P w K mg base CX0 1 "_law_turned" ["_law_page", "_law_bit"] (spLT K)) (C__law_many_turned : Cal P w K mg base CX0 2 "_law_many_turned" ["_law_box_here", "_law_page", "_law_most"] (spMT K)) (C__law_drawn : Cal P w K mg base CX0 2 "_law_drawn" ["_law_box_here", "_law_count"] spLD) :
    Fg P w K mg base CX0 3 f fd ["_law_box_here", "_law_data_here"] spPgs := by
  refine fg_of F sc__law_pages (fun vs H Q E h => ?_) (fun cdv A outer s H vs Q E hr h => ⟨_, (PSs.nox (pss_cons (ps_set (i := 2) sc__law_pages.nd rfl (by first | exact Or.inl rfl | exact Or.inr rfl) (pe_cal C__law_fitting hr.le pass0 (pa_cons (pv 1) pa_nil)))
  (pss_cons (ps_set (i := 3) sc__law_pages.nd rfl (by first | exact Or.inl rfl | exact Or.inr rfl) (pe_op u_mod (pe_callTy call_int1 (by rfl) T.f_int (by decide +kernel) (pa_cons (pe_op (u_add (K := K)) (pe_ix (u_ix (K := K)) (pv 2) pe_int (fun _ _ => rfl)) (pe_ix (u_ix (K := K)) (pe_lst (pa_cons pe_int (pa_cons pe_int (pa_cons pe_int (pa_cons pe_int (pa_cons pe_int (pa_cons pe_int pa_nil))))))) (pe_cal C__law_take hr.le pass0 (pa_cons (pv 0) (pa_cons pe_int pa_nil))) (fun _ _ => rfl))) pa_nil)) pe_int))
  (pss_cons (ps_set (i := 4) sc__law_pages.nd rfl (by first | exact Or.inl rfl | exact Or.inr rfl) (pe_lst (pa_cons (pv 2) (pa_cons (pe_op (u_mul (K := K)) (pe_lst (pa_cons pe_int pa_nil)) pe_int) (pa_cons (pe_cal C__law_turned hr.le pass0 (pa_cons (pv 2) (pa_cons (pe_cal C__law_take hr.le pass0 (pa_cons (pv 0) (pa_cons pe_int pa_nil))) pa_nil))) (pa_cons (pe_op (u_add (K := K)) (pv 1) (pe_lst (pa_cons (pv 3) pa_nil))) pa_nil))))))
  (pss_cons (ps_expr (pe_bm PySem.F.plainAttrs_list PySem.F.slot_list_append PySem.F.type_list_append mt_append (pv 4) (pa_cons (pe_cal C__law_fitting hr.le pass0 (pa_cons (pe_cal C__law_turned hr.le pass0 (pa_cons (pv 1) (pa_cons (pe_cal C__law_take hr.le pass0 (pa_cons (pv 0) (pa_cons pe_int pa_nil))) pa_nil))) pa_nil)) pa_nil)))
  (pss_cons (ps_expr (pe_bm PySem.F.plainAttrs_list PySem.F.slot_list_append PySem.F.type_list_append mt_append (pv 4) (pa_cons (pe_cal C__law_many_turned hr.le pass0 (pa_cons (pv 0) (pa_cons (pv 2) (pa_cons pe_int pa_nil)))) pa_nil)))
  (pss_cons (ps_expr (pe_bm PySem.F.plainAttrs_list PySem.F.slot_list_append PySem.F.type_list_append mt_append (pv 4) (pa_cons (pe_cal C__law_turned hr.le pass0 (pa_cons (pe_op (u_mul (K := K)) (pe_lst (pa_cons pe_int pa_nil)) pe_int) (pa_cons (pe_cal C__law_take hr.le pass0 (pa_cons (pv 0) (pa_cons pe_int pa_nil))) pa_nil))) pa_nil)))
  (pss_cons (ps_expr (pe_bm PySem.F.plainAttrs_list PySem.F.slot_list_append PySem.F.type_list_append mt_append (pv 4) (pa_cons (pe_ix (u_ix (K := K)) (pe_lst (pa_cons (pe_cal C__law_drawn hr.le pass0 (pa_cons (pv 0) (pa_cons pe_int pa_nil))) (pa_cons (pe_op (u_add (K := K)) (pe_op (u_mul (K := K)) (pe_lst (pa_cons pe_int pa_nil)) pe_int) (pe_lst (pa_cons pe_int pa_nil))) (pa_cons (pe_op (u_mul (K := K)) (pe_lst (pa_cons pe_int pa_nil)) pe_int) (pa_cons (pe_op (u_add (K := K)) (pe_op (u_mul (K := K)) (pe_lst (pa_cons pe_int pa_nil)) pe_int) (pe_lst (pa_cons pe_int pa_nil))) pa_nil))))) (pe_cal C__law_take hr.le pass0 (pa_cons (pv 0) (pa_cons pe_int pa_nil))) (fun _ _ => rfl)) pa_nil)))
  (pss_cons (ps_set (i := 5) sc__law_pages.nd rfl (by first | exact Or.inl rfl | exact Or.inr rfl) (pe_cal C__law_take hr.le pass0 (pa_cons (pv 0) (pa_cons (pe_callB (u_len (K := K)) (by rfl) T.f_len (by decide +kernel) (pa_cons (pv 4) pa_nil)) pa_nil))))
  (pss_one (ps_ret (pe_op (u_add (K := K)) (pe_slice (u_sl (K := K)) (pv 4) (po_some (pv 5)) po_none) (pe_slice (u_sl (K := K)) (pv 4) po_none (po_some (pv 5))))))))))))))), ?_⟩)
  · obtain ⟨a, d, os, n, rfl, _⟩ := h
    rfl
  · obtain ⟨a, d, os, n, rfl, B, nd, hd, oo, lo, hn, q⟩ := h
    have n256 : (0 : Int) < 256 := by decide
    have opg := oct_fit oo lo
    refine ⟨_, rfl, d, os, false, rfl, Sv.lst hd, by omega, fun pg H1 np e1 hpg => ?_⟩
    have lpg : (os ++ [zc (bitsL os)]).length = 31 := by simp [lo]
    have B1 := B.ex e1
    have npa := B.at np
    -- the check
    refine ⟨_, rfl, Sv.ix (x := .non) (Sv.lst hpg) (i := 30) (iv_at (i := 30) (get30 lpg)) ⟨by show 6 ≤ sizeLine; decide, fun l6 n6 => ?_⟩⟩
    have x6 := Evl.Ex.new (o := .lst [V.int 1, .int 255, .int 2, .int 128, .int 16, .int 240]) n6
    refine ⟨_, rfl, a, 6, n, rfl, B1.ex x6, by omega, by omega, by omega, fun r1 H2 q0 q1 e2 B2 => ?_⟩
    obtain ⟨u, u0, u1, hu⟩ := pick (xs := [1, 255, 2, 128, 16, 240]) (octs (by decide)) q0 (by simpa using q1)
    refine .inl ⟨l6, _, _, _, rfl, rfl, SqL.of (e2 l6 _ (B1.at n6) upd_same), hu, .inl ⟨_, _, rfl, rfl, .inl ⟨_, rfl, _, _, rfl, rfl, n256, ?_⟩⟩⟩
    dsimp only
    obtain ⟨ck, hck⟩ : ∃ ck, ck = ((os ++ [zc (bitsL os)]).getD 30 0 + u) % 256 := ⟨_, rfl⟩
    have ckb : 0 ≤ ck ∧ ck ≤ 255 := by omega
    rw [← hck]
    have E2 : Exb a H H2 := (Exb.of (e1.trans x6)).trans e2
    have hpg2 := e2 pg _ npa (x6 pg _ hpg)
    have hd2 := e2 d _ nd (x6 d _ (e1 d _ hd))
    clear hu hck
    -- the first four
    refine ⟨_, rfl, by show 1 ≤ sizeLine; decide, fun l7 n7 => rep_l (k := 31) upd_same (by omega) (by omega) fun l8 n8 => ?_⟩
    have x8 := (Evl.Ex.new (o := .lst [V.int 255]) n7).trans (Evl.Ex.new (o := .lst (IV (List.replicate (31 : Int).toNat 255))) n8)
    have h8 := upd_same (H := upd H2 l7 (.lst [V.int 255])) (a := l8) (o := .lst (IV (List.replicate (31 : Int).toNat 255)))
    have B3 := B2.ex x8
    have a8 := B2.at (Evl.fresh_back (Evl.Ex.new (o := .lst [V.int 255]) n7) n8)
    generalize upd (upd H2 l7 (.lst [V.int 255])) l8 (.lst (IV (List.replicate (31 : Int).toNat 255))) = H3 at x8 h8 B3 ⊢
    refine ⟨_, rfl, _, rfl, a, 248, n + 1, rfl, B3, by omega, by omega, by omega, fun r2 H4 q2 q3 e4 B4 => ?_⟩
    obtain ⟨k, rfl⟩ : ∃ k : Nat, r2 = k := ⟨r2.toNat, by omega⟩
    have hpg4 := e4 pg _ npa (x8 _ _ hpg2)
    refine ⟨pg, _, false, k, rfl, Sv.lst hpg4, opg, by omega, by omega, fun tp H5 ys oy ly nt e5 htp => ?_⟩
    have at5 := B4.at nt
    refine ⟨_, rfl, _, rfl, by show 1 ≤ sizeLine; decide, fun l9 n9 => ?_⟩
    have hd5 := e5 d _ (e4 d _ nd (x8 _ _ hd2))
    refine cat_l (xs := os) (ys := [ck]) (by rw [upd_ne (ne_of_none hd5 n9)]; exact hd5) upd_same (by simp; omega) fun l10 n10 => ⟨by show 4 ≤ sizeLine; decide, fun fl nf => ?_⟩
    have x9 := Evl.Ex.new (o := .lst [V.int ck]) n9
    have x10 := Evl.Ex.new (o := .lst (IV (os ++ [ck]))) n10
    have xf := Evl.Ex.new (o := .lst [V.ref pg, .ref l8, .ref tp, .ref l10]) nf
    have B5 := B4.ex e5
    have a10 := B5.at (Evl.fresh_back x9 n10)
    have X := (x9.trans x10).trans xf
    have afl := B5.at (Evl.fresh_back (x9.trans x10) nf)
    have E5 := (((E2.trans (Exb.of x8)).trans e4).trans (Exb.of e5))
    have G4 : Pgs H (upd (upd (upd H5 l9 (.lst [V.int ck])) l10 (.lst (IV (os ++ [ck])))) fl (.lst [V.ref pg, .ref l8, .ref tp, .ref l10])) a fl (n + 2) 4 [pg, l8, tp, l10] := by
      refine ⟨upd_same, rfl, ?_, E5.trans (Exb.of X), (B5.ex X).le (by omega), afl, Exb.fresh E5 (Evl.fresh_back (x9.trans x10) nf) afl⟩
      intro q' hq'
      simp only [List.mem_cons, List.not_mem_nil, or_false] at hq'
      rcases hq' with rfl | rfl | rfl | rfl
      · exact ⟨_, opg, lpg, npa, X _ _ (e5 _ _ hpg4)⟩
      · exact ⟨_, oct_rep (by omega), by rw [List.length_replicate]; rfl, a8, X _ _ (e5 _ _ (e4 _ _ a8 h8))⟩
      · exact ⟨_, oy, by omega, at5, X _ _ htp⟩
      · exact ⟨_, oct_snoc oo ckb.1 ckb.2, by simp [lo], a10, xf _ _ upd_same⟩
    have hd6 := X _ _ hd5
    have hpg6 := X _ _ (e5 _ _ hpg4)
    generalize upd (upd (upd H5 l9 (.lst [V.int ck])) l10 (.lst (IV (os ++ [ck])))) fl (.lst [V.ref pg, .ref l8, .ref tp, .ref l10]) = H6 at G4 hd6 hpg6 ⊢
    clear X x9 x10 xf nf n10 n9 hd5 htp hpg4 h8 E5 E2 a10 at5 a8 afl e5 e4 nt x8 hpg2 hd2 B5 B4 B3 n7 n8 hpg e1 x6 n6 np
    -- three more
    refine ⟨_, rfl, .inl ⟨rfl, _, SqL.of G4.at_⟩, _, rfl, _, rfl, a, 240, n + 2, rfl, G4.box, by omega, by omega, by omega, fun r3 H7 q4 q5 e7 B7 => ?_⟩
    obtain ⟨k, rfl⟩ : ∃ k : Nat, r3 = k := ⟨r3.toNat, by omega⟩
    refine ⟨d, os, false, k, rfl, Sv.lst (e7 d _ nd hd6), oo, by omega, by omega, fun p7 H8 ys oy ly np7 e8 hp7 => ⟨p7, ys, false, rfl, Sv.lst hp7, by omega, fun p8 H9 np8 e9 hp8 => ?_⟩⟩
    have B9 := B7.ex (e8.trans e9)
    have F9 := e7.trans (Exb.of (e8.trans e9))
    have P9 : PageAt H9 a p8 := ⟨_, oct_fit oy (by omega), by simp; omega, (B7.ex e8).at np8, hp8⟩
    obtain ⟨hf9, G5⟩ := G4.app F9 B9 P9
    refine ⟨fl, _, _, rfl, rfl, hf9, by rw [List.length_map, G4.cnt]; exact Evl.sz_lt (by decide), ?_⟩
    generalize upd H9 fl (.lst (([pg, l8, tp, l10] : List Addr).map V.ref ++ [V.ref p8])) = H10 at G5 ⊢
    clear hf9 P9 F9 B9 hp8 np8 e9 hp7 np7 e8 e7 B7 G4 hd6 hpg6
    obtain ⟨zs, oz, lz, _, hz⟩ := G5.pg pg (by simp)
    refine ⟨_, rfl, .inl ⟨rfl, _, SqL.of G5.at_⟩, _, rfl, _, rfl, a, pg, zs, false, 6, n + 2 + 1, rfl, G5.box, Sv.lst hz, oz, lz, by omega, by omega, by omega, fun p11 H11 xs ox lx na11 np11 e11 B11 hp11 => ?_⟩
    obtain ⟨hf11, G6⟩ := G5.app e11 B11 ⟨xs, ox, lx, na11, hp11⟩
    refine ⟨fl, _, _, rfl, rfl, hf11, by rw [List.length_map, G5.cnt]; exact Evl.sz_lt (by decide), ?_⟩
    generalize upd H11 fl (.lst (([pg, l8, tp, l10] ++ [p8] : List Addr).map V.ref ++ [V.ref p11])) = H12 at G6 ⊢
    clear hf11 hp11 np11 e11 B11 G5 hz
    refine ⟨_, rfl, .inl ⟨rfl, _, SqL.of G6.at_⟩, by show 1 ≤ sizeLine; decide, fun m0 n0 => rep_l (k := 31) upd_same (by omega) (by omega) fun m1 n1 => ?_⟩
    have y0 := Evl.Ex.new (o := .lst [V.int 255]) n0
    have y1 := Evl.Ex.new (o := .lst (IV (List.replicate (31 : Int).toNat 255))) n1
    refine ⟨_, rfl, a, 248, n + 2 + 1 + 30, rfl, G6.box.ex (y0.trans y1), by omega, by omega, by omega, fun r4 H13 q6 q7 e13 B13 => ?_⟩
    obtain ⟨k4, rfl⟩ : ∃ k : Nat, r4 = k := ⟨r4.toNat, by omega⟩
    have am1 := G6.box.at (Evl.fresh_back y0 n1)
    have l31 : (List.replicate (31 : Int).toNat (255 : Int)).length = 31 := by rw [List.length_replicate]; rfl
    refine ⟨m1, _, false, k4, rfl, Sv.lst (e13 m1 _ am1 upd_same), oct_rep (by omega), by rw [l31]; omega, by rw [l31]; omega, fun p14 H14 ys2 oy2 ly2 np14 e14 hp14 => ?_⟩
    obtain ⟨hf14, G7⟩ := G6.app ((Exb.of (y0.trans y1)).trans (e13.trans (Exb.of e14))) (B13.ex e14) ⟨ys2, oy2, by rw [ly2]; exact l31, B13.at np14, hp14⟩
    refine ⟨fl, _, _, rfl, rfl, hf14, by rw [List.length_map, G6.cnt]; exact Evl.sz_lt (by decide), ?_⟩
    generalize upd H14 fl (.lst (([pg, l8, tp, l10] ++ [p8] ++ [p11] : List Addr).map V.ref ++ [V.ref p14])) = H15 at G7 ⊢
    clear hf14 hp14 np14 e14 e13 B13 G6 y0 y1 n0 n1 am1
    -- the last one
    refine ⟨_, rfl, .inl ⟨rfl, _, SqL.of G7.at_⟩, _, rfl, a, 31, n + 2 + 1 + 30 + 1, rfl, G7.box, by omega, by omega, fun s1 H16 ds od ld ad nd1 e16 B16 hds => ?_⟩
    refine ⟨by show 1 ≤ sizeLine; decide, fun s2 t2 => rep_l (k := 30) upd_same (by omega) (by omega) fun s3 t3 => ⟨by show 1 ≤ sizeLine; decide, fun s4 t4 => ?_⟩⟩
    have z2 := Evl.Ex.new (o := .lst [V.int 255]) t2
    have z3 := Evl.Ex.new (o := .lst (IV (List.replicate (30 : Int).toNat 255))) t3
    have z4 := Evl.Ex.new (o := .lst [V.int 0]) t4
    have r30 : ∀ o : Int, (List.replicate (30 : Int).toNat o).length = 30 := fun o => by rw [List.length_replicate]; rfl
    refine cat_l (xs := List.replicate (30 : Int).toNat 255) (ys := [0]) (z4 _ _ upd_same) upd_same (by rw [r30]; simp) fun s5 t5 => ?_
    have z5 := Evl.Ex.new (o := .lst (IV (List.replicate (30 : Int).toNat 255 ++ [0]))) t5
    have k5 := upd_same (H := upd (upd (upd H16 s2 (.lst [V.int 255])) s3 (.lst (IV (List.replicate (30 : Int).toNat 255)))) s4 (.lst [V.int 0])) (a := s5) (o := .lst (IV (List.replicate (30 : Int).toNat 255 ++ [0])))
    have Z5 := ((z2.trans z3).trans z4).trans z5
    have a5 := B16.at (Evl.fresh_back ((z2.trans z3).trans z4) t5)
    generalize upd (upd (upd (upd H16 s2 (.lst [V.int 255])) s3 (.lst (IV (List.replicate (30 : Int).toNat 255)))) s4 (.lst [V.int 0])) s5 (.lst (IV (List.replicate (30 : Int).toNat 255 ++ [0]))) = H17 at Z5 k5 ⊢
    clear z2 z3 z4 z5 t2 t3 t4 t5
    refine ⟨by show 1 ≤ sizeLine; decide, fun s6 t6 => rep_l (k := 31) upd_same (by omega) (by omega) fun s7 t7 => ?_⟩
    have z6 := Evl.Ex.new (o := .lst [V.int 0]) t6
    have z7 := Evl.Ex.new (o := .lst (IV (List.replicate (31 : Int).toNat 0))) t7
    have k7 := upd_same (H := upd H17 s6 (.lst [V.int 0])) (a := s7) (o := .lst (IV (List.replicate (31 : Int).toNat 0)))
    have Z7 := Z5.trans (z6.trans z7)
    have k5 := (z6.trans z7) _ _ k5
    have a7 := B16.at (Evl.fresh_back (Z5.trans z6) t7)
    generalize upd (upd H17 s6 (.lst [V.int 0])) s7 (.lst (IV (List.replicate (31 : Int).toNat 0))) = H18 at Z7 k5 k7 ⊢
    clear z6 z7 t6 t7 Z5
    refine ⟨by show 1 ≤ sizeLine; decide, fun s8 t8 => rep_l (k := 30) upd_same (by omega) (by omega) fun s9 t9 => ⟨by show 1 ≤ sizeLine; decide, fun s10 t10 => ?_⟩⟩
    have z8 := Evl.Ex.new (o := .lst [V.int 0]) t8
    have z9 := Evl.Ex.new (o := .lst (IV (List.replicate (30 : Int).toNat 0))) t9
    have z10 := Evl.Ex.new (o := .lst [V.int 255]) t10
    refine cat_l (xs := List.replicate (30 : Int).toNat 0) (ys := [255]) (z10 _ _ upd_same) upd_same (by rw [r30]; simp) fun s11 t11 => ⟨by show 4 ≤ sizeLine; decide, fun L nL => ?_⟩
    have z11 := Evl.Ex.new (o := .lst (IV (List.replicate (30 : Int).toNat 0 ++ [255]))) t11
    have zL := Evl.Ex.new (o := .lst [V.ref s1, .ref s5, .ref s7, .ref s11]) nL
    have k11 := zL _ _ (upd_same (H := upd (upd (upd H18 s8 (.lst [V.int 0])) s9 (.lst (IV (List.replicate (30 : Int).toNat 0)))) s10 (.lst [V.int 255])) (a := s11) (o := .lst (IV (List.replicate (30 : Int).toNat 0 ++ [255]))))
    have Z := (((z8.trans z9).trans z10).trans z11).trans zL
    have a11 := B16.at (Evl.fresh_back (Z7.trans ((z8.trans z9).trans z10)) t11)
    have aL := B16.at (Evl.fresh_back (Z7.trans (((z8.trans z9).trans z10).trans z11)) nL)
    have kL := upd_same (H := upd (upd (upd (upd H18 s8 (.lst [V.int 0])) s9 (.lst (IV (List.replicate (30 : Int).toNat 0)))) s10 (.lst [V.int 255])) s11 (.lst (IV (List.replicate (30 : Int).toNat 0 ++ [255])))) (a := L) (o := .lst [V.ref s1, .ref s5, .ref s7, .ref s11])
    have k5 := Z _ _ k5
    have k7 := Z _ _ k7
    have Z19 := Z7.trans Z
    have k1 := Z19 _ _ hds
    generalize upd (upd (upd (upd (upd H18 s8 (.lst [V.int 0])) s9 (.lst (IV (List.replicate (30 : Int).toNat 0)))) s10 (.lst [V.int 255])) s11 (.lst (IV (List.replicate (30 : Int).toNat 0 ++ [255])))) L (.lst [V.ref s1, .ref s5, .ref s7, .ref s11]) = H19 at Z19 k1 k5 k7 k11 kL ⊢
    clear z8 z9 z10 z11 zL t8 t9 t10 t11 nL Z Z7
    refine ⟨_, rfl, a, 4, n + 2 + 1 + 30 + 1 + 31, rfl, B16.ex Z19, by omega, by omega, by omega, fun r5 H20 q8 q9 e20 B20 => ?_⟩
    have key : ∃ t, atI [V.ref s1, .ref s5, .ref s7, .ref s11] r5 = some (.ref t) ∧ PageAt H20 a t := by
      have c : r5 = 0 ∨ r5 = 1 ∨ r5 = 2 ∨ r5 = 3 := by omega
      rcases c with rfl | rfl | rfl | rfl
      · exact ⟨s1, rfl, ds, od, ld, ad, e20 _ _ ad k1⟩
      · exact ⟨s5, rfl, _, oct_snoc (oct_rep (by omega)) (by omega) (by omega), by rw [List.length_append, r30]; rfl, a5, e20 _ _ a5 k5⟩
      · exact ⟨s7, rfl, _, oct_rep (by omega), by rw [List.length_replicate]; rfl, a7, e20 _ _ a7 k7⟩
      · exact ⟨s11, rfl, _, oct_snoc (oct_rep (by omega)) (by omega) (by omega), by rw [List.length_append, r30]; rfl, a11, e20 _ _ a11 k11⟩
    obtain ⟨t, ht, Pt⟩ := key
    obtain ⟨hf20, G8⟩ := G7.app (e16.trans ((Exb.of Z19).trans e20)) B20 Pt
    refine .inl ⟨L, _, _, _, rfl, rfl, SqL.of (e20 L _ aL kL), ht, fl, _, _, rfl, rfl, hf20, by rw [List.length_map, G7.cnt]; exact Evl.sz_lt (by decide), ?_⟩
    generalize hps : ([pg, l8, tp, l10] ++ [p8] ++ [p11] ++ [p14] ++ [t] : List Addr) = ps at G8 ⊢
    generalize upd H20 fl (.lst (([pg, l8, tp, l10] ++ [p8] ++ [p11] ++ [p14] : List Addr).map V.ref ++ [V.ref t])) = H21 at G8 ⊢
    have l8' : (ps.map V.ref).length = 8 := by rw [List.length_map]; exact G8.cnt
    -- in a drawn order
    refine ⟨_, rfl, _, rfl, _, _, rfl, .inl ⟨_, SqL.of G8.at_, rfl⟩, a, ((ps.map V.ref).length : Int), n + 2 + 1 + 30 + 1 + 31 + 1, rfl, G8.box, by omega, by omega, by omega, fun r6 H22 q10 q11 e22 B22 => ?_⟩
    obtain ⟨k6, rfl⟩ : ∃ k : Nat, r6 = k := ⟨r6.toNat, by omega⟩
    have hf22 := e22 fl _ G8.la G8.at_
    refine ⟨_, rfl, _, rfl, _, rfl, .inl ⟨fl, _, rfl, SqL.of hf22, fun c1 n1 => ⟨_, rfl, _, rfl, _, rfl, .inl ⟨fl, _, rfl, SqL.of (by rw [upd_ne (ne_of_none hf22 n1)]; exact hf22), fun c2 n2 => ?_⟩⟩⟩⟩
    have w1 := Evl.Ex.new (o := .lst (cutV (ps.map V.ref) (some (k6 : Int)) none)) n1
    have w2 := Evl.Ex.new (o := .lst (cutV (ps.map V.ref) none (some (k6 : Int)))) n2
    refine .inr (.inl ⟨c1, c2, _, _, rfl, rfl, w2 _ _ upd_same, upd_same, ?_, fun c3 n3 => ?_⟩)
    · have b1 := cutV_length (ps.map V.ref) (some (k6 : Int)) none
      have b2 := cutV_length (ps.map V.ref) none (some (k6 : Int))
      exact Evl.sz_of (by omega)
    · have ec1 : cutV (ps.map V.ref) (some (k6 : Int)) none = (ps.drop k6).map V.ref := by
        unfold cutV
        have e2 : HT.sIx (ps.map V.ref).length (ps.map V.ref).length none = (ps.map V.ref).length := rfl
        rw [HT.sIx_nat, e2, ← List.map_drop, ← List.map_take]
        congr 1
        have m1 : min k6 (ps.map V.ref).length = k6 := by omega
        rw [m1, List.take_of_length_le (by rw [List.length_drop, List.length_map]; exact Nat.le_refl _)]
      have ec2 : cutV (ps.map V.ref) none (some (k6 : Int)) = (ps.take k6).map V.ref := by
        unfold cutV
        have e2 : HT.sIx (ps.map V.ref).length 0 none = 0 := rfl
        have m1 : min k6 (ps.map V.ref).length = k6 := by omega
        rw [HT.sIx_nat, e2, m1, List.drop_zero, Nat.sub_zero, ← List.map_take]
      have w3 := Evl.Ex.new (o := .lst (cutV (ps.map V.ref) (some (k6 : Int)) none ++ cutV (ps.map V.ref) none (some (k6 : Int)))) n3
      have W := (w1.trans w2).trans w3
      have na3 := B22.at (Evl.fresh_back (w1.trans w2) n3)
      refine q c3 _ (ps.drop k6 ++ ps.take k6) ?_ ?_ ((G8.far.trans e22).trans (Exb.of W)) ((B22.ex W).le (by omega)) ?_ na3
      · rw [List.length_append, List.length_drop, List.length_take, G8.cnt]
        have := l8'
        omega
      · intro q' hq'
        have hm : q' ∈ ps := by
          rcases List.mem_append.mp hq' with z | z
          · exact List.mem_of_mem_drop z
          · exact List.mem_of_mem_take z
        exact (G8.pg q' hm).exb (e22.trans (Exb.of W))
      · rw [upd_same, ec1, ec2, List.map_append]
end
end K07
namespace K07
open PySem PySem.Spec PyProof.Rows L2 VB BM
/-- at q: a page, a list or a tuple -/
def HandAt (H : Hp) (a q : Addr) : Prop := ∃ (ys : List Int) (t : Bool), Oct ys ∧ ys.length = 31 ∧ q ≠ a ∧ H q = some (if t then .tup (IV ys) else .lst (IV ys))
theorem HandAt.exb {H H' : Hp} {a q : Addr} (h : HandAt H a q) (e : Exb a H H') : HandAt H' a q := by
  obtain ⟨ys, t, o, l, n, h⟩ := h
  exact ⟨ys, t, o, l, n, e q _ n h⟩
/-- another of them is changed, or this one -/
theorem HandAt.put {H : Hp} {a q l : Addr} {zs : List Int} (h : HandAt H a q) (o : Oct zs) (lz : zs.length = 31) : HandAt (upd H l (.lst (IV zs))) a q := by
  by_cases e : q = l
  · subst e
    obtain ⟨_, _, _, _, n, _⟩ := h
    exact ⟨zs, false, o, lz, n, by rw [upd_same]; rfl⟩
  · obtain ⟨ys, t, oy, ly, n, h⟩ := h
    exact ⟨ys, t, oy, ly, n, by rw [upd_ne e]; exact h⟩
theorem HandAt.sv {K : PySem.W.Frag} {H : Hp} {a q : Addr} (h : HandAt H a q) : ∃ (ys : List Int) (t : Bool), Oct ys ∧ ys.length = 31 ∧ q ≠ a ∧ Sv t K H q (IV ys) ∧ H q = some (if t then .tup (IV ys) else .lst (IV ys)) := by
  obtain ⟨ys, t, o, l, n, h⟩ := h
  refine ⟨ys, t, o, l, n, ?_, h⟩
  cases t with
  | false => exact Sv.lst h
  | true => exact Sv.tup h
theorem refs_iv {qs : List Addr} {ys : List Int} (l : ys.length = 31) (h : qs.map V.ref = IV ys) : False := by
  cases ys with
  | nil => cases l
  | cons y ys =>
    cases qs with
    | nil => cases h
    | cons q qs =>
      have := (List.cons.inj h).1
      cases this
theorem HandAt.neD {H : Hp} {a q D : Addr} {qs : List Addr} (h : HandAt H a q) (hD : H D = some (.lst (qs.map V.ref))) : q ≠ D := by
  rintro rfl
  obtain ⟨ys, t, _, l, _, h⟩ := h
  rw [hD] at h
  cases t with
  | true =>
    have := Option.some.inj h
    cases this
  | false =>
    have := Option.some.inj h
    injection this with e
    exact refs_iv l e
theorem HandAt.updD {H : Hp} {a q D : Addr} {qs : List Addr} {o : HO} (h : HandAt H a q) (hD : H D = some (.lst (qs.map V.ref))) : HandAt (upd H D o) a q := by
  have n := h.neD hD
  obtain ⟨ys, t, oy, ly, na, h⟩ := h
  exact ⟨ys, t, oy, ly, na, by rw [upd_ne n]; exact h⟩
section
variable {P : Program} {w : World} {K : PySem.W.Frag} {mg : Str → Option Value} {base : Heap} {f : Addr} {fd : FuncData}
theorem ref_get {ps : List Addr} {i : Nat} {x : V} (h : (ps.map V.ref)[i]? = some x) : ∃ q, q ∈ ps ∧ ps[i]? = some q ∧ x = .ref q := by
  rw [List.getElem?_map] at h
  cases e : ps[i]? with
  | none => rw [e] at h; cases h
  | some q =>
    rw [e] at h
    exact ⟨q, List.mem_of_getElem? e, rfl, (Option.some.inj h).symm⟩
def spAR : Sp := fun vs H Q _ => ∃ (a l : Addr) (ps : List Addr) (n : Int), vs = [.ref a, .ref l] ∧ Box H a n ∧ l ≠ a ∧ H l = some (.lst (ps.map V.ref)) ∧ ps.length = 8 ∧ (∀ q ∈ ps, PageAt H a q) ∧ n < 70000000 ∧ ∀ H' : Hp, Exb a H H' → Box H' a (n + 100) → Q (.bl true) H'
theorem ok_lar (T : Txt K mg) (F : FnP K "_law_again_right" s__law_again_right f fd) (C__law_take : Cal P w K mg base CX0 1 "_law_take" ["_law_box_here", "_law_many"] spTake) (C__law_turned : Cal P w K mg base CX0 1 "_law_turned" ["_law_page", "_law_bit"] (spLT K))
    (C__law_page_right : Cal P w K mg base CX0 10 "_law_page_right" ["_law_page", "_law_turn"] (spPR K)) : Fg P w K mg base CX0 11 f fd ["_law_box_here", "_law_pages_here"] spAR := by
  refine fg_of F sc__law_again_right (fun vs H Q E h => ?_) (fun cdv A outer s H vs Q E hr h => ⟨_, (PSs.nox (pss_cons (ps_setLc (i := 2) (own := [("_law_page", 4)]) rfl sc__law_again_right.nd rfl rfl (sw_true rfl rfl rfl (by decide +kernel)) (pi_seq (K := K) (pv 1)) (blkOk_by (own := [("_law_page", 4)]) (N := ["_law_box_here", "_law_pages_here", "_law_handed", "_law_at", "_law_page"]) (sc := defScope s__law_again_right) (by decide +kernel)) (fun _ _ _ _ _ => (pg_name (i := 4) sc__law_again_right.nd rfl (by first | exact Or.inl rfl | exact Or.inr rfl))) (fun _ _ _ _ _ => pts_nil) (fun _ _ _ _ _ => (pe_ifExp (pt_cmpR (u_eq (K := K) hr) (pe_cal C__law_take hr.le pass0 (pa_cons (pv 0) (pa_cons pe_int pa_nil))) pe_int (nomark _)) (pe_callTy (u_list (K := K)) (by rfl) T.f_list (by decide +kernel) (pa_cons (pv 4) pa_nil)) (pe_callTy (u_tup (K := K)) (by rfl) T.f_tuple (by decide +kernel) (pa_cons (pv 4) pa_nil)))))
  (pss_cons (ps_for PassesOwn.never rfl (pi_seq (K := K) (pv 2)) (pg_name (i := 4) sc__law_again_right.nd rfl (by first | exact Or.inl rfl | exact Or.inr rfl))
  (pss_one (ps_if (pt_not (pt_tru (K := K) (pe_cal C__law_page_right hr.le pass0 (pa_cons (pv 4) (pa_cons (pe_cal C__law_take hr.le pass0 (pa_cons (pv 0) (pa_cons pe_int pa_nil))) pa_nil))) (by intro _; rfl)))
  (pss_one (ps_ret pe_bl)) pss_nil)))
  (pss_cons (ps_for PassesOwn.never rfl (pi_seq (K := K) (pv 2)) (pg_name (i := 4) sc__law_again_right.nd rfl (by first | exact Or.inl rfl | exact Or.inr rfl))
  (pss_cons (ps_if (pt_tru (K := K) (pe_callB (u_isi (K := K)) (by rfl) T.f_isinstance (by decide +kernel) (pa_cons (pv 4) (pa_cons (pe_bltn (v := .ty "list") rfl T.f_list (by decide +kernel) rfl) pa_nil))) (by intro _; rfl))
  (pss_cons (ps_set (i := 3) sc__law_again_right.nd rfl (by first | exact Or.inl rfl | exact Or.inr rfl) (pe_cal C__law_take hr.le pass0 (pa_cons (pv 0) (pa_cons pe_int pa_nil))))
  (pss_one (ps_asg (pe_ix (u_ix (K := K)) (pe_cal C__law_turned hr.le pass0 (pa_cons (pv 4) (pa_cons (pe_op (u_add (K := K)) (pe_op (u_mul (K := K)) pe_int (pv 3)) (pe_cal C__law_take hr.le pass0 (pa_cons (pv 0) (pa_cons pe_int pa_nil)))) pa_nil))) (pv 3) (fun _ _ => rfl)) (pg_sub (pv 4) (pv 3) set_list)))) pss_nil)
  (pss_one (ps_if (pt_not (pt_tru (K := K) (pe_cal C__law_page_right hr.le pass0 (pa_cons (pv 4) (pa_cons (pe_cal C__law_take hr.le pass0 (pa_cons (pv 0) (pa_cons pe_int pa_nil))) pa_nil))) (by intro _; rfl)))
  (pss_one (ps_ret pe_bl)) pss_nil))))
  (pss_one (ps_ret pe_bl)))))), ?_⟩)
  · obtain ⟨a, l, ps, n, rfl, _⟩ := h
    rfl
  · obtain ⟨a, l, ps, n, rfl, B, la, hl, lp, hp, hn, q⟩ := h
    have l8 : (ps.map V.ref).length = 8 := by rw [List.length_map]; exact lp
    refine seq_var (t := false) (xs := ps.map V.ref) rfl (Sv.lst hl) fun J wk D hD => ?_
    rw [l8] at wk
    have nD := B.at hD
    refine lc_it wk (fun i H' => i ≤ 8 ∧ Exb a H H' ∧ Box H' a (n + i) ∧ ∃ qs : List Addr, qs.length = i ∧ H' D = some (.lst (qs.map V.ref)) ∧ ∀ q ∈ qs, HandAt H' a q ∧ H q = none) ⟨by omega, Exb.new hD, (B.ex (Evl.Ex.new hD)).le (by omega), [], rfl, upd_same, fun _ h => (by cases h)⟩ (fun i H' _ h => Sv.lst (h.2.1 l _ la hl)) ?_ ?_
    · rintro i x H1 H1' hi ⟨_, e1, B1, qs, lq, hqs, hh⟩ ⟨rfl, hx⟩
      obtain ⟨p, hp1, _, rfl⟩ := ref_get hx
      obtain ⟨ys, oy, ly, np, hy⟩ := hp p hp1
      refine ⟨rfl, _, rfl, a, 2, n + i, rfl, B1, by omega, by omega, by omega, fun r H2 r0 r1 e2 B2 => .inl ⟨rfl, _, rfl, ?_⟩⟩
      have hy2 := e2 _ _ np (e1 _ _ np hy)
      have hqs2 := e2 _ _ nD hqs
      have fin : ∀ (z : Addr) (t : Bool), H2 z = none → ∃ acc, (upd H2 z (if t then .tup (IV ys) else .lst (IV ys))) D = some (.lst acc) ∧ acc.length < sizeLine ∧ i + 1 ≤ 8 ∧ Exb a H (upd (upd H2 z (if t then .tup (IV ys) else .lst (IV ys))) D (.lst (acc ++ [.ref z]))) ∧ Box (upd (upd H2 z (if t then .tup (IV ys) else .lst (IV ys))) D (.lst (acc ++ [.ref z]))) a (n + (i + 1 : Nat)) ∧
          ∃ qs : List Addr, qs.length = i + 1 ∧ (upd (upd H2 z (if t then .tup (IV ys) else .lst (IV ys))) D (.lst (acc ++ [.ref z]))) D = some (.lst (qs.map V.ref)) ∧ ∀ q ∈ qs, HandAt (upd (upd H2 z (if t then .tup (IV ys) else .lst (IV ys))) D (.lst (acc ++ [.ref z]))) a q ∧ H q = none := by
        intro z t nz
        have x := Evl.Ex.new (o := if t then .tup (IV ys) else .lst (IV ys)) nz
        have hz := upd_same (H := H2) (a := z) (o := if t then .tup (IV ys) else .lst (IV ys))
        have az := B2.at nz
        have fz := Exb.fresh (e1.trans e2) nz az
        generalize upd H2 z (if t then .tup (IV ys) else .lst (IV ys)) = H3 at x hz ⊢
        have hqs3 := x _ _ hqs2
        refine ⟨_, hqs3, by rw [List.length_map, lq]; exact Evl.sz_lt (by omega), by omega, Exb.mut ((e1.trans e2).trans (Exb.of x)) hD, (Box.mut (B2.ex x) nD).le (by omega), qs ++ [z], by simp [lq], by rw [upd_same, List.map_append]; rfl, ?_⟩
        intro q' hq'
        rcases List.mem_append.mp hq' with h | h
        · exact ⟨((hh q' h).1.exb (e2.trans (Exb.of x))).updD hqs3, (hh q' h).2⟩
        · have : q' = z := by simpa using h
          subst this
          exact ⟨HandAt.updD ⟨ys, t, oy, ly, az, hz⟩ hqs3, fz⟩
      refine if_eq (fun _ => ?_) (fun _ => ?_)
      · exact ⟨_, rfl, p, _, rfl, .inl (SqL.of hy2), fun z nz => fin z false nz⟩
      · exact ⟨_, rfl, p, _, rfl, .inl ⟨SqL.of hy2, fun z nz => fin z true nz⟩⟩
    rintro H1 ⟨_, e1, B1, qs, lq, hqs, hh⟩
    have lq8 : (qs.map V.ref).length = 8 := by rw [List.length_map]; exact lq
    refine seq_var (t := false) (xs := qs.map V.ref) rfl (Sv.lst hqs) fun J wk => ?_
    rw [lq8] at wk
    refine for_it wk (fun i σ H' => ∃ v4 : Option V, σ = [some (.ref a), some (.ref l), some (.ref D), none, v4] ∧ Exb a H1 H' ∧ Box H' a (n + 8 + i)) ⟨_, rfl, Exb.refl _ _, B1.le (by omega)⟩ (fun i σ H' _ h => Sv.lst (h.choose_spec.2.1 D _ nD hqs)) ?_ ?_
    · rintro i x σ H2 H2' hi ⟨v4, rfl, e2, B2⟩ ⟨rfl, hx⟩
      obtain ⟨p, hp1, _, rfl⟩ := ref_get hx
      obtain ⟨ys, t, oy, ly, np, S, _⟩ := HandAt.sv (K := K) ((hh p hp1).1.exb e2)
      have S0 := ((hh p hp1).1.exb e2)
      refine ⟨_, rfl, ⟨_, rfl, a, 2, n + 8 + i, rfl, B2, by omega, by omega, by omega, fun r H3 r0 r1 e3 B3 => ?_⟩⟩
      obtain ⟨ys, t, oy, ly, np, S, _⟩ := HandAt.sv (K := K) (S0.exb e3)
      exact ⟨p, ys, t, r, rfl, S, oy, ly, fun H4 e4 => ⟨true, rfl, iteF ⟨_, rfl, (e2.trans e3).trans (Exb.of e4), (B3.ex e4).le (by omega)⟩⟩⟩
    rintro σ H2 ⟨v4, rfl, e2, B2⟩
    have hqs2 := e2 D _ nD hqs
    refine seq_var (t := false) (xs := qs.map V.ref) rfl (Sv.lst hqs2) fun J wk => ?_
    rw [lq8] at wk
    refine for_it wk (fun i σ H' => ∃ v3 v4 : Option V, σ = [some (.ref a), some (.ref l), some (.ref D), v3, v4] ∧ Exb a H H' ∧ H' D = some (.lst (qs.map V.ref)) ∧ (∀ q ∈ qs, HandAt H' a q) ∧ Box H' a (n + 16 + 3 * i)) ⟨_, _, rfl, e1.trans e2, hqs2, fun q h => (hh q h).1.exb e2, B2.le (by omega)⟩ (fun i σ H' _ h => Sv.lst h.choose_spec.choose_spec.2.2.1) ?_ ?_
    · rintro i x σ H3 H3' hi ⟨v3, v4, rfl, e3, h3, k3, B3⟩ ⟨rfl, hx⟩
      obtain ⟨p, hp1, _, rfl⟩ := ref_get hx
      obtain ⟨ys, t, oy, ly, np, S, hy⟩ := HandAt.sv (K := K) (k3 p hp1)
      refine ⟨_, rfl, ?_⟩
      have last : ∀ (v3 : Option V) (H4 : Hp) (DD : L2.Ends), (∀ σ H', (∃ v3 v4 : Option V, σ = [some (.ref a), some (.ref l), some (.ref D), v3, v4] ∧ Exb a H H' ∧ H' D = some (.lst (qs.map V.ref)) ∧ (∀ q ∈ qs, HandAt H' a q) ∧ Box H' a (n + 16 + 3 * (i + 1 : Nat))) → DD.nx σ H') → Exb a H H4 → H4 D = some (.lst (qs.map V.ref)) → (∀ q ∈ qs, HandAt H4 a q) → Box H4 a (n + 16 + 3 * i + 2) →
          tIfS (tNot (tTru K (tCall (spPR K) [] E0 (tCons (tVar 4) (tCons (tCall spTake [] E0 (tCons (tVar 0) (tCons (tC (V.int 2)) tNil))) tNil))))) (tRet (tC (V.bl false))) tNext
            DD [some (.ref a), some (.ref l), some (.ref D), v3, some (.ref p)] H4 := by
        intro v3 H4 DD hDD e4 h4 k4 B4
        refine ⟨_, rfl, ⟨_, rfl, a, 2, n + 16 + 3 * i + 2, rfl, B4, by omega, by omega, by omega, fun r H5 r0 r1 e5 B5 => ?_⟩⟩
        obtain ⟨ys, t, oy, ly, np, S, _⟩ := HandAt.sv (K := K) ((k4 p hp1).exb e5)
        exact ⟨p, ys, t, r, rfl, S, oy, ly, fun H6 e6 => ⟨true, rfl, iteF (hDD _ _ ⟨_, _, rfl, (e4.trans e5).trans (Exb.of e6), e6 _ _ (e5 D _ nD h4), fun q h => ((k4 q h).exb e5).exb (Exb.of e6), (B5.ex e6).le (by omega)⟩)⟩⟩
      refine ⟨_, _, _, _, !t, rfl, .ty _, S.ty, ?_, ?_⟩
      · cases t with
        | false => exact kit_ty (by decide +kernel)
        | true => exact kit_ty (by decide +kernel)
      cases t with
      | true => exact ⟨false, rfl, iteF (last v3 _ _ (fun _ _ h => h) e3 h3 k3 (B3.le (by omega)))⟩
      | false =>
        refine ⟨true, rfl, iteT ⟨_, rfl, a, 31, n + 16 + 3 * i, rfl, B3, by omega, by omega, by omega, fun r H4 r0 r1 e4 B4 => ?_⟩⟩
        obtain ⟨k, rfl⟩ : ∃ k : Nat, r = k := ⟨r.toNat, by omega⟩
        have hy4 : H4 p = some (.lst (IV ys)) := e4 p _ np hy
        have h4 := e4 D _ nD h3
        have k4 : ∀ q ∈ qs, HandAt H4 a q := fun q h => (k3 q h).exb e4
        refine ⟨_, rfl, _, rfl, .inl ⟨_, _, rfl, rfl, mulx_ok (a := 30) (b := 30) (by decide) (by show _ < 1073741824; omega) (by decide), _, rfl, a, 8, n + 16 + 3 * i + 1, rfl, B4, by omega, by omega, by omega, fun r H5 r2 r3 e5 B5 => ?_⟩⟩
        obtain ⟨m, rfl⟩ : ∃ m : Nat, r = m := ⟨r.toNat, by omega⟩
        refine .inl ⟨_, _, rfl, rfl, p, ys, false, 8 * k + m, ?_, Sv.lst (e5 _ _ np hy4), oy, by omega, by omega, fun p2 H6 ys2 oy2 ly2 np2 e6 hp2 => ?_⟩
        · show [V.ref p, V.int (8 * (k : Int) + (m : Int))] = [V.ref p, V.int ((8 * k + m : Nat) : Int)]
          have : 8 * (k : Int) + (m : Int) = ((8 * k + m : Nat) : Int) := by omega
          rw [this]
        have E6 := e5.trans (Exb.of e6)
        have hy6 : H6 p = some (.lst (IV ys)) := E6 _ _ np hy4
        obtain ⟨v, hv⟩ := get_lt (l := ys2) (i := k) (by omega)
        have hv2 := oy2 v (List.mem_of_getElem? hv)
        refine ⟨_, rfl, Sv.ix (x := .non) (Sv.lst hp2) (iv_at hv) ⟨_, rfl, _, rfl, p, _, _, k, rfl, rfl, hy6, Evl.ixN_nat (by rw [iv_len]; omega), ?_⟩⟩
        have es : (IV ys).set k (V.int v) = IV (ys.set k v) := List.map_set.symm
        rw [es]
        refine last _ _ _ (fun _ _ h => h) ?_ ?_ ?_ ?_
        · exact Exb.mut ((e3.trans e4).trans E6) (hh p hp1).2
        · rw [upd_ne ?_]
          exact E6 D _ nD h4
          exact Ne.symm ((k4 p hp1).neD h4)
        · exact fun q h => ((k4 q h).exb E6).put (oct_set oy ⟨hv2.1, hv2.2⟩) (by rw [List.length_set]; exact ly)
        · exact (Box.mut (B5.ex e6) np).le (by omega)
    rintro σ H3 ⟨v3, v4, rfl, e3, h3, k3, B3⟩
    exact q H3 e3 (B3.le (by omega))
end
end K07
namespace K07
open PySem PySem.Spec PyProof.Rows L2 VB BM
section
variable {P : Program} {w : World} {K : PySem.W.Frag} {mg : Str → Option Value} {base : Heap} {f : Addr} {fd : FuncData}
def spRight : Sp := fun vs H Q _ => ∃ (a : Addr) (n : Int), vs = [.ref a] ∧ Box H a n ∧ n < 60000000 ∧ ∀ H' : Hp, Exb a H H' → Q (.bl true) H'
theorem ok_lright (T : Txt K mg) (F : FnP K "_law_right" s__law_right f fd) (C__law_data : Cal P w K mg base CX0 3 "_law_data" ["_law_box_here"] spDa) (C__law_pages : Cal P w K mg base CX0 3 "_law_pages" ["_law_box_here", "_law_data_here"] spPgs)
    (C__law_seal_right : Cal P w K mg base CX0 9 "_law_seal_right" ["_law_box_here", "_law_data_here"] (spSR K)) (C__law_again_right : Cal P w K mg base CX0 11 "_law_again_right" ["_law_box_here", "_law_pages_here"] spAR) : Fg P w K mg base CX0 12 f fd ["_law_box_here"] spRight := by
  refine fg_of F sc__law_right (fun vs H Q E h => ?_) (fun cdv A outer s H vs Q E hr h => ⟨_, (PSs.nox (pss_cons (ps_set (i := 1) sc__law_right.nd rfl (by first | exact Or.inl rfl | exact Or.inr rfl) (pe_cal C__law_data hr.le pass0 (pa_cons (pv 0) pa_nil)))
  (pss_cons (ps_set (i := 2) sc__law_right.nd rfl (by first | exact Or.inl rfl | exact Or.inr rfl) (pe_cal C__law_pages hr.le pass0 (pa_cons (pv 0) (pa_cons (pv 1) pa_nil))))
  (pss_cons (ps_if (PW.pt (pw_or (pt_not (pt_tru (K := K) (pe_cal C__law_seal_right hr.le pass0 (pa_cons (pv 0) (pa_cons (pv 1) pa_nil))) (by intro _; rfl))) (pw_or1 (pt_not (pt_tru (K := K) (pe_cal C__law_again_right hr.le pass0 (pa_cons (pv 0) (pa_cons (pv 2) pa_nil))) (by intro _; rfl))))))
  (pss_one (ps_ret pe_bl)) pss_nil)
  (pss_cons (ps_for PassesOwn.never rfl (pi_seq (K := K) (pe_slice (u_sl (K := K)) (pv 2) po_none (po_some pe_int))) (pg_name (i := 3) sc__law_right.nd rfl (by first | exact Or.inl rfl | exact Or.inr rfl))
  (pss_one (ps_if (pt_not (pt_tru (K := K) (pe_cal C__law_seal_right hr.le pass0 (pa_cons (pv 0) (pa_cons (pe_slice (u_sl (K := K)) (pv 3) po_none (po_some pe_int)) pa_nil))) (by intro _; rfl)))
  (pss_one (ps_ret pe_bl)) pss_nil)))
  (pss_one (ps_ret pe_bl))))))), ?_⟩)
  · obtain ⟨a, n, rfl, _⟩ := h
    rfl
  · obtain ⟨a, n, rfl, B, hn, q⟩ := h
    refine ⟨_, rfl, a, n, rfl, B, by omega, fun d H1 xs ox lx nd fd1 e1 B1 hd => ?_⟩
    refine ⟨_, rfl, _, rfl, a, d, xs, n + 60, rfl, B1, nd, hd, ox, lx, by omega, fun p H2 ps lp hps e2 B2 hp np => ?_⟩
    have hd2 := e2 d _ nd hd
    refine ⟨_, rfl, _, rfl, a, d, xs, n + 60 + 120, rfl, B2, nd, hd2, ox, lx, by omega, fun H3 e3 B3 => ?_⟩
    have hp3 := e3 p _ np hp
    have hps3 : ∀ q ∈ ps, PageAt H3 a q := fun q h => (hps q h).exb e3
    refine ⟨true, rfl, iteF ⟨_, rfl, _, rfl, a, p, ps, n + 60 + 120 + 2, rfl, B3, np, hp3, lp, hps3, by omega, fun H4 e4 B4 => ⟨true, rfl, iteF ?_⟩⟩⟩
    have hp4 := e4 p _ np hp3
    have E4 := ((e1.trans e2).trans e3).trans e4
    refine .inl ⟨_, rfl, _, rfl, .inl ⟨p, _, rfl, SqL.of hp4, fun c nc => ⟨c, rfl, ⟨_, SqL.of upd_same⟩, ?_⟩⟩⟩
    have cut : cutV (ps.map V.ref) none (some 3) = (ps.take 3).map V.ref := by
      unfold cutV
      have l8 : (ps.map V.ref).length = 8 := by rw [List.length_map]; exact lp
      have e2 : HT.sIx (ps.map V.ref).length 0 none = 0 := rfl
      have m1 : min 3 (ps.map V.ref).length = 3 := by omega
      have s3 : HT.sIx (ps.map V.ref).length (ps.map V.ref).length (some 3) = min 3 (ps.map V.ref).length := HT.sIx_nat _ _ 3
      rw [s3, e2, m1, List.drop_zero, Nat.sub_zero, ← List.map_take]
    have xc := Evl.Ex.new (o := .lst (cutV (ps.map V.ref) none (some 3))) nc
    have hc := upd_same (H := H4) (a := c) (o := .lst (cutV (ps.map V.ref) none (some 3)))
    have B5 := B4.ex xc
    have nca := B4.at nc
    generalize upd H4 c (.lst (cutV (ps.map V.ref) none (some 3))) = H5 at xc hc B5 ⊢
    have l3 : ((ps.take 3).map V.ref).length = 3 := by rw [List.length_map, List.length_take]; omega
    rw [cut] at hc
    have wk := walk_list (K := K) (a := c) (xs := (ps.take 3).map V.ref)
    rw [l3] at wk
    refine for_it wk (fun i σ H' => ∃ v3 : Option V, σ = [some (.ref a), some (.ref d), some (.ref p), v3] ∧ Exb a H5 H' ∧ Box H' a (n + 300 + 2 * i)) ⟨_, rfl, Exb.refl _ _, B5.le (by omega)⟩ (fun i σ H' _ h => SqL.of (h.choose_spec.2.1 c _ nca hc)) ?_ ?_
    · rintro i x σ H6 H6' hi ⟨v3, rfl, e6, B6⟩ ⟨rfl, hx⟩
      obtain ⟨g, hg, _, rfl⟩ := ref_get hx
      obtain ⟨ys, oy, ly, ng, hy⟩ := (hps3 g (List.mem_of_mem_take hg)).exb (e4.trans ((Exb.of xc).trans e6))
      refine ⟨_, rfl, _, rfl, _, rfl, .inl ⟨g, _, rfl, SqL.of hy, fun z nz => ?_⟩⟩
      have cy : cutV (IV ys) none (some 30) = IV (ys.take 30) := by
        unfold cutV
        have l8 : (IV ys).length = 31 := by rw [iv_len]; exact ly
        have e2 : HT.sIx (IV ys).length 0 none = 0 := rfl
        have m1 : min 30 (IV ys).length = 30 := by omega
        have s3 : HT.sIx (IV ys).length (IV ys).length (some 30) = min 30 (IV ys).length := HT.sIx_nat _ _ 30
        rw [s3, e2, m1, List.drop_zero, Nat.sub_zero]
        exact List.map_take.symm
      rw [cy]
      have xz := Evl.Ex.new (o := .lst (IV (ys.take 30))) nz
      refine ⟨a, z, ys.take 30, n + 300 + 2 * i, rfl, B6.ex xz, B6.at nz, upd_same, fun o ho => oy o (List.mem_of_mem_take ho), by rw [List.length_take]; omega, by omega, fun H7 e7 B7 => ⟨true, rfl, iteF ?_⟩⟩
      exact ⟨_, rfl, (e6.trans (Exb.of xz)).trans e7, B7.le (by omega)⟩
    rintro σ H6 ⟨v3, rfl, e6, B6⟩
    exact q _ ((E4.trans (Exb.of xc)).trans e6)
end
end K07
namespace K07
open PySem PySem.Spec PyProof.Rows L2 VB BM
section
variable {P : Program} {w : World} {K : PySem.W.Frag} {mg : Str → Option Value} {base : Heap} {f : Addr} {fd : FuncData}
def spLaw (K : PySem.W.Frag) : Sp := fun vs H Q _ => ∃ (a : Addr) (ns : List Int), vs = [.ref a] ∧ SqL K H a (ns.map V.int) ∧ ns.length ≤ 1000 ∧ RV (.bl true) H Q
theorem ok_law (T : Txt K mg) (F : FnP K "law" s_law f fd) (C__law_right : Cal P w K mg base CX0 12 "_law_right" ["_law_box_here"] spRight) (C__law_box : Cal P w K mg base CX0 1 "_law_box" ["_law_great"] spBox)
    (C__law_cell : Cal P w K mg base CX0 1 "_law_cell" ["_law_script", "_law_k"] (spCell K)) :
    Fg P w K mg base CX0 13 f fd ["_law_script"] (spLaw K) := by
  refine fg_of F sc_law (fun vs H Q E h => ?_) (fun cdv A outer s H vs Q E hr h => ⟨_, (PSs.nox (pss_cons (ps_for PassesOwn.never rfl (pi_range1 rfl T.f_range (pa_cons (pe_callB (call_max2 rfl) (by rfl) T.f_max (by decide +kernel) (pa_cons pe_int (pa_cons (pe_callB (call_min2 rfl) (by rfl) T.f_min (by decide +kernel) (pa_cons pe_int (pa_cons (pe_callB (u_len (K := K)) (by rfl) T.f_len (by decide +kernel) (pa_cons (pv 0) pa_nil)) pa_nil))) pa_nil))) pa_nil)) (pg_name (i := 1) sc_law.nd rfl (by first | exact Or.inl rfl | exact Or.inr rfl))
  (pss_one (ps_if (pt_not (pt_tru (K := K) (pe_cal C__law_right hr.le pass0 (pa_cons (pe_cal C__law_box hr.le pass0 (pa_cons (pe_cal C__law_cell hr.le pass0 (pa_cons (pv 0) (pa_cons (pv 1) pa_nil))) pa_nil)) pa_nil)) (by intro _; rfl)))
  (pss_one (ps_ret pe_bl)) pss_nil)))
  (pss_one (ps_ret pe_bl)))), ?_⟩)
  · obtain ⟨a, ns, rfl, _⟩ := h
    rfl
  · obtain ⟨a, ns, rfl, S, hl, q⟩ := h
    have lit : ∀ x : Int, 0 ≤ (if (if x < 2 then x else 2) > 1 then (if x < 2 then x else 2) else 1) ∧ (if (if x < 2 then x else 2) > 1 then (if x < 2 then x else 2) else 1) ≤ 2 := by
      intro x
      constructor <;> (repeat' split) <;> omega
    refine ⟨_, rfl, _, _, rfl, .inl ⟨_, S, rfl⟩, _, _, rfl, _, _, rfl, _, rfl, by have := lit ((IV ns).length : Int); omega, by have := lit ((IV ns).length : Int); omega, ?_⟩
    have rl := lit ((IV ns).length : Int)
    generalize (if (if ((IV ns).length : Int) < 2 then ((IV ns).length : Int) else 2) > 1 then (if ((IV ns).length : Int) < 2 then ((IV ns).length : Int) else 2) else 1) = m at rl ⊢
    refine for_range (lo := 0) (n := m.toNat) (fun i σ H' => ∃ v : Option V, σ = [some (.ref a), v] ∧ Evl.Ex H H') ⟨none, rfl, Evl.Ex.refl _⟩ ?_ ?_
    · rintro i σ H1 hi ⟨v, rfl, e1⟩
      have e0 : (0 : Int) + (i : Int) = (i : Int) := Int.zero_add _
      rw [e0]
      refine ⟨_, rfl, _, rfl, a, ns, (i : Int), rfl, Evl.ex_l e1 S, by omega, by omega, hl, fun g H2 e2 => ⟨g, rfl, fun p H3 n3 e3 B => ⟨p, 0, rfl, B, by omega, fun H4 x4 => ⟨true, rfl, iteF ?_⟩⟩⟩⟩
      exact ⟨_, rfl, ex_b ((e1.trans e2).trans e3) (Evl.fresh_back (e1.trans e2) n3) x4⟩
    · rintro σ H1 ⟨v, rfl, e1⟩
      exact q _ e1
end
end K07
/-! min of one list or tuple of ints -/
namespace VB
open PySem PySem.Spec PyProof.Rows L2 PySem.W
theorem ints_reads (h : Heap) : ∀ {os : List Int} {its : List Value}, Vals (os.map V.int) its → ∃ as, ReadsAll h its (os.map PyData.int) as
  | [], _, r => by
    cases r
    exact ⟨[], .nil⟩
  | o :: os, _, r => by
    cases r with
    | cons r1 r2 =>
      obtain ⟨t, rfl⟩ := r1
      obtain ⟨as, ha⟩ := ints_reads h r2
      exact ⟨_, .cons (.int o t) ha⟩
theorem ints_alike (os : List Int) : AlikeAll (os.map PyData.int) := by
  refine ⟨fun x hx y hy => ?_, fun x hx => ?_⟩
  · obtain ⟨a, _, rfl⟩ := List.mem_map.mp hx
    obtain ⟨b, _, rfl⟩ := List.mem_map.mp hy
    rfl
  · obtain ⟨a, _, rfl⟩ := List.mem_map.mp hx
    exact fun z => nomatch z
theorem ints_depth : ∀ os : List Int, PyData.depthAll (os.map PyData.int) = 0
  | [] => rfl
  | o :: os => by
    show Nat.max 0 (PyData.depthAll (os.map PyData.int)) = 0
    rw [ints_depth os]
    rfl
theorem foldl_min_mem : ∀ (os : List Int) (n : Int), os.foldl min n ∈ n :: os
  | [], n => List.mem_cons_self ..
  | o :: os, n => by
    have h := foldl_min_mem os (min n o)
    rw [List.foldl_cons]
    rcases List.mem_cons.mp h with z | z
    · rw [z]
      by_cases c : n ≤ o
      · rw [Int.min_eq_left c]
        exact List.mem_cons_self ..
      · rw [Int.min_eq_right (by omega)]
        exact List.mem_cons_of_mem _ (List.mem_cons_self ..)
    · exact List.mem_cons_of_mem _ (List.mem_cons_of_mem _ z)
theorem foldl_min_le : ∀ (os : List Int) (n : Int), (os.foldl min n ≤ n) ∧ ∀ y ∈ os, os.foldl min n ≤ y
  | [], n => ⟨Int.le_refl _, fun y hy => nomatch hy⟩
  | o :: os, n => by
    obtain ⟨h1, h2⟩ := foldl_min_le os (min n o)
    rw [List.foldl_cons]
    refine ⟨by omega, fun y hy => ?_⟩
    rcases List.mem_cons.mp hy with z | z
    · omega
    · exact h2 y z
def rMin1 (K : PySem.W.Frag) : List V → Hp → VK → Prop := fun vs H Q => ∃ (a : Addr) (os : List Int) (t : Bool), vs = [.ref a] ∧ Sv t K H a (IV os) ∧ 0 < os.length ∧ ∀ m, m ∈ os → (∀ y, y ∈ os → m ≤ y) → Q (.int m) H
section
variable {X : Cx} {K : PySem.W.Frag}
theorem u_min1 {k : Nat} (hr : Rm k X.A) (hc : X.calm = true) (hK : X.K = K := by rfl) : CallR X (.builtin "min") (rMin1 K) := by
  subst hK
  intro pins s σ H vs us Q I r h
  obtain ⟨a, os, t, rfl, hs, hne, q⟩ := h
  cases t with
  | false => exact cr_min hc pins s σ H [.ref a] us Q I r ⟨a, os, rfl, hs, hne, q⟩
  | true =>
    obtain ⟨its, rv, ⟨⟨cls, dd, data, sl⟩, ho, hcl, n, hd⟩, hsz⟩ := I.tuple hs
    simp only at hcl hd
    subst hcl hd
    rw [Vals.ref1 r]
    obtain ⟨as, ra⟩ := ints_reads s.heap (show Vals (os.map V.int) its from rv)
    cases os with
    | nil => exact absurd hne (Nat.lt_irrefl 0)
    | cons o os =>
      have u2 := hr.rm.units
      have un : X.A.units + 1 + PyData.depthAll (PyData.int o :: os.map PyData.int) < cLine := by
        have e : PyData.depthAll (PyData.int o :: os.map PyData.int) = 0 := ints_depth (o :: os)
        rw [e]
        omega
      have ra' : ReadsAll s.heap its.toArray.toList (PyData.int o :: os.map PyData.int) as := by simpa using ra
      refine min_tuple_data (I.ok.hd hc) (vs := its.toArray) ⟨_, ho, rfl, n, rfl⟩ ra' (ints_alike (o :: os)) un fun i v h' tk bs hv rd hk => ?_
      rw [minD_ints] at rd
      cases rd with
      | int _ t =>
        obtain ⟨h1, h2⟩ := foldl_min_le os o
        exact ⟨.int _, H, I.kept hk, ⟨_, rfl⟩, q _ (foldl_min_mem os o) fun y hy => by
          rcases List.mem_cons.mp hy with z | z
          · rw [z]
            exact h1
          · exact h2 y z⟩
end
end VB
namespace K07
open PySem PySem.Spec PyProof.Rows L2 VB BM
section
variable {P : Program} {w : World} {K : PySem.W.Frag} {mg : Str → Option Value} {base : Heap} {f : Addr} {fd : FuncData}
def spIsList (K : PySem.W.Frag) : Sp := fun vs H Q _ => ∃ (a : Addr) (xs : List V) (t : Bool), vs = [.ref a] ∧ Sv t K H a xs ∧ RV (.bl true) H Q
theorem ok_is_list (T : Txt K mg) (F : FnP K "is_list" s_is_list f fd) : Fg P w K mg base CX0 1 f fd ["value"] (spIsList K) := by
  refine fg_of F sc_is_list (fun vs H Q E h => ?_) (fun cdv A outer s H vs Q E hr h => ⟨_, (PSs.nox (pss_one (ps_ret (pe_callB (u_isiT (K := K)) (by rfl) T.f_isinstance (by decide +kernel) (pa_cons (pv 0) (pa_cons (pe_tup (pa_cons (pe_bltn (v := .ty "list") rfl T.f_list (by decide +kernel) rfl) (pa_cons (pe_bltn (v := .ty "tuple") rfl T.f_tuple (by decide +kernel) rfl) pa_nil))) pa_nil)))))), ?_⟩)
  · obtain ⟨a, xs, t, rfl, _⟩ := h
    rfl
  · obtain ⟨a, xs, t, rfl, S, q⟩ := h
    refine ⟨_, rfl, by show 2 ≤ sizeLine; decide, fun tp ht => ?_⟩
    have e0 := Evl.Ex.new (o := .tup [.ty "list", .ty "tuple"]) ht
    exact ⟨_, tp, _, _, [.type "list", .type "tuple"], true, rfl, upd_same, .cons (.ty _) (.cons (.ty _) .nil), (S.ex e0).ty, kit_seq K t, q _ e0⟩
def spIsOct (K : PySem.W.Frag) : Sp := fun vs H Q _ => ∃ (a : Addr) (os : List Int) (t : Bool), vs = [.ref a] ∧ Sv t K H a (IV os) ∧ Oct os ∧ os.length ≤ 20000 ∧ RV (.bl true) H Q
theorem ok_is_octets (T : Txt K mg) (F : FnP K "is_octets" s_is_octets f fd) (C_is_list : Cal P w K mg base CX0 1 "is_list" ["value"] (spIsList K)) : Fg P w K mg base CX0 2 f fd ["value"] (spIsOct K) := by
  refine fg_of F sc_is_octets (fun vs H Q E h => ?_) (fun cdv A outer s H vs Q E hr h => ⟨_, (PSs.nox (pss_one (ps_ret (pe_and (pe_cal C_is_list hr.le pass0 (pa_cons (pv 0) pa_nil)) (pe_one (pe_callB (u_all (K := K) rfl) (by rfl) T.f_all (by decide +kernel) (pa_cons (pe_lc (own := [("octet", 1)]) rfl sc_is_octets.nd (pi_seq (K := K) (pv 0)) (blkOk_by (own := [("octet", 1)]) (N := ["value", "octet"]) (sc := defScope s_is_octets) (by decide +kernel)) (fun _ _ _ _ _ => (pg_name (i := 1) sc_is_octets.nd rfl (by first | exact Or.inl rfl | exact Or.inr rfl))) (fun _ _ _ _ _ => pts_nil) (fun _ _ _ _ _ => (pe_and (pe_callB (u_isi (K := K)) (by rfl) T.f_isinstance (by decide +kernel) (pa_cons (pv 1) (pa_cons (pe_bltn (v := .ty "int") rfl T.f_int (by decide +kernel) rfl) pa_nil))) (pe_and (pe_not (pe_callB (u_isi (K := K)) (by rfl) T.f_isinstance (by decide +kernel) (pa_cons (pv 1) (pa_cons (pe_bltn (v := .ty "bool") rfl T.f_bool (by decide +kernel) rfl) pa_nil)))) (pe_one (pe_chain op_le op_le pe_int (pv 1) pe_int)))))) pa_nil))))))), ?_⟩)
  · obtain ⟨a, os, t, rfl, _⟩ := h
    rfl
  · obtain ⟨a, os, t, rfl, S, ho, hl, q⟩ := h
    refine ⟨_, rfl, a, _, t, rfl, S, fun H0 e0 => ⟨true, rfl, iteT ?_⟩⟩
    refine seq_var (t := t) rfl (S.ex e0) fun J wk D hD => ?_
    rw [iv_len] at wk
    refine lc_pureVS (us := List.replicate os.length (V.bl true)) wk (fun H' ex => (S.ex e0).ex ex) (by simp) (by omega) hD (fun _ => rfl) ?_ ?_
    · intro i x u H' Q' hx hu ex k
      obtain ⟨o, hoi, rfl⟩ := iv_get hx
      have hm := ho o (List.mem_of_getElem? hoi)
      rw [List.eq_of_mem_replicate (List.mem_of_getElem? hu)] at k
      refine ⟨_, rfl, _, _, _, _, true, rfl, .ty _, .base (.int o), kit_ty (by decide +kernel), true, rfl, iteT ?_⟩
      refine ⟨_, rfl, _, _, _, _, false, rfl, .ty _, .base (.int o), kit_ty (by decide +kernel), false, rfl, true, rfl, iteT ?_⟩
      refine ⟨_, rfl, _, _, rfl, rfl, _, rfl, ?_⟩
      rw [decide_eq_true hm.1]
      refine iteT ⟨_, _, rfl, rfl, ?_⟩
      dsimp only
      rw [decide_eq_true hm.2]
      exact k H' (Evl.Ex.refl _)
    · intro H' ex h3
      refine ⟨D, List.replicate os.length true, rfl, SqL.of (by rw [h3, List.map_replicate]), ?_⟩
      have e : (List.replicate os.length true).all id = true := by
        rw [List.all_eq_true]
        intro b hb
        exact List.eq_of_mem_replicate hb
      rw [e]
      exact q _ (e0.trans ex)
end
end K07
namespace K07
open PySem PySem.Spec PyProof.Rows L2 VB BM
/-- the zeros of each half of an octet -/
def zh : List Int := [4, 3, 3, 2, 3, 2, 2, 1, 3, 2, 2, 1, 2, 1, 1, 0]
theorem zh_eq : ∀ n : Nat, n < 256 → zh.getD (n / 16) 0 + zh.getD (n % 16) 0 = (((bitsOf (n : Int)).count 0 : Nat) : Int) := by decide +kernel
def zN (n : Nat) : Int := zh.getD (n / 16) 0 + zh.getD (n % 16) 0
theorem zN_sum : ∀ os : List Int, Oct os → (os.map fun o => zN o.toNat).sum = zc (bitsL os)
  | [], _ => rfl
  | o :: os, h => by
    have r := zN_sum os fun x hx => h x (List.mem_cons_of_mem _ hx)
    have ho := h o (List.mem_cons_self ..)
    obtain ⟨n, rfl⟩ : ∃ n : Nat, o = n := ⟨o.toNat, by omega⟩
    rw [List.map_cons, List.sum_cons, r, Int.toNat_natCast, zN, zh_eq n (by omega)]
    show _ = zc (bitsOf (n : Int) ++ bitsL os)
    unfold zc
    rw [List.count_append]
    omega
theorem and15 : ∀ n : Nat, n < 256 → n &&& 15 = n % 16 := by decide +kernel
theorem zh_at {j : Nat} (h : j < 16) : atI (IV zh) (j : Int) = some (.int (zh.getD j 0)) := by
  have e : zh[j]? = some (zh.getD j 0) := by
    rw [List.getD_eq_getElem?_getD]
    have : j < zh.length := h
    simp [this]
  exact iv_at e
section
variable {P : Program} {w : World} {K : PySem.W.Frag} {mg : Str → Option Value} {base : Heap} {f : Addr} {fd : FuncData}
def spZB (K : PySem.W.Frag) : Sp := fun vs H Q _ => ∃ (a : Addr) (os : List Int) (t : Bool), vs = [.ref a] ∧ Sv t K H a (IV os) ∧ Oct os ∧ os.length ≤ 20000 ∧ RV (.int (zc (bitsL os))) H Q
theorem ok_zero_bits (T : Txt K mg) (F : FnP K "zero_bits" s_zero_bits f fd) : Fg P w K mg base CX0 1 f fd ["octets"] (spZB K) := by
  refine fg_of F sc_zero_bits (fun vs H Q E h => ?_) (fun cdv A outer s H vs Q E hr h => ⟨_, (PSs.nox (pss_one (ps_ret (pe_callB (u_sum (K := K) rfl) (by rfl) T.f_sum (by decide +kernel) (pa_cons (pe_lc (own := [("octet", 1)]) rfl sc_zero_bits.nd (pi_seq (K := K) (pv 0)) (blkOk_by (own := [("octet", 1)]) (N := ["octets", "octet"]) (sc := defScope s_zero_bits) (by decide +kernel)) (fun _ _ _ _ _ => (pg_name (i := 1) sc_zero_bits.nd rfl (by first | exact Or.inl rfl | exact Or.inr rfl))) (fun _ _ _ _ _ => pts_nil) (fun _ _ _ _ _ => (pe_op (u_add (K := K)) (pe_ix (u_ix (K := K)) (pe_glob (v := .ref (He.ga K "ZEROS_OF_HALF")) rfl T.g_ZEROS_OF_HALF rfl) (pe_op op_shrN (pv 1) pe_int) (fun _ _ => rfl)) (pe_ix (u_ix (K := K)) (pe_glob (v := .ref (He.ga K "ZEROS_OF_HALF")) rfl T.g_ZEROS_OF_HALF rfl) (pe_op op_and (pv 1) pe_int) (fun _ _ => rfl))))) pa_nil))))), ?_⟩)
  · obtain ⟨a, os, t, rfl, _⟩ := h
    rfl
  · obtain ⟨a, os, t, rfl, S, ho, hl, q⟩ := h
    refine seq_var (t := t) rfl S fun J wk D hD => ?_
    rw [iv_len] at wk
    refine lc_pureVS (us := IV (os.map fun o => zN o.toNat)) wk (fun H' ex => S.ex ex) (by simp) (by omega) hD (fun _ => rfl) ?_ ?_
    · intro i x u H' Q' hx hu ex k
      obtain ⟨o, hoi, rfl⟩ := iv_get hx
      have hm := ho o (List.mem_of_getElem? hoi)
      obtain ⟨n, rfl⟩ : ∃ n : Nat, o = n := ⟨o.toNat, by omega⟩
      rw [List.getElem?_map, List.getElem?_map, hoi] at hu
      cases hu
      have hz := T.t_ZEROS_OF_HALF H'
      have a15 : Builtin.bitAnd (n : Int) 15 = ((n % 16 : Nat) : Int) := by
        rw [VB.bitAnd_pp (by omega) (by omega)]
        have e := and15 n (by omega)
        exact congrArg Nat.cast e
      have d16 : (n : Int) / 2 ^ 4 = ((n / 16 : Nat) : Int) := by omega
      refine ⟨_, rfl, n, 4, rfl, rfl, Sv.ix (x := .non) (show Sv true K H' _ (IV zh) from hz) (i := (n : Int) / 2 ^ 4) (by rw [d16]; exact zh_at (by omega)) ⟨_, rfl, _, _, rfl, rfl, Sv.ix (x := .non) (show Sv true K H' _ (IV zh) from hz) (i := Builtin.bitAnd (n : Int) 15) (by rw [a15]; exact zh_at (by omega)) ?_⟩⟩
      refine .inl ⟨_, _, rfl, rfl, ?_⟩
      have kk := k H' (Evl.Ex.refl _)
      exact kk
    · intro H' ex h3
      refine ⟨D, os.map fun o => zN o.toNat, rfl, SqL.of h3, ?_⟩
      rw [zN_sum os ho]
      exact q _ ex
end
end K07
namespace K07
open PySem PySem.Spec PyProof.Rows L2 VB BM
section
variable {P : Program} {w : World} {K : PySem.W.Frag} {mg : Str → Option Value} {base : Heap} {f : Addr} {fd : FuncData}
def spOctOf (K : PySem.W.Frag) : Sp := fun vs H Q _ => ∃ (a : Addr) (os : List Int) (t : Bool) (n : Int), vs = [.ref a, .int n] ∧ Sv t K H a (IV os) ∧ Oct os ∧ os.length ≤ 20000 ∧ (os.length : Int) = n ∧ RV (.bl true) H Q
theorem ok_octets_of (T : Txt K mg) (F : FnP K "is_octets_of" s_is_octets_of f fd) (C_is_list : Cal P w K mg base CX0 1 "is_list" ["value"] (spIsList K)) (C_is_octets : Cal P w K mg base CX0 2 "is_octets" ["value"] (spIsOct K)) : Fg P w K mg base CX0 3 f fd ["value", "count"] (spOctOf K) := by
  refine fg_of F sc_is_octets_of (fun vs H Q E h => ?_) (fun cdv A outer s H vs Q E hr h => ⟨_, (PSs.nox (pss_one (ps_ret (pe_and (pe_cal C_is_list hr.le pass0 (pa_cons (pv 0) pa_nil)) (pe_and (pe_cmpR (u_eq (K := K) hr) (pe_callB (u_len (K := K)) (by rfl) T.f_len (by decide +kernel) (pa_cons (pv 0) pa_nil)) (pv 1) (nomark _)) (pe_one (pe_cal C_is_octets hr.le pass0 (pa_cons (pv 0) pa_nil)))))))), ?_⟩)
  · obtain ⟨a, os, t, n, rfl, _⟩ := h
    rfl
  · obtain ⟨a, os, t, n, rfl, S, ho, hl, hn, q⟩ := h
    refine ⟨_, rfl, a, _, t, rfl, S, fun H1 e1 => ⟨true, rfl, iteT ?_⟩⟩
    refine ⟨_, rfl, _, _, rfl, (S.ex e1).len, _, rfl, .inl ⟨rfl, _, rfl, ?_⟩⟩
    have en : V.int ((IV os).length : Int) = V.int n := by rw [iv_len, hn]
    rw [en, decide_eq_true rfl]
    exact iteT ⟨_, rfl, a, os, t, rfl, S.ex e1, ho, hl, fun H2 e2 => q _ (e1.trans e2)⟩
def spIsPage (K : PySem.W.Frag) : Sp := fun vs H Q _ => ∃ (a : Addr) (os : List Int) (t : Bool), vs = [.ref a] ∧ Sv t K H a (IV os) ∧ Oct os ∧ os.length = 31 ∧ RV (.bl true) H Q
theorem ok_is_page (T : Txt K mg) (F : FnP K "_is_page" s__is_page f fd) (C_is_octets_of : Cal P w K mg base CX0 3 "is_octets_of" ["value", "count"] (spOctOf K)) : Fg P w K mg base CX0 4 f fd ["value"] (spIsPage K) := by
  refine fg_of F sc__is_page (fun vs H Q E h => ?_) (fun cdv A outer s H vs Q E hr h => ⟨_, (PSs.nox (pss_one (ps_ret (pe_cal C_is_octets_of hr.le pass0 (pa_cons (pv 0) (pa_cons (pe_globI rfl T.g_PAGE_OCTETS) pa_nil)))))), ?_⟩)
  · obtain ⟨a, os, t, rfl, _⟩ := h
    rfl
  · obtain ⟨a, os, t, rfl, S, ho, hl, q⟩ := h
    exact ⟨_, rfl, a, os, t, 31, rfl, S, ho, by omega, by omega, q⟩
theorem ok_sealed (T : Txt K mg) (F : FnP K "sealed" s_sealed f fd) (C_is_octets_of : Cal P w K mg base CX0 3 "is_octets_of" ["value", "count"] (spOctOf K)) (C_zero_bits : Cal P w K mg base CX0 1 "zero_bits" ["octets"] (spZB K)) : Fg P w K mg base CX0 6 f fd ["data"] (spSealed K) := by
  refine fg_of F sc_sealed (fun vs H Q E h => ?_) (fun cdv A outer s H vs Q E hr h => ⟨_, (PSs.nox (pss_cons (ps_if (pt_not (pt_tru (K := K) (pe_cal C_is_octets_of hr.le pass0 (pa_cons (pv 0) (pa_cons (pe_globI rfl T.g_DATA_OCTETS) pa_nil))) (by intro _; rfl)))
  (pss_one ps_never) pss_nil)
  (pss_one (ps_ret (pe_op (u_add (K := K)) (pe_callTy (u_tup (K := K)) (by rfl) T.f_tuple (by decide +kernel) (pa_cons (pv 0) pa_nil)) (pe_tup (pa_cons (pe_cal C_zero_bits hr.le pass0 (pa_cons (pv 0) pa_nil)) pa_nil))))))), ?_⟩)
  · obtain ⟨a, os, t, rfl, _⟩ := h
    rfl
  · obtain ⟨a, os, t, rfl, S, ho, hl, q⟩ := h
    refine ⟨_, rfl, a, os, t, 30, rfl, S, ho, by omega, by omega, fun H1 e1 => ⟨true, rfl, iteF ?_⟩⟩
    have tail : ∀ (p : Addr) (H2 : Hp), Evl.Ex H1 H2 → SqT K H2 p (IV os) → tTup (tCons (tCall (spZB K) [] E0 (tCons (tVar 0) tNil)) tNil) (L2.start ["data"] [V.ref a]) H2 fun y H3 => rAddU K (.ref p) y H3 Q := by
      intro p H2 e2 S2
      refine ⟨_, rfl, a, os, t, rfl, (S.ex e1).ex e2, ho, by omega, fun H3 e3 => ⟨by show 1 ≤ sizeLine; decide, fun l nl => ?_⟩⟩
      have x := Evl.Ex.new (o := .tup [V.int (zc (bitsL os))]) nl
      have ne : IV os ≠ [] := by
        intro z
        have := iv_len os
        rw [z] at this
        have l0 : ([] : List V).length = 0 := rfl
        omega
      refine .inr (.inr ⟨p, l, IV os, [V.int (zc (bitsL os))], rfl, rfl, Evl.ex_t (e3.trans x) S2, SqT.of upd_same, ne, ?_, fun z => (nomatch z), fun _ r nr => ?_⟩)
      · rw [iv_len]
        exact Nat.le_of_lt (Evl.sz_lt (by show os.length + 1 < _; omega))
      · have y := Evl.Ex.new (o := .tup (IV os ++ [V.int (zc (bitsL os))])) nr
        refine q r _ ((((e1.trans e2).trans e3).trans x).trans y) ?_
        have e : IV (os ++ [zc (bitsL os)]) = IV os ++ [V.int (zc (bitsL os))] := List.map_append
        rw [e]
        exact SqT.of upd_same
    refine ⟨_, rfl, a, IV os, rfl, ?_⟩
    cases t with
    | false => exact .inl ⟨S.ex e1, fun l nl => tail l _ (Evl.Ex.new nl) (SqT.of upd_same)⟩
    | true => exact .inr ⟨S.ex e1, tail a _ (Evl.Ex.refl _) (S.ex e1)⟩
theorem ok_surplus (T : Txt K mg) (F : FnP K "surplus" s_surplus f fd) (C__is_page : Cal P w K mg base CX0 4 "_is_page" ["value"] (spIsPage K)) (C_zero_bits : Cal P w K mg base CX0 1 "zero_bits" ["octets"] (spZB K)) : Fg P w K mg base CX0 7 f fd ["octets"] (spSurplus K) := by
  refine fg_of F sc_surplus (fun vs H Q E h => ?_) (fun cdv A outer s H vs Q E hr h => ⟨_, (PSs.nox (pss_cons (ps_if (pt_not (pt_tru (K := K) (pe_cal C__is_page hr.le pass0 (pa_cons (pv 0) pa_nil)) (by intro _; rfl)))
  (pss_one ps_never) pss_nil)
  (pss_one (ps_ret (pe_op op_sub (pe_ix (u_ix (K := K)) (pv 0) (pe_globI rfl T.g_DATA_OCTETS) (fun _ _ => rfl)) (pe_cal C_zero_bits hr.le pass0 (pa_cons (pe_slice (u_sl (K := K)) (pv 0) po_none (po_some (pe_globI rfl T.g_DATA_OCTETS))) pa_nil))))))), ?_⟩)
  · obtain ⟨a, os, t, rfl, _⟩ := h
    rfl
  · obtain ⟨a, os, t, rfl, S, ho, hl, q⟩ := h
    refine ⟨_, rfl, a, os, t, rfl, S, ho, hl, fun H1 e1 => ⟨true, rfl, iteF ?_⟩⟩
    have S1 := S.ex e1
    refine ⟨_, rfl, Sv.ix (x := .non) S1 (i := 30) (iv_at (i := 30) (get30 hl)) ⟨_, rfl, 30, rfl, Sv.first S1 (n := 30) (by omega) fun p H2 np e2 S2 => ⟨p, _, t, rfl, S2, fun o ho2 => ho o (List.mem_of_mem_take ho2), by rw [List.length_take]; omega, fun H3 e3 => ⟨_, _, rfl, rfl, ?_⟩⟩⟩⟩
    exact q _ ((e1.trans e2).trans e3)
theorem ok_is_whole (T : Txt K mg) (F : FnP K "is_whole" s_is_whole f fd) (C__is_page : Cal P w K mg base CX0 4 "_is_page" ["value"] (spIsPage K)) (C_surplus : Cal P w K mg base CX0 7 "surplus" ["octets"] (spSurplus K)) : Fg P w K mg base CX0 8 f fd ["value"] (spWhole K) := by
  refine fg_of F sc_is_whole (fun vs H Q E h => ?_) (fun cdv A outer s H vs Q E hr h => ⟨_, (PSs.nox (pss_one (ps_ret (pe_and (pe_cal C__is_page hr.le pass0 (pa_cons (pv 0) pa_nil)) (pe_one (pe_cmpR (u_eq (K := K) hr) (pe_cal C_surplus hr.le pass0 (pa_cons (pv 0) pa_nil)) pe_int (nomark _))))))), ?_⟩)
  · obtain ⟨a, os, t, rfl, _⟩ := h
    rfl
  · obtain ⟨a, os, t, rfl, S, ho, hl, q⟩ := h
    refine ⟨_, rfl, a, os, t, rfl, S, ho, hl, fun H1 e1 => ⟨true, rfl, iteT ?_⟩⟩
    refine ⟨_, rfl, a, os, t, rfl, S.ex e1, ho, hl, fun H2 e2 => .inl ⟨rfl, ?_⟩⟩
    rw [dec_int]
    exact q _ (e1.trans e2)
/-- the least octet is 255 exactly if all are -/
theorem pln_min {os : List Int} (ho : Oct os) (hl : os.length = 31) {m : Int} (hm : m ∈ os) (hy : ∀ y, y ∈ os → m ≤ y) : pln os = decide (m = 255) := by
  unfold pln
  by_cases c : m = 255
  · rw [decide_eq_true c, decide_eq_true]
    refine List.eq_replicate_iff.mpr ⟨hl, fun b hb => ?_⟩
    have h1 := hy b hb
    have h2 := ho b hb
    omega
  · rw [decide_eq_false c, decide_eq_false]
    intro e
    rw [e] at hm
    exact c (List.eq_of_mem_replicate hm)
theorem ok_is_clean (T : Txt K mg) (F : FnP K "is_clean" s_is_clean f fd) (C__is_page : Cal P w K mg base CX0 4 "_is_page" ["value"] (spIsPage K)) : Fg P w K mg base CX0 8 f fd ["value"] (spClean K) := by
  refine fg_of F sc_is_clean (fun vs H Q E h => ?_) (fun cdv A outer s H vs Q E hr h => ⟨_, (PSs.nox (pss_one (ps_ret (pe_and (pe_cal C__is_page hr.le pass0 (pa_cons (pv 0) pa_nil)) (pe_one (pe_cmpR (u_eq (K := K) hr) (pe_callB (u_min1 (K := K) hr rfl) (by rfl) T.f_min (by decide +kernel) (pa_cons (pv 0) pa_nil)) pe_int (nomark _))))))), ?_⟩)
  · obtain ⟨a, os, t, rfl, _⟩ := h
    rfl
  · obtain ⟨a, os, t, rfl, S, ho, hl, q⟩ := h
    refine ⟨_, rfl, a, os, t, rfl, S, ho, hl, fun H1 e1 => ⟨true, rfl, iteT ?_⟩⟩
    refine ⟨_, rfl, a, os, t, rfl, S.ex e1, by omega, fun m hm hy => .inl ⟨rfl, ?_⟩⟩
    rw [dec_int, ← pln_min ho hl hm hy]
    exact q _ e1
theorem ok_is_torn (T : Txt K mg) (F : FnP K "is_torn" s_is_torn f fd) (C__is_page : Cal P w K mg base CX0 4 "_is_page" ["value"] (spIsPage K)) (C_surplus : Cal P w K mg base CX0 7 "surplus" ["octets"] (spSurplus K)) : Fg P w K mg base CX0 8 f fd ["value"] (spTorn K) := by
  refine fg_of F sc_is_torn (fun vs H Q E h => ?_) (fun cdv A outer s H vs Q E hr h => ⟨_, (PSs.nox (pss_one (ps_ret (pe_and (pe_cal C__is_page hr.le pass0 (pa_cons (pv 0) pa_nil)) (pe_and (pe_cmpR op_lt (pe_callB (u_min1 (K := K) hr rfl) (by rfl) T.f_min (by decide +kernel) (pa_cons (pv 0) pa_nil)) pe_int (nomark _)) (pe_one (pe_cmpR (u_ne (K := K) hr) (pe_cal C_surplus hr.le pass0 (pa_cons (pv 0) pa_nil)) pe_int (nomark _)))))))), ?_⟩)
  · obtain ⟨a, os, t, rfl, _⟩ := h
    rfl
  · obtain ⟨a, os, t, rfl, S, ho, hl, q⟩ := h
    refine ⟨_, rfl, a, os, t, rfl, S, ho, hl, fun H1 e1 => ⟨true, rfl, iteT ?_⟩⟩
    refine ⟨_, rfl, a, os, t, rfl, S.ex e1, by omega, fun m hm hy => ⟨_, _, rfl, rfl, _, rfl, if_dec (fun h2 => ?_) (fun h2 => ?_)⟩⟩
    · have pm : pln os = false := by
        rw [pln_min ho hl hm hy]
        exact decide_eq_false (by omega)
      refine ⟨_, rfl, a, os, t, rfl, S.ex e1, ho, hl, fun H2 e2 => .inl ⟨rfl, ?_⟩⟩
      have z := q H2 (e1.trans e2)
      rw [pm] at z
      rw [dec_int]
      simpa using z
    · have m2 := ho m hm
      have pm : pln os = true := by
        rw [pln_min ho hl hm hy]
        exact decide_eq_true (by omega)
      have z := q H1 e1
      rw [pm] at z
      simpa using z
def spDTB (K : PySem.W.Frag) : Sp := spDataOf K
theorem ok_data_told_by (T : Txt K mg) (F : FnP K "data_told_by" s_data_told_by f fd) (C_zero_bits : Cal P w K mg base CX0 1 "zero_bits" ["octets"] (spZB K)) : Fg P w K mg base CX0 4 f fd ["page"] (spDTB K) := by
  refine fg_of F sc_data_told_by (fun vs H Q E h => ?_) (fun cdv A outer s H vs Q E hr h => ⟨_, (PSs.nox (pss_cons (ps_set (i := 1) sc_data_told_by.nd rfl (by first | exact Or.inl rfl | exact Or.inr rfl) (pe_callTy (u_tup (K := K)) (by rfl) T.f_tuple (by decide +kernel) (pa_cons (pe_slice (u_sl (K := K)) (pv 0) po_none (po_some (pe_globI rfl T.g_DATA_OCTETS))) pa_nil)))
  (pss_cons (ps_set (i := 2) sc_data_told_by.nd rfl (by first | exact Or.inl rfl | exact Or.inr rfl) (pe_ix (u_ix (K := K)) (pv 0) (pe_globI rfl T.g_DATA_OCTETS) (fun _ _ => rfl)))
  (pss_cons (ps_if (PW.pt (pw_or (pt_cmpR op_gt (pv 2) (pe_globI rfl T.g_MOST_ZEROS) (nomark _)) (pw_or1 (pt_cmpR (u_ne (K := K) hr) (pv 2) (pe_cal C_zero_bits hr.le pass0 (pa_cons (pv 1) pa_nil)) (nomark _)))))
  (pss_one (ps_ret pe_non)) pss_nil)
  (pss_one (ps_ret (pv 1))))))), ?_⟩)
  · obtain ⟨a, os, t, rfl, _⟩ := h
    rfl
  · obtain ⟨a, os, t, rfl, S, ho, hl, q⟩ := h
    refine ⟨_, rfl, 30, rfl, Sv.first S (n := 30) (by omega) fun p H1 np e1 S1 => ?_⟩
    have tail : ∀ (v : Addr) (H2 : Hp), Evl.Ex H H2 → SqT K H2 v (IV (os.take 30)) → tSeq (tAsg (tOp (rIx K) (tVar 0) (tC (V.int 30))) (gName 2)) (tSeq (tIfS (tOr (tTest (tOp (rI0 fun i j => V.bl (decide (j < i))) (tVar 2) (tC (V.int 240)))) (tTest (tOp (rNeU K) (tVar 2) (tCall (spZB K) [] E0 (tCons (tVar 1) tNil))))) (tRet (tC V.non)) tNext) (tRet (tVar 1))) { nx := fun x H' => Q V.non H', rt := Q } [some (.ref a), some (.ref v), none] H2 := by
      intro v H2 e2 S2
      have b := zc_bound (bitsL (os.take 30))
      rw [bitsL_len, List.length_take] at b
      refine ⟨_, rfl, Sv.ix (x := .non) (S.ex e2) (i := 30) (iv_at (i := 30) (get30 hl)) ⟨_, rfl, _, _, rfl, rfl, _, rfl, if_dec (fun h => ?_) (fun h => ?_)⟩⟩
      · have n0 : ¬ ovr os = 0 := by unfold ovr; omega
        have z := q .non H2 e2
        rw [if_neg n0] at z
        exact z .non
      · refine ⟨_, rfl, _, rfl, v, os.take 30, true, rfl, S2, fun o ho2 => ho o (List.mem_of_mem_take ho2), by rw [List.length_take]; omega, fun H3 e3 => .inl ⟨rfl, _, rfl, ?_⟩⟩
        rw [dec_int]
        have hz := q (.ref v) H3 (e2.trans e3)
        by_cases z : os.getD 30 0 = zc (bitsL (os.take 30))
        · have n0 : ovr os = 0 := by unfold ovr; omega
          rw [if_pos n0] at hz
          rw [decide_eq_true z]
          exact iteF ⟨_, rfl, hz (Dp.ex e3 _ _ (dp_t S2))⟩
        · have n0 : ¬ ovr os = 0 := by unfold ovr; omega
          have hn := q .non H3 (e2.trans e3)
          rw [if_neg n0] at hn
          rw [decide_eq_false z]
          exact iteT (hn .non)
    refine ⟨p, IV (os.take 30), rfl, ?_⟩
    cases t with
    | false => exact .inl ⟨S1, fun l nl => tail l _ (e1.trans (Evl.Ex.new nl)) (SqT.of upd_same)⟩
    | true => exact .inr ⟨S1, tail p _ e1 S1⟩
theorem ok_data_of (T : Txt K mg) (F : FnP K "data_of" s_data_of f fd) (C__is_page : Cal P w K mg base CX0 4 "_is_page" ["value"] (spIsPage K)) (C_data_told_by : Cal P w K mg base CX0 4 "data_told_by" ["page"] (spDTB K)) : Fg P w K mg base CX0 8 f fd ["octets"] (spDataOf K) := by
  refine fg_of F sc_data_of (fun vs H Q E h => ?_) (fun cdv A outer s H vs Q E hr h => ⟨_, (PSs.nox (pss_cons (ps_if (pt_not (pt_tru (K := K) (pe_cal C__is_page hr.le pass0 (pa_cons (pv 0) pa_nil)) (by intro _; rfl)))
  (pss_one ps_never) pss_nil)
  (pss_one (ps_ret (pe_cal C_data_told_by hr.le pass0 (pa_cons (pv 0) pa_nil)))))), ?_⟩)
  · obtain ⟨a, os, t, rfl, _⟩ := h
    rfl
  · obtain ⟨a, os, t, rfl, S, ho, hl, q⟩ := h
    refine ⟨_, rfl, a, os, t, rfl, S, ho, hl, fun H1 e1 => ⟨true, rfl, iteF ?_⟩⟩
    exact ⟨_, rfl, a, os, t, rfl, S.ex e1, ho, hl, fun v H2 e2 d => q v H2 (e1.trans e2) d⟩
end
end K07
/-! the ends -/
namespace VB
open PySem PySem.Spec PyProof.Rows L2
theorem vals_getD {zs : List V} {ws : List Value} (h : Vals zs ws) : ∀ i : Nat, RelV (zs.getD i .non) (ws.getD i .none) := by
  induction h with
  | nil =>
    intro i
    exact rfl
  | cons r _ ih =>
    intro i
    cases i with
    | zero => exact r
    | succ i => exact ih i
theorem kb_of {K : PySem.W.Frag} {x qual : Str} {params : Arguments} {body : List Stmt} {scope : Scope} {kws : List (Str × V)} {f : Addr} {fd : FuncData} {ps ks : List Str} {n : Nat}
    {g : List Value → List Value → List Value} {gV : List V → List V → List V} (F : FunD K x qual params body scope [] kws f fd)
    (hrel : ∀ {vs : List V} {us : List Value} {zs : List V} {ws : List Value}, Vals vs us → Vals zs ws → Vals (gV vs zs) (g us ws))
    (h : ∀ (kV doc pm : Value) (an : Option Addr) (cdv ct : Value) (us ws : List Value), us.length = n → ws.length = ks.length → bindArgs (PySem.W.fnOf x qual params body scope .none kV doc pm an cdv ct) ⟨us, ks.zip ws⟩ = pure (ps.zip (g us ws))) :
    KBn K fd ps n ks g gV := by
  obtain ⟨oc, od, dV, kV, doc, pm, an, cdv, ct, osl, rfl, lk, hcd, hD, hK⟩ := F.ex
  rcases hD with ⟨_, rfl⟩ | ⟨e, _⟩
  · exact ⟨fun s us ws _ l1 l2 => .of_eq (h kV doc pm an cdv ct us ws l1 l2), fun r1 r2 => hrel r1 r2⟩
  · exact absurd rfl e
end VB
set_option maxHeartbeats 0
namespace K07
open PySem PySem.Spec PyProof.Rows L2 VB
def d__law_take : He.DefD := ⟨("_law_take", none), "_law_take", "_law_take", defArgs s__law_take, defBody s__law_take, defScope s__law_take, [], []⟩
def d__law_drawn : He.DefD := ⟨("_law_drawn", none), "_law_drawn", "_law_drawn", defArgs s__law_drawn, defBody s__law_drawn, defScope s__law_drawn, [], []⟩
def d__law_data : He.DefD := ⟨("_law_data", none), "_law_data", "_law_data", defArgs s__law_data, defBody s__law_data, defScope s__law_data, [], []⟩
def d__law_zeros : He.DefD := ⟨("_law_zeros", none), "_law_zeros", "_law_zeros", defArgs s__law_zeros, defBody s__law_zeros, defScope s__law_zeros, [], []⟩
def d__law_fitting : He.DefD := ⟨("_law_fitting", none), "_law_fitting", "_law_fitting", defArgs s__law_fitting, defBody s__law_fitting, defScope s__law_fitting, [], []⟩
def d__law_turned : He.DefD := ⟨("_law_turned", none), "_law_turned", "_law_turned", defArgs s__law_turned, defBody s__law_turned, defScope s__law_turned, [], []⟩
def d__law_many_turned : He.DefD := ⟨("_law_many_turned", none), "_law_many_turned", "_law_many_turned", defArgs s__law_many_turned, defBody s__law_many_turned, defScope s__law_many_turned, [], []⟩
def d__law_pages : He.DefD := ⟨("_law_pages", none), "_law_pages", "_law_pages", defArgs s__law_pages, defBody s__law_pages, defScope s__law_pages, [], []⟩
def d_is_list : He.DefD := ⟨("is_list", none), "is_list", "is_list", defArgs s_is_list, defBody s_is_list, defScope s_is_list, [], []⟩
def d_is_octets : He.DefD := ⟨("is_octets", none), "is_octets", "is_octets", defArgs s_is_octets, defBody s_is_octets, defScope s_is_octets, [], []⟩
def d_is_octets_of : He.DefD := ⟨("is_octets_of", none), "is_octets_of", "is_octets_of", defArgs s_is_octets_of, defBody s_is_octets_of, defScope s_is_octets_of, [], []⟩
def d_zero_bits : He.DefD := ⟨("zero_bits", none), "zero_bits", "zero_bits", defArgs s_zero_bits, defBody s_zero_bits, defScope s_zero_bits, [], []⟩
def d_sealed : He.DefD := ⟨("sealed", none), "sealed", "sealed", defArgs s_sealed, defBody s_sealed, defScope s_sealed, [], []⟩
def d__law_seal_right : He.DefD := ⟨("_law_seal_right", none), "_law_seal_right", "_law_seal_right", defArgs s__law_seal_right, defBody s__law_seal_right, defScope s__law_seal_right, [], []⟩
def d__is_page : He.DefD := ⟨("_is_page", none), "_is_page", "_is_page", defArgs s__is_page, defBody s__is_page, defScope s__is_page, [], []⟩
def d_is_clean : He.DefD := ⟨("is_clean", none), "is_clean", "is_clean", defArgs s_is_clean, defBody s_is_clean, defScope s_is_clean, [], []⟩
def d_surplus : He.DefD := ⟨("surplus", none), "surplus", "surplus", defArgs s_surplus, defBody s_surplus, defScope s_surplus, [], []⟩
def d_is_whole : He.DefD := ⟨("is_whole", none), "is_whole", "is_whole", defArgs s_is_whole, defBody s_is_whole, defScope s_is_whole, [], []⟩
def d_is_torn : He.DefD := ⟨("is_torn", none), "is_torn", "is_torn", defArgs s_is_torn, defBody s_is_torn, defScope s_is_torn, [], []⟩
def d_data_told_by : He.DefD := ⟨("data_told_by", none), "data_told_by", "data_told_by", defArgs s_data_told_by, defBody s_data_told_by, defScope s_data_told_by, [], []⟩
def d_data_of : He.DefD := ⟨("data_of", none), "data_of", "data_of", defArgs s_data_of, defBody s_data_of, defScope s_data_of, [], []⟩
def d__law_told : He.DefD := ⟨("_law_told", none), "_law_told", "_law_told", defArgs s__law_told, defBody s__law_told, defScope s__law_told, [], []⟩
def d__law_due : He.DefD := ⟨("_law_due", none), "_law_due", "_law_due", defArgs s__law_due, defBody s__law_due, defScope s__law_due, [], []⟩
def d__law_page_right : He.DefD := ⟨("_law_page_right", none), "_law_page_right", "_law_page_right", defArgs s__law_page_right, defBody s__law_page_right, defScope s__law_page_right, [], []⟩
def d__law_again_right : He.DefD := ⟨("_law_again_right", none), "_law_again_right", "_law_again_right", defArgs s__law_again_right, defBody s__law_again_right, defScope s__law_again_right, [], []⟩
def d__law_right : He.DefD := ⟨("_law_right", none), "_law_right", "_law_right", defArgs s__law_right, defBody s__law_right, defScope s__law_right, [], []⟩
def d__law_box : He.DefD := ⟨("_law_box", none), "_law_box", "_law_box", defArgs s__law_box, defBody s__law_box, defScope s__law_box, [], []⟩
def d__law_cell : He.DefD := ⟨("_law_cell", none), "_law_cell", "_law_cell", defArgs s__law_cell, defBody s__law_cell, defScope s__law_cell, [], []⟩
def d_law : He.DefD := ⟨("law", none), "law", "law", defArgs s_law, defBody s_law, defScope s_law, [], []⟩
def fnl : List He.DefD := [d__law_take, d__law_drawn, d__law_data, d__law_zeros, d__law_fitting, d__law_turned, d__law_many_turned, d__law_pages, d_is_list, d_is_octets, d_is_octets_of, d_zero_bits, d_sealed, d__law_seal_right, d__is_page, d_is_clean, d_surplus, d_is_whole, d_is_torn, d_data_told_by, d_data_of, d__law_told, d__law_due, d__law_page_right, d__law_again_right, d__law_right, d__law_box, d__law_cell, d_law]
def fal : List He.Fa := [.glo "_law_take", .glo "_law_drawn", .glo "_law_data", .glo "_law_zeros", .glo "_law_fitting", .glo "_law_turned", .glo "_law_many_turned", .glo "_law_pages", .glo "is_list", .glo "is_octets", .glo "is_octets_of", .glo "zero_bits", .glo "sealed", .glo "_law_seal_right", .glo "_is_page", .glo "is_clean", .glo "surplus", .glo "is_whole", .glo "is_torn", .glo "data_told_by", .glo "data_of", .glo "_law_told", .glo "_law_due", .glo "_law_page_right", .glo "_law_again_right", .glo "_law_right", .glo "_law_box", .glo "_law_cell", .glo "law", .free "abs", .free "all", .free "bool", .free "int", .free "isinstance", .free "len", .free "list", .free "max", .free "min", .free "range", .free "repr", .free "reversed", .free "sum", .free "tuple", .int "DATA_OCTETS" 30, .int "MOST_ZEROS" 240, .int "PAGE_OCTETS" 31, .glo "ZEROS_OF_HALF"]
abbrev Rw : PySem.W.OpenRow := PySem.W.OpenLaw.row PySem.Challenge.rw_onewaybits_k07_pages_told
def exB (K : PySem.W.Frag) : Bool := He.tupB K "ZEROS_OF_HALF" [.int 4, .int 3, .int 3, .int 2, .int 3, .int 2, .int 2, .int 1, .int 3, .int 2, .int 2, .int 1, .int 2, .int 1, .int 1, .int 0] && (true)
abbrev hk : PySem.W.Hook := He.hookX 4 fal fnl [] [] exB
def ob (s : PySem.W.SharedT) : He.AlX := He.obsX 4 fal fnl [] [] exB (HandSHeadRun.getT s)
theorem ob_eq (s : PySem.W.SharedT) : ob s = hk.obs s.abs := He.obsX_eq (HandSHeadRun.getT_eq s)
def ln0 : List Str := ["FlashError", "InvalidOctets", "InvalidData", "PAGE_OCTETS", "DATA_OCTETS", "is_list", "is_octets", "is_octets_of", "ZEROS_OF_HALF", "zero_bits", "MOST_ZEROS", "sealed", "is_clean", "is_whole", "is_torn", "data_of", "data_told_by", "surplus", "_is_page", "_law_cell", "_law_box", "_law_take", "_law_zeros", "_law_turned", "_law_drawn", "_law_data", "_law_fitting", "_law_many_turned", "_law_pages", "_law_due"]
def ln1 : List Str := ["_law_told", "_law_page_right", "_law_seal_right", "_law_again_right", "_law_right"]
abbrev lns : List Str := ln0 ++ ln1
theorem run (w : World) : HandSHeadRun.RunEq Rw (PySem.W.view Rw.prog [40]) hk ob 20000 lns w := by
  intro os
  kernel_rfl
theorem facts {P : Program} {w : World} {K : PySem.W.Frag} {h : Heap} {mg : Str → Option Value} {f : Addr} (X : K.In h) (G : h.Ns mainGlobals mg) (hfa : mg ("law" : Str) = some (.ref f)) (cx : He.SaysX fal fnl [] [] exB w h K) :
    ∃ fd : FuncData, (∀ (s : Shared) (v : Value), BindsTo s fd ⟨[v], []⟩ [("_law_script", v)]) ∧ ∀ base : Heap, K.In base → base.Ns mainGlobals mg → Fg P w K mg base CX0 13 f fd ["_law_script"] (spLaw K) := by
  have c := cx.t.d
  have cm := cx.more
  have tb_ZEROS_OF_HALF : ∀ H : Hp, SqT K H (He.ga K "ZEROS_OF_HALF") (List.map V.int [4, 3, 3, 2, 3, 2, 2, 1, 3, 2, 2, 1, 2, 1, 1, 0]) := fun H => He.tupB_ok (He.ba cm).1 H
  have cm := (He.ba cm).2
  obtain ⟨fd__law_take, F__law_take⟩ := c.def_ 0 (d := d__law_take) rfl
  have g__law_take := He.glo_ok X G (c.fact 0 (f := .glo "_law_take") rfl)
  obtain ⟨fd__law_drawn, F__law_drawn⟩ := c.def_ 1 (d := d__law_drawn) rfl
  have g__law_drawn := He.glo_ok X G (c.fact 1 (f := .glo "_law_drawn") rfl)
  obtain ⟨fd__law_data, F__law_data⟩ := c.def_ 2 (d := d__law_data) rfl
  have g__law_data := He.glo_ok X G (c.fact 2 (f := .glo "_law_data") rfl)
  obtain ⟨fd__law_zeros, F__law_zeros⟩ := c.def_ 3 (d := d__law_zeros) rfl
  have g__law_zeros := He.glo_ok X G (c.fact 3 (f := .glo "_law_zeros") rfl)
  obtain ⟨fd__law_fitting, F__law_fitting⟩ := c.def_ 4 (d := d__law_fitting) rfl
  have g__law_fitting := He.glo_ok X G (c.fact 4 (f := .glo "_law_fitting") rfl)
  obtain ⟨fd__law_turned, F__law_turned⟩ := c.def_ 5 (d := d__law_turned) rfl
  have g__law_turned := He.glo_ok X G (c.fact 5 (f := .glo "_law_turned") rfl)
  obtain ⟨fd__law_many_turned, F__law_many_turned⟩ := c.def_ 6 (d := d__law_many_turned) rfl
  have g__law_many_turned := He.glo_ok X G (c.fact 6 (f := .glo "_law_many_turned") rfl)
  obtain ⟨fd__law_pages, F__law_pages⟩ := c.def_ 7 (d := d__law_pages) rfl
  have g__law_pages := He.glo_ok X G (c.fact 7 (f := .glo "_law_pages") rfl)
  obtain ⟨fd_is_list, F_is_list⟩ := c.def_ 8 (d := d_is_list) rfl
  have g_is_list := He.glo_ok X G (c.fact 8 (f := .glo "is_list") rfl)
  obtain ⟨fd_is_octets, F_is_octets⟩ := c.def_ 9 (d := d_is_octets) rfl
  have g_is_octets := He.glo_ok X G (c.fact 9 (f := .glo "is_octets") rfl)
  obtain ⟨fd_is_octets_of, F_is_octets_of⟩ := c.def_ 10 (d := d_is_octets_of) rfl
  have g_is_octets_of := He.glo_ok X G (c.fact 10 (f := .glo "is_octets_of") rfl)
  obtain ⟨fd_zero_bits, F_zero_bits⟩ := c.def_ 11 (d := d_zero_bits) rfl
  have g_zero_bits := He.glo_ok X G (c.fact 11 (f := .glo "zero_bits") rfl)
  obtain ⟨fd_sealed, F_sealed⟩ := c.def_ 12 (d := d_sealed) rfl
  have g_sealed := He.glo_ok X G (c.fact 12 (f := .glo "sealed") rfl)
  obtain ⟨fd__law_seal_right, F__law_seal_right⟩ := c.def_ 13 (d := d__law_seal_right) rfl
  have g__law_seal_right := He.glo_ok X G (c.fact 13 (f := .glo "_law_seal_right") rfl)
  obtain ⟨fd__is_page, F__is_page⟩ := c.def_ 14 (d := d__is_page) rfl
  have g__is_page := He.glo_ok X G (c.fact 14 (f := .glo "_is_page") rfl)
  obtain ⟨fd_is_clean, F_is_clean⟩ := c.def_ 15 (d := d_is_clean) rfl
  have g_is_clean := He.glo_ok X G (c.fact 15 (f := .glo "is_clean") rfl)
  obtain ⟨fd_surplus, F_surplus⟩ := c.def_ 16 (d := d_surplus) rfl
  have g_surplus := He.glo_ok X G (c.fact 16 (f := .glo "surplus") rfl)
  obtain ⟨fd_is_whole, F_is_whole⟩ := c.def_ 17 (d := d_is_whole) rfl
  have g_is_whole := He.glo_ok X G (c.fact 17 (f := .glo "is_whole") rfl)
  obtain ⟨fd_is_torn, F_is_torn⟩ := c.def_ 18 (d := d_is_torn) rfl
  have g_is_torn := He.glo_ok X G (c.fact 18 (f := .glo "is_torn") rfl)
  obtain ⟨fd_data_told_by, F_data_told_by⟩ := c.def_ 19 (d := d_data_told_by) rfl
  have g_data_told_by := He.glo_ok X G (c.fact 19 (f := .glo "data_told_by") rfl)
  obtain ⟨fd_data_of, F_data_of⟩ := c.def_ 20 (d := d_data_of) rfl
  have g_data_of := He.glo_ok X G (c.fact 20 (f := .glo "data_of") rfl)
  obtain ⟨fd__law_told, F__law_told⟩ := c.def_ 21 (d := d__law_told) rfl
  have g__law_told := He.glo_ok X G (c.fact 21 (f := .glo "_law_told") rfl)
  obtain ⟨fd__law_due, F__law_due⟩ := c.def_ 22 (d := d__law_due) rfl
  have g__law_due := He.glo_ok X G (c.fact 22 (f := .glo "_law_due") rfl)
  obtain ⟨fd__law_page_right, F__law_page_right⟩ := c.def_ 23 (d := d__law_page_right) rfl
  have g__law_page_right := He.glo_ok X G (c.fact 23 (f := .glo "_law_page_right") rfl)
  obtain ⟨fd__law_again_right, F__law_again_right⟩ := c.def_ 24 (d := d__law_again_right) rfl
  have g__law_again_right := He.glo_ok X G (c.fact 24 (f := .glo "_law_again_right") rfl)
  obtain ⟨fd__law_right, F__law_right⟩ := c.def_ 25 (d := d__law_right) rfl
  have g__law_right := He.glo_ok X G (c.fact 25 (f := .glo "_law_right") rfl)
  obtain ⟨fd__law_box, F__law_box⟩ := c.def_ 26 (d := d__law_box) rfl
  have g__law_box := He.glo_ok X G (c.fact 26 (f := .glo "_law_box") rfl)
  obtain ⟨fd__law_cell, F__law_cell⟩ := c.def_ 27 (d := d__law_cell) rfl
  have g__law_cell := He.glo_ok X G (c.fact 27 (f := .glo "_law_cell") rfl)
  obtain ⟨fd_law, F_law⟩ := c.def_ 28 (d := d_law) rfl
  have g_law := He.glo_ok X G (c.fact 28 (f := .glo "law") rfl)
  have T : Txt K mg := ⟨He.free_ok X G (c.fact 29 (f := .free "abs") rfl), He.free_ok X G (c.fact 30 (f := .free "all") rfl), He.free_ok X G (c.fact 31 (f := .free "bool") rfl), He.free_ok X G (c.fact 32 (f := .free "int") rfl), He.free_ok X G (c.fact 33 (f := .free "isinstance") rfl), He.free_ok X G (c.fact 34 (f := .free "len") rfl), He.free_ok X G (c.fact 35 (f := .free "list") rfl), He.free_ok X G (c.fact 36 (f := .free "max") rfl), He.free_ok X G (c.fact 37 (f := .free "min") rfl), He.free_ok X G (c.fact 38 (f := .free "range") rfl), He.free_ok X G (c.fact 39 (f := .free "repr") rfl), He.free_ok X G (c.fact 40 (f := .free "reversed") rfl), He.free_ok X G (c.fact 41 (f := .free "sum") rfl), He.free_ok X G (c.fact 42 (f := .free "tuple") rfl), He.int_ok X G (c.fact 43 (f := .int "DATA_OCTETS" 30) rfl), He.int_ok X G (c.fact 44 (f := .int "MOST_ZEROS" 240) rfl), He.int_ok X G (c.fact 45 (f := .int "PAGE_OCTETS" 31) rfl), tb_ZEROS_OF_HALF, He.glo_ok X G (c.fact 46 (f := .glo "ZEROS_OF_HALF") rfl)⟩
  cases hfa.symm.trans g_law
  have b := FunD.bindsA (ps := ["_law_script"]) F_law fun _ _ _ _ _ _ us hl => match us, hl with | [_], _ => rfl
  refine ⟨fd_law, fun s v => b s [v] rfl, fun base _ _ => ?_⟩
  have G__law_take : Fg P w K mg base CX0 1 _ fd__law_take ["_law_box_here", "_law_many"] spTake := ok_take T F__law_take 
  have C__law_take_1 : Cal P w K mg base CX0 1 "_law_take" ["_law_box_here", "_law_many"] spTake := ⟨_, fd__law_take, G__law_take.le (by omega), g__law_take, F__law_take.kp, F__law_take.bindsN fun _ _ _ _ _ _ us hl => match us, hl with | [_, _], _ => rfl⟩
  have G__law_drawn : Fg P w K mg base CX0 2 _ fd__law_drawn ["_law_box_here", "_law_count"] spLD := ok_ldrawn T F__law_drawn C__law_take_1
  have C__law_drawn_2 : Cal P w K mg base CX0 2 "_law_drawn" ["_law_box_here", "_law_count"] spLD := ⟨_, fd__law_drawn, G__law_drawn.le (by omega), g__law_drawn, F__law_drawn.kp, F__law_drawn.bindsN fun _ _ _ _ _ _ us hl => match us, hl with | [_, _], _ => rfl⟩
  have G__law_data : Fg P w K mg base CX0 3 _ fd__law_data ["_law_box_here"] spDa := ok_ldata T F__law_data C__law_take_1 C__law_drawn_2
  have C__law_data_3 : Cal P w K mg base CX0 3 "_law_data" ["_law_box_here"] spDa := ⟨_, fd__law_data, G__law_data.le (by omega), g__law_data, F__law_data.kp, F__law_data.bindsN fun _ _ _ _ _ _ us hl => match us, hl with | [_], _ => rfl⟩
  have G__law_zeros : Fg P w K mg base CX0 1 _ fd__law_zeros ["_law_octets"] (spLZ K) := ok_lzeros T F__law_zeros 
  have C__law_zeros_1 : Cal P w K mg base CX0 1 "_law_zeros" ["_law_octets"] (spLZ K) := ⟨_, fd__law_zeros, G__law_zeros.le (by omega), g__law_zeros, F__law_zeros.kp, F__law_zeros.bindsN fun _ _ _ _ _ _ us hl => match us, hl with | [_], _ => rfl⟩
  have G__law_fitting : Fg P w K mg base CX0 2 _ fd__law_fitting ["_law_data_here"] (spFit K) := ok_lfit T F__law_fitting C__law_zeros_1
  have C__law_fitting_2 : Cal P w K mg base CX0 2 "_law_fitting" ["_law_data_here"] (spFit K) := ⟨_, fd__law_fitting, G__law_fitting.le (by omega), g__law_fitting, F__law_fitting.kp, F__law_fitting.bindsN fun _ _ _ _ _ _ us hl => match us, hl with | [_], _ => rfl⟩
  have G__law_turned : Fg P w K mg base CX0 1 _ fd__law_turned ["_law_page", "_law_bit"] (spLT K) := ok_lturned T F__law_turned 
  have C__law_turned_1 : Cal P w K mg base CX0 1 "_law_turned" ["_law_page", "_law_bit"] (spLT K) := ⟨_, fd__law_turned, G__law_turned.le (by omega), g__law_turned, F__law_turned.kp, F__law_turned.bindsN fun _ _ _ _ _ _ us hl => match us, hl with | [_, _], _ => rfl⟩
  have G__law_many_turned : Fg P w K mg base CX0 2 _ fd__law_many_turned ["_law_box_here", "_law_page", "_law_most"] (spMT K) := ok_lmt T F__law_many_turned C__law_take_1 C__law_turned_1
  have C__law_many_turned_2 : Cal P w K mg base CX0 2 "_law_many_turned" ["_law_box_here", "_law_page", "_law_most"] (spMT K) := ⟨_, fd__law_many_turned, G__law_many_turned.le (by omega), g__law_many_turned, F__law_many_turned.kp, F__law_many_turned.bindsN fun _ _ _ _ _ _ us hl => match us, hl with | [_, _, _], _ => rfl⟩
  have G__law_pages : Fg P w K mg base CX0 3 _ fd__law_pages ["_law_box_here", "_law_data_here"] spPgs := ok_lpages T F__law_pages C__law_take_1 C__law_fitting_2 C__law_turned_1 C__law_many_turned_2 C__law_drawn_2
  have C__law_pages_3 : Cal P w K mg base CX0 3 "_law_pages" ["_law_box_here", "_law_data_here"] spPgs := ⟨_, fd__law_pages, G__law_pages.le (by omega), g__law_pages, F__law_pages.kp, F__law_pages.bindsN fun _ _ _ _ _ _ us hl => match us, hl with | [_, _], _ => rfl⟩
  have G_is_list : Fg P w K mg base CX0 1 _ fd_is_list ["value"] (spIsList K) := ok_is_list T F_is_list 
  have C_is_list_1 : Cal P w K mg base CX0 1 "is_list" ["value"] (spIsList K) := ⟨_, fd_is_list, G_is_list.le (by omega), g_is_list, F_is_list.kp, F_is_list.bindsN fun _ _ _ _ _ _ us hl => match us, hl with | [_], _ => rfl⟩
  have G_is_octets : Fg P w K mg base CX0 2 _ fd_is_octets ["value"] (spIsOct K) := ok_is_octets T F_is_octets C_is_list_1
  have C_is_octets_2 : Cal P w K mg base CX0 2 "is_octets" ["value"] (spIsOct K) := ⟨_, fd_is_octets, G_is_octets.le (by omega), g_is_octets, F_is_octets.kp, F_is_octets.bindsN fun _ _ _ _ _ _ us hl => match us, hl with | [_], _ => rfl⟩
  have G_is_octets_of : Fg P w K mg base CX0 3 _ fd_is_octets_of ["value", "count"] (spOctOf K) := ok_octets_of T F_is_octets_of C_is_list_1 C_is_octets_2
  have C_is_octets_of_3 : Cal P w K mg base CX0 3 "is_octets_of" ["value", "count"] (spOctOf K) := ⟨_, fd_is_octets_of, G_is_octets_of.le (by omega), g_is_octets_of, F_is_octets_of.kp, F_is_octets_of.bindsN fun _ _ _ _ _ _ us hl => match us, hl with | [_, _], _ => rfl⟩
  have G_zero_bits : Fg P w K mg base CX0 1 _ fd_zero_bits ["octets"] (spZB K) := ok_zero_bits T F_zero_bits 
  have C_zero_bits_1 : Cal P w K mg base CX0 1 "zero_bits" ["octets"] (spZB K) := ⟨_, fd_zero_bits, G_zero_bits.le (by omega), g_zero_bits, F_zero_bits.kp, F_zero_bits.bindsN fun _ _ _ _ _ _ us hl => match us, hl with | [_], _ => rfl⟩
  have G_sealed : Fg P w K mg base CX0 6 _ fd_sealed ["data"] (spSealed K) := ok_sealed T F_sealed C_is_octets_of_3 C_zero_bits_1
  have C_sealed_8 : Cal P w K mg base CX0 8 "sealed" ["data"] (spSealed K) := ⟨_, fd_sealed, G_sealed.le (by omega), g_sealed, F_sealed.kp, F_sealed.bindsN fun _ _ _ _ _ _ us hl => match us, hl with | [_], _ => rfl⟩
  have CK_sealed_0_data_8 : CalK P w K mg base CX0 8 "sealed" ["data"] 0 ["data"] g1 g1V (spSealed K) := ⟨_, fd_sealed, G_sealed.le (by omega), g_sealed, F_sealed.kp, kb_of F_sealed (fun _ r => .cons (vals_getD r 0) (.nil)) fun _ _ _ _ _ _ us ws l1 l2 => match us, ws, l1, l2 with | [], [_], _, _ => rfl⟩
  have G__law_seal_right : Fg P w K mg base CX0 9 _ fd__law_seal_right ["_law_box_here", "_law_data_here"] (spSR K) := ok_lsr T F__law_seal_right C__law_take_1 C__law_fitting_2 C_sealed_8 CK_sealed_0_data_8
  have C__law_seal_right_9 : Cal P w K mg base CX0 9 "_law_seal_right" ["_law_box_here", "_law_data_here"] (spSR K) := ⟨_, fd__law_seal_right, G__law_seal_right.le (by omega), g__law_seal_right, F__law_seal_right.kp, F__law_seal_right.bindsN fun _ _ _ _ _ _ us hl => match us, hl with | [_, _], _ => rfl⟩
  have G__is_page : Fg P w K mg base CX0 4 _ fd__is_page ["value"] (spIsPage K) := ok_is_page T F__is_page C_is_octets_of_3
  have C__is_page_4 : Cal P w K mg base CX0 4 "_is_page" ["value"] (spIsPage K) := ⟨_, fd__is_page, G__is_page.le (by omega), g__is_page, F__is_page.kp, F__is_page.bindsN fun _ _ _ _ _ _ us hl => match us, hl with | [_], _ => rfl⟩
  have G_is_clean : Fg P w K mg base CX0 8 _ fd_is_clean ["value"] (spClean K) := ok_is_clean T F_is_clean C__is_page_4
  have C_is_clean_8 : Cal P w K mg base CX0 8 "is_clean" ["value"] (spClean K) := ⟨_, fd_is_clean, G_is_clean.le (by omega), g_is_clean, F_is_clean.kp, F_is_clean.bindsN fun _ _ _ _ _ _ us hl => match us, hl with | [_], _ => rfl⟩
  have CK_is_clean_0_value_8 : CalK P w K mg base CX0 8 "is_clean" ["value"] 0 ["value"] g1 g1V (spClean K) := ⟨_, fd_is_clean, G_is_clean.le (by omega), g_is_clean, F_is_clean.kp, kb_of F_is_clean (fun _ r => .cons (vals_getD r 0) (.nil)) fun _ _ _ _ _ _ us ws l1 l2 => match us, ws, l1, l2 with | [], [_], _, _ => rfl⟩
  have G_surplus : Fg P w K mg base CX0 7 _ fd_surplus ["octets"] (spSurplus K) := ok_surplus T F_surplus C__is_page_4 C_zero_bits_1
  have C_surplus_7 : Cal P w K mg base CX0 7 "surplus" ["octets"] (spSurplus K) := ⟨_, fd_surplus, G_surplus.le (by omega), g_surplus, F_surplus.kp, F_surplus.bindsN fun _ _ _ _ _ _ us hl => match us, hl with | [_], _ => rfl⟩
  have C_surplus_8 : Cal P w K mg base CX0 8 "surplus" ["octets"] (spSurplus K) := ⟨_, fd_surplus, G_surplus.le (by omega), g_surplus, F_surplus.kp, F_surplus.bindsN fun _ _ _ _ _ _ us hl => match us, hl with | [_], _ => rfl⟩
  have CK_surplus_0_octets_8 : CalK P w K mg base CX0 8 "surplus" ["octets"] 0 ["octets"] g1 g1V (spSurplus K) := ⟨_, fd_surplus, G_surplus.le (by omega), g_surplus, F_surplus.kp, kb_of F_surplus (fun _ r => .cons (vals_getD r 0) (.nil)) fun _ _ _ _ _ _ us ws l1 l2 => match us, ws, l1, l2 with | [], [_], _, _ => rfl⟩
  have G_is_whole : Fg P w K mg base CX0 8 _ fd_is_whole ["value"] (spWhole K) := ok_is_whole T F_is_whole C__is_page_4 C_surplus_7
  have C_is_whole_8 : Cal P w K mg base CX0 8 "is_whole" ["value"] (spWhole K) := ⟨_, fd_is_whole, G_is_whole.le (by omega), g_is_whole, F_is_whole.kp, F_is_whole.bindsN fun _ _ _ _ _ _ us hl => match us, hl with | [_], _ => rfl⟩
  have CK_is_whole_0_value_8 : CalK P w K mg base CX0 8 "is_whole" ["value"] 0 ["value"] g1 g1V (spWhole K) := ⟨_, fd_is_whole, G_is_whole.le (by omega), g_is_whole, F_is_whole.kp, kb_of F_is_whole (fun _ r => .cons (vals_getD r 0) (.nil)) fun _ _ _ _ _ _ us ws l1 l2 => match us, ws, l1, l2 with | [], [_], _, _ => rfl⟩
  have G_is_torn : Fg P w K mg base CX0 8 _ fd_is_torn ["value"] (spTorn K) := ok_is_torn T F_is_torn C__is_page_4 C_surplus_7
  have C_is_torn_8 : Cal P w K mg base CX0 8 "is_torn" ["value"] (spTorn K) := ⟨_, fd_is_torn, G_is_torn.le (by omega), g_is_torn, F_is_torn.kp, F_is_torn.bindsN fun _ _ _ _ _ _ us hl => match us, hl with | [_], _ => rfl⟩
  have CK_is_torn_0_value_8 : CalK P w K mg base CX0 8 "is_torn" ["value"] 0 ["value"] g1 g1V (spTorn K) := ⟨_, fd_is_torn, G_is_torn.le (by omega), g_is_torn, F_is_torn.kp, kb_of F_is_torn (fun _ r => .cons (vals_getD r 0) (.nil)) fun _ _ _ _ _ _ us ws l1 l2 => match us, ws, l1, l2 with | [], [_], _, _ => rfl⟩
  have G_data_told_by : Fg P w K mg base CX0 4 _ fd_data_told_by ["page"] (spDTB K) := ok_data_told_by T F_data_told_by C_zero_bits_1
  have C_data_told_by_4 : Cal P w K mg base CX0 4 "data_told_by" ["page"] (spDTB K) := ⟨_, fd_data_told_by, G_data_told_by.le (by omega), g_data_told_by, F_data_told_by.kp, F_data_told_by.bindsN fun _ _ _ _ _ _ us hl => match us, hl with | [_], _ => rfl⟩
  have G_data_of : Fg P w K mg base CX0 8 _ fd_data_of ["octets"] (spDataOf K) := ok_data_of T F_data_of C__is_page_4 C_data_told_by_4
  have C_data_of_8 : Cal P w K mg base CX0 8 "data_of" ["octets"] (spDataOf K) := ⟨_, fd_data_of, G_data_of.le (by omega), g_data_of, F_data_of.kp, F_data_of.bindsN fun _ _ _ _ _ _ us hl => match us, hl with | [_], _ => rfl⟩
  have CK_data_of_0_octets_8 : CalK P w K mg base CX0 8 "data_of" ["octets"] 0 ["octets"] g1 g1V (spDataOf K) := ⟨_, fd_data_of, G_data_of.le (by omega), g_data_of, F_data_of.kp, kb_of F_data_of (fun _ r => .cons (vals_getD r 0) (.nil)) fun _ _ _ _ _ _ us ws l1 l2 => match us, ws, l1, l2 with | [], [_], _, _ => rfl⟩
  have G__law_told : Fg P w K mg base CX0 9 _ fd__law_told ["_law_page", "_law_turn"] (spTold7 K) := ok_ltold T F__law_told C_is_clean_8 C_is_whole_8 C_is_torn_8 C_data_of_8 C_surplus_8 CK_is_clean_0_value_8 CK_is_whole_0_value_8 CK_is_torn_0_value_8 CK_data_of_0_octets_8 CK_surplus_0_octets_8
  have C__law_told_9 : Cal P w K mg base CX0 9 "_law_told" ["_law_page", "_law_turn"] (spTold7 K) := ⟨_, fd__law_told, G__law_told.le (by omega), g__law_told, F__law_told.kp, F__law_told.bindsN fun _ _ _ _ _ _ us hl => match us, hl with | [_, _], _ => rfl⟩
  have G__law_due : Fg P w K mg base CX0 2 _ fd__law_due ["_law_page"] (spDue K) := ok_ldue T F__law_due C__law_zeros_1
  have C__law_due_2 : Cal P w K mg base CX0 2 "_law_due" ["_law_page"] (spDue K) := ⟨_, fd__law_due, G__law_due.le (by omega), g__law_due, F__law_due.kp, F__law_due.bindsN fun _ _ _ _ _ _ us hl => match us, hl with | [_], _ => rfl⟩
  have G__law_page_right : Fg P w K mg base CX0 10 _ fd__law_page_right ["_law_page", "_law_turn"] (spPR K) := ok_lpr T F__law_page_right C__law_told_9 C__law_due_2
  have C__law_page_right_10 : Cal P w K mg base CX0 10 "_law_page_right" ["_law_page", "_law_turn"] (spPR K) := ⟨_, fd__law_page_right, G__law_page_right.le (by omega), g__law_page_right, F__law_page_right.kp, F__law_page_right.bindsN fun _ _ _ _ _ _ us hl => match us, hl with | [_, _], _ => rfl⟩
  have G__law_again_right : Fg P w K mg base CX0 11 _ fd__law_again_right ["_law_box_here", "_law_pages_here"] spAR := ok_lar T F__law_again_right C__law_take_1 C__law_turned_1 C__law_page_right_10
  have C__law_again_right_11 : Cal P w K mg base CX0 11 "_law_again_right" ["_law_box_here", "_law_pages_here"] spAR := ⟨_, fd__law_again_right, G__law_again_right.le (by omega), g__law_again_right, F__law_again_right.kp, F__law_again_right.bindsN fun _ _ _ _ _ _ us hl => match us, hl with | [_, _], _ => rfl⟩
  have G__law_right : Fg P w K mg base CX0 12 _ fd__law_right ["_law_box_here"] spRight := ok_lright T F__law_right C__law_data_3 C__law_pages_3 C__law_seal_right_9 C__law_again_right_11
  have C__law_right_12 : Cal P w K mg base CX0 12 "_law_right" ["_law_box_here"] spRight := ⟨_, fd__law_right, G__law_right.le (by omega), g__law_right, F__law_right.kp, F__law_right.bindsN fun _ _ _ _ _ _ us hl => match us, hl with | [_], _ => rfl⟩
  have G__law_box : Fg P w K mg base CX0 1 _ fd__law_box ["_law_great"] spBox := ok_box T F__law_box 
  have C__law_box_1 : Cal P w K mg base CX0 1 "_law_box" ["_law_great"] spBox := ⟨_, fd__law_box, G__law_box.le (by omega), g__law_box, F__law_box.kp, F__law_box.bindsN fun _ _ _ _ _ _ us hl => match us, hl with | [_], _ => rfl⟩
  have G__law_cell : Fg P w K mg base CX0 1 _ fd__law_cell ["_law_script", "_law_k"] (spCell K) := ok_cell T F__law_cell 
  have C__law_cell_1 : Cal P w K mg base CX0 1 "_law_cell" ["_law_script", "_law_k"] (spCell K) := ⟨_, fd__law_cell, G__law_cell.le (by omega), g__law_cell, F__law_cell.kp, F__law_cell.bindsN fun _ _ _ _ _ _ us hl => match us, hl with | [_, _], _ => rfl⟩
  exact ok_law T F_law C__law_right_12 C__law_box_1 C__law_cell_1
end K07
open PySem PySem.W PySem.Calls PyProof.Rows
theorem PySem.Challenge.cw_onewaybits_k07_pages_told_holds : PySem.Challenge.rw_onewaybits_k07_pages_told.Holds := by
  w_on; o_law
  refine HandSHeadRun.head_any (r := OpenLaw.row PySem.Challenge.rw_onewaybits_k07_pages_told) (q := view (OpenLaw.row PySem.Challenge.rw_onewaybits_k07_pages_told).prog [40]) (H := K07.hk) (ob := K07.ob) (M := 20000) (loose := K07.lns) (d := HandSHeadRun.topDef (OpenLaw.row PySem.Challenge.rw_onewaybits_k07_pages_told).prog 40) (kwd := []) K07.ob_eq
    (by kernel_rfl) (fun s => by kernel_rfl) K07.run (by kernel_rfl) (by kernel_rfl) (by kernel_rfl) (by rfl) (by first | assumption | decide +kernel) (by decide +kernel) ⟨rfl, rfl, rfl, rfl, rfl, by decide +kernel⟩ ?hw ?hc
  case hw => w_witness2
  case hc =>
    refine VB.law_walk (l := PySem.Challenge.rw_onewaybits_k07_pages_told) (n := 63) (k := 13) (x := "_law_script") (CX := L2.CX0) rfl (by decide) (by kernel_rfl) ⟨⟨rfl, by decide, by decide⟩, rfl⟩ ?F (fun _ _ _ _ z => z)
    intro w mg fa h Y G hmg0
    obtain ⟨K, KX, c⟩ := Y
    have hmg : mg ("law" : PySem.Str) = some (.ref fa) := by
      have e : (HandSHeadRun.topDef (OpenLaw.row PySem.Challenge.rw_onewaybits_k07_pages_told).prog 40).name = ("law" : PySem.Str) := by kernel_rfl
      rw [← e]
      exact hmg0
    obtain ⟨fd, hb, hF⟩ := K07.facts (P := (PySem.Challenge.rw_onewaybits_k07_pages_told).prog) (w := w) KX G hmg c
    exact ⟨K, fd, (K07.spLaw K), KX, hb, fun H a ns hl _ hS => ⟨a, ns, rfl, hS, by omega, fun _ _ => rfl⟩, hF⟩
