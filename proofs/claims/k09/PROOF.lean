import PyProof.Rows.All
import Wide.All
import OpenK.AllK
import Wide.FinOn
import HandS.ForMost
import HandS.Evl
import HandS.IsInst
import HandS.Walk
import HandS.Conv
import HandS.TupMul
import HandS.WideBits
import HandS.Wide
import HandS.Defaults
import HandS.HeadHook2
import HandS.RaiseMore
import HandS.Zip
import HandS.Style
import HandS.SetFor
import HandS.Text
import PyProof.ReprText
import PyProof.Rows.StrJoinMade
import KE.KxField
import HandS.FStr
import HandS.Zip0
import KE.BitLaws
import PyProof.CallFns
import KE.DataMinMax
import HandS.Head0
import HandS.Head1
import HandS.Head2
import HandS.HeadEnd
import HandS.HeadHook1
import HandS.HeadHook3
import HandS.HeadHook4
import PySem.Challenge.RW_onewaybits_k09_rests
set_option Elab.async false
set_option linter.all false
set_option maxRecDepth 100000
set_option maxHeartbeats 4000000
namespace VB
open PySem PySem.Spec PyProof.Rows L2

/-! ## 1. Room, and no display under way -/
structure Rm (k : Nat) (A : Around) : Prop where
  rm : Room k A
  gd : A.guards = some []
theorem Rm.le {j k : Nat} {A : Around} (r : Rm k A) (h : j ≤ k := by omega) : Rm j A := ⟨r.rm.mono h, r.gd⟩
theorem Rm.down {k : Nat} {A : Around} (r : Rm (k + 1) A) (e : Env) : Rm k (A.deeper e) := ⟨r.rm.deeper e, r.gd⟩

section
variable {P : Program} {w : World} {K : PySem.W.Frag} {mg : Str → Option Value} {base : Heap} {CX : CXT} {k : Nat}

/-- a def's promise, kept wherever there is room and no display is under way -/
structure Fg (P : Program) (w : World) (K : PySem.W.Frag) (mg : Str → Option Value) (base : Heap)
    (CX : CXT) (k : Nat) (f : Addr) (fd : FuncData) (ps : List Str) (sp : Sp) : Prop where
  cnt : ∀ vs H Q E, sp vs H Q E → vs.length = ps.length
  go : ∀ (A : Around) (outer : List Env) (s : Shared) (H : Hp) (args : Args) (us : List Value) (vs : List V)
    (Q : VK) (E : XK), Rm k A → Env0 P w K mg base A outer s H → BindsTo s fd args (ps.zip us) →
    Vals vs us → sp vs H Q E → codeAny (model P w) A (.call (.ref f) args) (CR CX outer P w H s Q E) s

theorem Fg.le {j : Nat} {f : Addr} {fd : FuncData} {ps : List Str} {sp : Sp}
    (F : Fg P w K mg base CX j f fd ps sp) (h : j ≤ k) : Fg P w K mg base CX k f fd ps sp :=
  ⟨F.cnt, fun A o s H a us vs Q E r => F.go A o s H a us vs Q E (r.le h)⟩

/-- a def by its body -/
theorem fg_of {x qual : Str} {params : Arguments} {body : List Stmt} {scope : Scope} {dvs : List V}
    {kws : List (Str × V)} {f : Addr} {fd : FuncData} {N ps : List Str} {sp : Sp}
    (F : FunD K x qual params body scope dvs kws f fd) (S : FnScope N ps scope)
    (cnt : ∀ vs H Q E, sp vs H Q E → vs.length = ps.length)
    (hb : ∀ (cdv : Value) (A : Around) (outer : List Env) (s : Shared) (H : Hp) (vs : List V) (Q : VK) (E : XK),
      Rm k (A.deeper (envOfC qual scope s.heap.objs.size f cdv)) → sp vs H Q E →
      ∃ t, PSs (cxOf CX P w K mg base N qual scope f cdv A outer s H E) body t ∧
        t { nx := fun _ H' => Q .non H', rt := Q } (start N vs) H) :
    Fg P w K mg base CX (k + 1) f fd ps sp := by
  obtain ⟨oc, od, dV, kV, doc, pm, an, cdv, ct, osl, rfl, lk, hcd, _, _⟩ := F.ex
  refine ⟨cnt, ?_⟩
  intro A outer s H args us vs Q E hr e0 hbind hv hsp
  have kin : K.In s.heap := e0.mod.kin.keeps (fun b o e => (e0.bs b o e).1)
  have nol : s.heap.NoLimit := e0.mod.nolimit.keeps (fun b o e => (e0.bs b o e).1)
  have hk : ∀ y ∈ ps.zip us, scope.names.lookup y.1 = some .local ∨
      (scope.names.lookup y.1 = some .cell ∧
        ((cellsFrom (s.heap.objs.size + 1) scope.names []).lookup y.1).isSome = true) := by
    rintro ⟨n, v⟩ hy
    cases S.par n (List.of_mem_zip hy).1 with
    | inl q => exact .inl q
    | inr q => exact .inr ⟨q, PySem.W.cellsFrom_some _ _ _ (.inl q)⟩
  refine codeAny_call_function hr.rm.depth (kin _ _ lk) rfl S.co S.gen rfl
    (PySem.W.codeRec_of kin hcd) (hbind _ _ _ _ (wpAny_newFunctionEnv_cells S.kind hk ?_))
  intro env he s1 x
  subst he
  refine ⟨nol.keeps x.toInCall.keep, codeAny_func ?_⟩
  obtain ⟨t, ht, hq⟩ := hb cdv A outer s H vs Q E (hr.down _) hsp
  have I := inv_start (CX := CX) (E := E) S hr.rm.hd e0 (cnt _ _ _ _ hsp) hv x
  refine wpAny_mono (ht.run [] s1 (start N vs) H _ I hq) ?_ (fun e s' hs => hs)
  intro fl s' hs
  cases fl with
  | ret u =>
    obtain ⟨v, σ', H', J, rv, q⟩ := hs
    exact ⟨v, H', J.os, J.bare, J.base, J.hok, rv, q⟩
  | next =>
    obtain ⟨σ', H', J, q⟩ := hs
    exact ⟨.non, H', J.os, J.bare, J.base, J.hok, rfl, q⟩
  | brk => exact (hs.choose_spec.choose_spec.2 : False).elim
  | cont => exact (hs.choose_spec.choose_spec.2 : False).elim

/-! ## 2. Calls by name -/
/-- a def of the module, told by its name -/
structure Cal (P : Program) (w : World) (K : PySem.W.Frag) (mg : Str → Option Value) (base : Heap)
    (CX : CXT) (k : Nat) (x : Str) (ps : List Str) (sp : Sp) : Prop where
  ex : ∃ (f : Addr) (fd : FuncData), Fg P w K mg base CX k f fd ps sp ∧ mg x = some (.ref f) ∧
    PySem.W.keepIn K (.ref f) = true ∧ Binds K fd ps []
/-- .. called with keywords -/
structure CalK (P : Program) (w : World) (K : PySem.W.Frag) (mg : Str → Option Value) (base : Heap)
    (CX : CXT) (k : Nat) (x : Str) (ps : List Str) (n : Nat) (ks : List Str)
    (g : List Value → List Value → List Value) (gV : List V → List V → List V) (sp : Sp) : Prop where
  ex : ∃ (f : Addr) (fd : FuncData), Fg P w K mg base CX k f fd ps sp ∧ mg x = some (.ref f) ∧
    PySem.W.keepIn K (.ref f) = true ∧ KBn K fd ps n ks g gV
end

section
variable {X : Cx} {CX : CXT} {k n : Nat} {ps ks : List Str} {sp : Sp} {E : XK} {x : Str} {p pos : Pos}
  {e : Expr} {es : List Expr} {kws : List Keyword} {t tk : TA}
  {g : List Value → List Value → List Value} {gV : List V → List V → List V}

/-- the end of a call, where the caller stands -/
theorem back {pins : List (Addr × Obj)} {σ : L2.St} {H : Hp} {s s' : Shared} {Q : VK} {E : XK} {r : Result}
    (hx : Passes CX X E) (I : Inv X pins σ H s) (hq : CR CX X.stack X.prog X.w H s Q E r s') :
    match r with
    | .ok (.ret u) => EP X pins σ Q u s'
    | .ok _ => False
    | .error e => X.xe e s' := by
  cases r with
  | error e => exact hx pins σ H s e s' I hq
  | ok fl =>
    cases fl with
    | ret u => exact I.after hq
    | next => exact hq
    | brk => exact hq
    | cont => exact hq

theorem enter {f : Addr} {fd : FuncData} {pins : List (Addr × Obj)} {σ : L2.St} {H : Hp} {s : Shared} {Q : VK}
    {args : Args} {us : List Value} {vs : List V} (F : Fg X.prog X.w X.K X.mg X.base CX k f fd ps sp)
    (hr : Rm k X.A) (hx : Passes CX X E) (I : Inv X pins σ H s) (hb : BindsTo s fd args (ps.zip us))
    (r : Vals vs us) (h : sp vs H Q E) :
    wpAny (model X.prog X.w) X.A (call (.ref f) args.pos args.kw) (EP X pins σ Q) X.xe s := by
  refine wpAny_call (codeAny_mono (F.go X.A X.stack s H args us vs Q E hr I.env0 hb r h) ?_)
  intro r s' hq
  have z := back hx I hq
  cases r with
  | error e => exact z
  | ok fl =>
    cases fl with
    | ret u => exact z
    | next => exact z.elim
    | brk => exact z.elim
    | cont => exact z.elim

theorem pe_cal (C : Cal X.prog X.w X.K X.mg X.base CX k x ps sp) (hr : Rm k X.A) (hx : Passes CX X E)
    (ha : PA X (e :: es) t) (hg : Gl X x := by rfl) (hdb : (x == ("__debug__" : Str)) = false := by decide)
    (he : starEach (e :: es) X.env = (false, eval e X.env) :: starEach es X.env := by rfl)
    (hpl : (backTo pos (starEach es X.env)).any (·.1) = false := by rfl) :
    PE X (.Call (.Name x p) (e :: es) [] pos) (tCall sp [] E t) := by
  obtain ⟨f, fd, F, hm, hk, hb⟩ := C.ex
  constructor
  intro pins s σ H Q I h
  refine wpAny_Call_Name_kw (ld_glob I hg hm ?_ hdb)
  refine PySem.W.callWith_K (h₀ := X.base) I.ok.mod.kin hk (thn (ha.run pos pins s σ H _ I h) ?_) he hpl
  rintro us s1 ⟨vs, H1, I1, r, q⟩
  have q : sp (vs ++ []) H1 Q E := q
  rw [List.append_nil] at q
  have l : (us ++ []).length = ps.length := by
    rw [List.append_nil, ← r.length]
    exact F.cnt _ _ _ _ q
  have b := hb s1 us I1.kIn l
  rw [List.append_nil] at b
  exact ⟨I1.kIn, enter (args := ⟨us, []⟩) F hr hx I1 b r q⟩

theorem pe_cal0 (C : Cal X.prog X.w X.K X.mg X.base CX k x ps sp) (hr : Rm k X.A) (hx : Passes CX X E)
    (hg : Gl X x := by rfl) (hdb : (x == ("__debug__" : Str)) = false := by decide) :
    PE X (.Call (.Name x p) [] [] pos) (tCall sp [] E tNil) := by
  obtain ⟨f, fd, F, hm, hk, hb⟩ := C.ex
  constructor
  intro pins s σ H Q I h
  have q : sp [] H Q E := h
  refine wpAny_Call_Name_kw (ld_glob I hg hm ?_ hdb)
  refine PySem.W.callWith_K0 I.kIn hk ?_
  have b := hb s [] I.kIn (F.cnt _ _ _ _ q)
  exact enter (args := ⟨[], []⟩) F hr hx I b .nil q

/-- f(k = v, ..): no value by position -/
theorem pe_calk (C : CalK X.prog X.w X.K X.mg X.base CX k x ps 0 ks g gV sp) (hr : Rm k X.A) (hx : Passes CX X E)
    (hkw : PK X kws tk) (hg : Gl X x := by rfl)
    (hall : (backToKw pos (keywordEach kws X.env)).all (·.1.isSome) = true := by rfl)
    (hks : (backToKw pos (keywordEach kws X.env)).filterMap (·.1) = ks := by rfl)
    (hdb : (x == ("__debug__" : Str)) = false := by decide)
    (hpl : ((backTo pos (starEach [] X.env)).any (·.1) || (backToKw pos (keywordEach kws X.env)).any (·.1.isNone)) = false := by rfl) :
    PE X (.Call (.Name x p) [] kws pos) (tCallN 0 ks.length sp gV E tNil tk) := by
  obtain ⟨f, fd, F, hm, hk, hb⟩ := C.ex
  constructor
  intro pins s σ H Q I h
  refine wpAny_Call_Name_kw (ld_glob I hg hm ?_ hdb)
  have h : tk σ H fun zs H2 => ([] : List V).length = 0 ∧ zs.length = ks.length ∧ sp (gV [] zs) H2 Q E := h
  refine PySem.W.callWith_KW0 (h₀ := X.base) I.ok.mod.kin hk hall (thn (hkw.run pos pins s σ H _ I h) ?_) hpl
  rintro ws s2 ⟨zs, H2, I2, rz, _, l2, q2⟩
  refine ⟨I2.kIn, ?_⟩
  rw [hks]
  exact enter (args := ⟨[], ks.zip ws⟩) F hr hx I2
    (hb.to s2 [] ws I2.kIn rfl (rz.length.symm.trans l2)) (hb.rel .nil rz) q2
/-- f(e, .., k = v, ..) -/
theorem pe_calpk (C : CalK X.prog X.w X.K X.mg X.base CX k x ps n ks g gV sp) (hr : Rm k X.A) (hx : Passes CX X E)
    (ha : PA X (e :: es) t) (hkw : PK X kws tk) (hg : Gl X x := by rfl)
    (hall : (backToKw pos (keywordEach kws X.env)).all (·.1.isSome) = true := by rfl)
    (hks : (backToKw pos (keywordEach kws X.env)).filterMap (·.1) = ks := by rfl)
    (hdb : (x == ("__debug__" : Str)) = false := by decide)
    (he : starEach (e :: es) X.env = (false, eval e X.env) :: starEach es X.env := by rfl)
    (hpl : ((backTo pos (starEach (e :: es) X.env)).any (·.1) || (backToKw pos (keywordEach kws X.env)).any (·.1.isNone)) = false := by rfl) :
    PE X (.Call (.Name x p) (e :: es) kws pos) (tCallN n ks.length sp gV E t tk) := by
  obtain ⟨f, fd, F, hm, hk, hb⟩ := C.ex
  constructor
  intro pins s σ H Q I h
  refine wpAny_Call_Name_kw (ld_glob I hg hm ?_ hdb)
  refine PySem.W.callWith_KW (h₀ := X.base) I.ok.mod.kin hk hall (thn (ha.run pos pins s σ H _ I h) ?_) hpl he
  rintro us s1 ⟨vs, H1, I1, r, q⟩
  refine thn (hkw.run pos pins s1 σ H1 _ I1 q) ?_
  rintro ws s2 ⟨zs, H2, I2, rz, l1, l2, q2⟩
  refine ⟨I2.kIn, ?_⟩
  rw [hks]
  exact enter (args := ⟨us, ks.zip ws⟩) F hr hx I2
    (hb.to s2 us ws I2.kIn (r.length.symm.trans l1) (rz.length.symm.trans l2)) (hb.rel r rz) q2
end

/-! ## 3. The law's own call -/
theorem first_call {P : Program} {w : World} {K : PySem.W.Frag} {mg mb : Str → Option Value} {CX : CXT} {k : Nat}
    {fa a : Addr} {fd : FuncData} {x : Str} {sp : Sp} {s : Shared} {vs : List Value} {ns : List Int}
    (KX : K.In s.heap) (hns : s.heap.Ns mainGlobals mg) (hb : s.heap.Ns builtinsNs mb)
    (hbb : ∀ x : Str, x ≠ "__name__" → mb x = bootBuiltins x) (hlim : s.heap.NoLimit) (hg : s.gens = #[])
    (ha : s.heap.get? a = some { cls := .type "list", data := .seq vs.toArray }) (hi : IntsAre vs ns)
    (hl : ns.length ≤ sizeLine) (hr : Rm k callerA)
    (F : ∀ base : Heap, K.In base → base.Ns mainGlobals mg → Fg P w K mg base CX k fa fd [x] sp)
    (hbind : ∀ (s : Shared) (u : Value), BindsTo s fd ⟨[u], []⟩ [(x, u)])
    (hsp : ∀ H : Hp, Only H → SqL K H a (ns.map V.int) → sp [.ref a] H (fun v _ => v = .bl true) fun _ _ _ => False)
    (hCX : ∀ H e s', CX [] H s (fun _ _ _ => False) e s' → False) :
    codeAny (model P w) callerA (.call (.ref fa) ⟨[.ref a], []⟩)
      (fun r s' => r = .ok (.ret (.bool true)) ∧ OldK s.heap s'.heap ∧ s'.os = s.os ∧ AllBare s'.gens) s := by
  -- what is tracked at first: the script at most
  let o : Obj := { cls := .type "list", data := .seq vs.toArray }
  have main : ∀ H : Hp, (∀ b, H b = none ∨ (b = a ∧ H b = some (.frz o (.lst (ns.map V.int))) ∧ K.lookup a = none)) →
      SqL K H a (ns.map V.int) → HOk P w H s.heap → codeAny (model P w) callerA (.call (.ref fa) ⟨[.ref a], []⟩)
      (fun r s' => r = .ok (.ret (.bool true)) ∧ OldK s.heap s'.heap ∧ s'.os = s.os ∧ AllBare s'.gens) s := by
    intro H hH hS hok
    have dictFree : ∀ {b : Addr} {ob : Obj} {es : Array DictEntry} {ep : Nat}, s.heap.get? b = some ob →
        ob.data = .dict es ep → H b = none := by
      intro b ob es ep e d
      rcases hH b with q | ⟨rfl, q, _⟩
      · exact q
      · rw [ha] at e
        cases e
        exact nomatch d
    have nsB : ∀ {b : Addr} {m : Str → Option Value}, s.heap.Ns b m → (hidT s.heap H).Ns b m := by
      rintro b m ⟨ob, es, ep, e, d, r⟩
      exact ⟨ob, es, ep, hidT_get e (dictFree e d), d, r⟩
    have kB : K.In (hidT s.heap H) := by
      intro b ob e
      refine hidT_get (KX b ob e) ?_
      rcases hH b with q | ⟨rfl, _, q⟩
      · exact q
      · rw [e] at q
        cases q
    have lim' : (hidT s.heap H).NoLimit := by
      obtain ⟨mc, h1, h2⟩ := hlim
      exact ⟨mc, nsB h1, h2⟩
    have md : Mod K mg (hidT s.heap H) := ⟨kB, nsB hns, ⟨mb, nsB hb, hbb⟩, lim'⟩
    have nob : ∀ b ∈ frs ([] : List Env), H b = none := fun b hb => by cases hb
    have e0 : Env0 P w K mg (hidT s.heap H) callerA [] s H :=
      ⟨rfl, md, fun b ob e => of_hidT e, Nat.le_of_eq (hidT_size _ _), trivial, nob, hok, .of_eq hg⟩
    have oH : Only H := by
      intro b
      rcases hH b with q | ⟨_, q, _⟩
      · exact .inl q
      · exact .inr ⟨_, _, q⟩
    have run := (F _ kB (nsB hns)).go callerA [] s H ⟨[.ref a], []⟩ [.ref a] [.ref a] _ _ hr e0
      (hbind s (.ref a)) (.cons rfl .nil) (hsp H oH hS)
    refine codeAny_mono run ?_
    intro r s' h
    match r, h with
    | .error e, h => exact (hCX H e s' h).elim
    | .ok .next, h => exact False.elim h
    | .ok .brk, h => exact False.elim h
    | .ok .cont, h => exact False.elim h
    | .ok (.ret u), h =>
      obtain ⟨v, H', os, bare, un, hok', rv, q⟩ := h
      have q : v = .bl true := q
      subst q
      have ru : u = Value.bool true := rv
      subst ru
      refine ⟨rfl, OldK.of_keep ?_, os, bare⟩
      intro b ob e
      rcases hH b with q | ⟨_, q, _⟩
      · exact un.keep b ob e q (fun z => by cases z) (fun z => by cases z)
      · obtain ⟨e1, _⟩ := hok b _ q
        obtain ⟨e2, _⟩ := hok' b _ (un.frzs b o _ q)
        rw [e] at e1
        cases e1
        exact e2
  have rv := vals_ints hi
  cases hk : K.lookup a with
  | some ob =>
    have e := KX a ob hk
    rw [ha] at e
    cases e
    refine main (fun _ => none) (fun b => .inl rfl) (.inr ⟨_, vs.toArray, _, hk, rfl, rfl, rfl, ?_, by simpa using rv⟩) (fun b u z => by cases z)
    rw [List.size_toArray, hi.length]
    exact hl
  | none =>
    let H1 : Hp := fun b => if b = a then some (.frz o (.lst (ns.map V.int))) else none
    have at1 : H1 a = some (.frz o (.lst (ns.map V.int))) := if_pos rfl
    refine main H1 ?_ (.inl (.inr ⟨o, at1⟩)) ?_
    · intro b
      by_cases hb : b = a
      · subst hb
        exact .inr ⟨rfl, at1, hk⟩
      · exact .inl (if_neg hb)
    · intro b u z
      by_cases hb : b = a
      · subst hb
        rw [at1] at z
        cases z
        exact ⟨ha, by rw [List.length_map]; exact hl, vs, _, rv, ha⟩
      · have z' : H1 b = none := if_neg hb
        rw [z'] at z
        cases z

/-- the goal behind the head -/
theorem law_walk {l : PySem.W.OpenLaw} {n k : Nat} {q : Program} {loose : List Str} {XP : (Str → Option Value) → Heap → Prop}
    {YP : World → Heap → Prop} {d : DefRec} {CX : CXT} {x : Str}
    (hn : l.most = some n) (hn2 : n ≤ sizeLine) (hdf : d.params.defaults = []) (hr : Rm k callerA)
    (F : ∀ (w : World) (mg : Str → Option Value) (fa : Addr) (h : Heap), YP w h → h.Ns mainGlobals mg → mg d.name = some (.ref fa) →
      ∃ (K : PySem.W.Frag) (fd : FuncData) (sp : Sp), K.In h ∧ (∀ (s : Shared) (u : Value), BindsTo s fd ⟨[u], []⟩ [(x, u)]) ∧
        (∀ (H : Hp) (a : Addr) (ns : List Int), ns.length ≤ n → Only H → SqL K H a (ns.map V.int) →
          sp [.ref a] H (fun v _ => v = .bl true) fun _ _ _ => False) ∧
        ∀ base : Heap, K.In base → base.Ns mainGlobals mg → Fg l.prog w K mg base CX k fa fd [x] sp)
    (hCX : ∀ (H : Hp) (s : Shared) (e : Value) (s' : Shared), CX [] H s (fun _ _ _ => False) e s' → False) :
    PySem.W.WalkO q loose XP YP l.row.toRowW d [] (fun f vs => PySem.call f vs) := by
  refine Att.attach_call hn hdf ?_
  intro w s₀ s₁ mg mb fa o pm cd doc a vs ns G Y ho hd hcd hmg hobj hints hlen hg
  obtain ⟨K, fd, sp, KX, hb, hsp, hF⟩ := F w mg fa _ Y G.T.g hmg
  exact first_call KX G.T.g G.T.b G.T.builtins G.T.nolimit hg hobj hints (Nat.le_trans hlen hn2) hr hF hb
    (fun H hO hS => hsp H a ns hlen hO hS) (fun H e s' => hCX H s₁ e s')
end VB
namespace VB
open PySem PySem.Spec PyProof.Rows L2
mutual
theorem dp_noDict {K : PySem.W.Frag} {H : Hp} : ∀ {d : PyData} {v : V}, Dp K H v d → d.hasDict = false
  | .none, _, _ => by simp only [PyData.hasDict]
  | .bool _, _, _ => by simp only [PyData.hasDict]
  | .int _, _, _ => by simp only [PyData.hasDict]
  | .str _, _, _ => by simp only [PyData.hasDict]
  | .list ds, _, .lst _ h => by
    simp only [PyData.hasDict]
    exact dpAll_noDict h
  | .tuple ds, _, .tup _ h => by
    simp only [PyData.hasDict]
    exact dpAll_noDict h
  | .dict _, _, h => nomatch h
theorem dpAll_noDict {K : PySem.W.Frag} {H : Hp} : ∀ {ds : List PyData} {vs : List V}, DpAll K H vs ds → PyData.hasDictAll ds = false
  | [], _, _ => by simp only [PyData.hasDictAll]
  | d :: ds, _, .cons h t => by simp only [PyData.hasDictAll, dp_noDict h, dpAll_noDict t, Bool.or_self]
end
section
variable {X : Cx} {k : Nat}
/-- repr(x), x data of any depth without dicts -/
@[irreducible] def rRepr (K : PySem.W.Frag) : List V → Hp → VK → Prop := fun xs H Q => ∃ (a : Addr) (d : PyData), xs = [.ref a] ∧
  Dp K H (.ref a) d ∧ d.showable = true ∧ d.depth ≤ 60 ∧ d.shown.length ≤ sizeLine ∧ Q (.str d.shown) H
theorem call_repr (hr : Rm k X.A) : CallR X (.builtin "repr") (rRepr X.K) := by
  intro pins s σ H xs us Q I r h
  unfold rRepr at h
  obtain ⟨a, d, rfl, hd, hs, hdep, hl, q⟩ := h
  obtain ⟨u, rfl, ru⟩ := vals1 r
  obtain ⟨as, rd⟩ := Dp.reads I d _ u hd ru
  cases (show u = Value.ref a from ru)
  have hu := hr.rm.un
  refine repr_of_reads' rd hs (PyData.noDict_hsm (dp_noDict hd)) hr.gd (by omega) (fun _ _ e => e) ?_ hl
  intro h' u tk kp
  refine ⟨.str d.shown, H, ?_, ⟨u, rfl⟩, q⟩
  exact I.un (Un.kept kp) (I.hok.kept kp)
end
end VB
namespace VB
open PySem PySem.Spec PyProof.Rows L2
section
variable {X : Cx} {K : PySem.W.Frag}
def rAddU (K : PySem.W.Frag) : R2 := fun x y H Q => rI0 (fun i j => .int (i + j)) x y H Q ∨ (rCat x y H Q ∨ rCatT K x y H Q)
theorem u_add (hK : X.K = K := by rfl) : OpR X (binaryOp .Add) (rAddU K) := by
  subst hK
  exact op_add.or (op_cat.or op_catT)
def rMulU (K : PySem.W.Frag) : R2 := fun x y H Q => rI CMulX (fun i j => .int (i * j)) x y H Q ∨ (rRep x y H Q ∨ rRepT K x y H Q)
theorem u_mul (hK : X.K = K := by rfl) : OpR X (binaryOp .Mult) (rMulU K) := by
  subst hK
  exact op_mulX.or (op_rep.or op_repT)
def rEqU (K : PySem.W.Frag) : R2 := fun x y H Q => rEq x y H Q ∨ rEqD K x y H Q
theorem u_eq {k : Nat} (hr : Rm k X.A) (hK : X.K = K := by rfl) : OpR X (compareOp .Eq) (rEqU K) := by
  subst hK
  exact op_eq.or (op_eqD hr.rm.units)
def rNeU (K : PySem.W.Frag) : R2 := fun x y H Q => rNe x y H Q ∨ rNeD K x y H Q
theorem u_ne {k : Nat} (hr : Rm k X.A) (hK : X.K = K := by rfl) : OpR X (compareOp .NotEq) (rNeU K) := by
  subst hK
  exact op_ne.or (op_neD hr.rm.units)
def rSlU (K : PySem.W.Frag) : V → Option Int → Option Int → Hp → VK → Prop := fun x lo hi H Q => rSlL K x lo hi H Q ∨ (rSlT K x lo hi H Q ∨ rSlS x lo hi H Q)
theorem u_sl (hK : X.K = K := by rfl) : SlR X (rSlU K) := by
  subst hK
  exact sl_list.or (sl_tup.or sl_str)
theorem u_ix (hK : X.K = K := by rfl) : IxR X (rIx K) := by
  subst hK
  exact ix_seq
theorem u_in (hK : X.K = K := by rfl) : OpR X (compareOp .In) (rIn K false) := by
  subst hK
  exact op_in_seq
theorem u_notin (hK : X.K = K := by rfl) : OpR X (compareOp .NotIn) (rIn K true) := by
  subst hK
  exact op_notIn_seq
def rLenU (K : PySem.W.Frag) : List V → Hp → VK → Prop := fun xs H Q => ∃ x n, xs = [x] ∧ LenV K x H n ∧ Q (.int n) H
theorem u_len (hK : X.K = K := by rfl) : CallR X (.builtin "len") (rLenU K) := by
  subst hK
  exact call_len
theorem u_isi (hK : X.K = K := by rfl) : CallR X (.builtin "isinstance") (rIsi K) := by
  subst hK
  exact call_isi
theorem u_isiT (hK : X.K = K := by rfl) : CallR X (.builtin "isinstance") (rIsiT K) := by
  subst hK
  exact call_isiT
theorem u_sum (hc : X.calm = true) (hK : X.K = K := by rfl) : CallR X (.builtin "sum") (rSum K) := by
  subst hK
  exact cr_sum hc
theorem u_all (hc : X.calm = true) (hK : X.K = K := by rfl) : CallR X (.builtin "all") (rAll K) := by
  subst hK
  exact cr_all hc
theorem u_any (hc : X.calm = true) (hK : X.K = K := by rfl) : CallR X (.builtin "any") (rAny K) := by
  subst hK
  exact cr_any hc
theorem u_repr {k : Nat} (hr : Rm k X.A) (hK : X.K = K := by rfl) : CallR X (.builtin "repr") (rRepr K) := by
  subst hK
  exact call_repr hr
def rListU (K : PySem.W.Frag) : List V → Hp → VK → Prop := fun xs H Q => ∃ p ys, xs = [.ref p] ∧ (SqL K H p ys ∨ SqT K H p ys) ∧ ∀ l, H l = none → Q (.ref l) (upd H l (.lst ys))
theorem u_list (hK : X.K = K := by rfl) : CallR X (.type "list") (rListU K) := by
  subst hK
  exact call_list_of
def rTupU (K : PySem.W.Frag) : List V → Hp → VK → Prop := fun xs H Q => ∃ p ys, xs = [.ref p] ∧ ((SqL K H p ys ∧ ∀ l, H l = none → Q (.ref l) (upd H l (.tup ys))) ∨ (SqT K H p ys ∧ Q (.ref p) H))
theorem u_tup (hK : X.K = K := by rfl) : CallR X (.type "tuple") (rTupU K) := by
  subst hK
  exact call_tuple_of
theorem u_count (hK : X.K = K := by rfl) : MtR X "list.count" (rCntI K) := by
  subst hK
  exact mt_lcount
def tTru (K : PySem.W.Frag) (ta : TE) : TT := fun σ H Q => ta σ H fun x H' => ∃ k, TruV K x H' k ∧ Q k H'
theorem pt_tru {a : Expr} {ta : TE} (ha : PE X a ta) (he : ∀ whole, isTrue a X.env whole = (do let v ← whole; standAt a.pos; holding [v] (truthy v))) (hK : X.K = K := by rfl) : PT X a (tTru K ta) := by
  subst hK
  exact pt_truth ha he
theorem pi_either {tg iter : Expr} {a b : TI} (h : PI X tg iter a) (h' : PI X tg iter b) : PI X tg iter (fun σ H R => a σ H R ∨ b σ H R) := by
  constructor
  intro pins s σ H R I q
  rcases q with q | q
  · exact h.run pins s σ H R I q
  · exact h'.run pins s σ H R I q
def iSeq (K : PySem.W.Frag) (t : TE) : TI := fun σ H R => iList K t σ H R ∨ iTup K t σ H R
theorem pi_seq {tg e : Expr} {t : TE} (h : PE X e t) (hK : X.K = K := by rfl) : PI X tg e (iSeq K t) := by
  subst hK
  exact pi_either (pi_list h) (pi_tup h)
theorem pi_enu {e : Expr} {ta : TA} {p pos tpos : Pos} {elts : List Expr} {kk : Nat} (hg : Gl X "enumerate") (hm : X.mg "enumerate" = none) (ha : PA X [e] ta) (hK : X.K = K := by rfl)
    (hs : starEach [e] X.env = (false, eval e X.env) :: starEach [] X.env := by rfl) : PI X (.Tuple elts kk tpos) (.Call (.Name "enumerate" p) [e] [] pos) (iEnum K ta) := by
  subst hK
  exact pi_enum hg hm ha hs
theorem pg_tupU {es : List Expr} {k : Nat} {t : TGs} {n : Nat} {pos : Pos} (hc : X.calm = true) (h : PGs X es t) (hK : X.K = K := by rfl)
    (hn : (assignEach es X.env).length = n := by rfl) (hst : (assignEach es X.env).findIdx? (·.1) = none := by rfl) : PG X (.Tuple es k pos) (gTup K n t) := by
  subst hK
  exact pg_tup hc h hn hst
/-- an int's remainder and quotient by a positive one, as they are -/
theorem fmodE {a b : Int} (h : 0 ≤ b := by decide) : a.fmod b = a % b := Int.fmod_eq_emod_of_nonneg a h
theorem fdivE {a b : Int} (h : 0 ≤ b := by decide) : a.fdiv b = a / b := Int.fdiv_eq_ediv_of_nonneg a h
/-- by a positive divisor -/
theorem u_mod : OpR X (binaryOp .Mod) (rI (fun _ j => 0 < j) fun i j => .int (i % j)) := by
  intro pins s σ H x y v u Q I rx ry h
  obtain ⟨i, j, rfl, rfl, hj, q⟩ := h
  refine op_modN pins s σ H _ _ v u Q I rx ry ⟨i, j, rfl, rfl, by omega, ?_⟩
  show Q (.int (i.fmod j)) H
  rw [fmodE (by omega)]
  exact q
theorem u_fdiv : OpR X (binaryOp .FloorDiv) (rI (fun _ j => 0 < j ∧ j < 1073741824) fun i j => .int (i / j)) := by
  intro pins s σ H x y v u Q I rx ry h
  obtain ⟨i, j, rfl, rfl, hj, q⟩ := h
  refine op_fdivN pins s σ H _ _ v u Q I rx ry ⟨i, j, rfl, rfl, ⟨by omega, by omega⟩, ?_⟩
  show Q (.int (i.fdiv j)) H
  rw [fdivE (by omega)]
  exact q
end
end VB
namespace VB
/-- what follows, shown once for several ways -/
theorem once {R G : Prop} (main : R → G) (rest : R) : G := main rest
end VB
/-! sequences: lists and tuples alike -/
namespace VB
open PySem PySem.Spec PyProof.Rows L2
/-- a list (false) or a tuple (true) of the values xs -/
def Sv (t : Bool) (K : PySem.W.Frag) (H : Hp) (a : Addr) (xs : List V) : Prop := match t with
  | false => SqL K H a xs
  | true => SqT K H a xs
section
variable {K : PySem.W.Frag} {H H' : Hp} {a : Addr} {xs : List V} {t : Bool}
theorem Sv.ex (h : Sv t K H a xs) (e : Evl.Ex H H') : Sv t K H' a xs := by
  cases t with
  | false => exact Evl.ex_l e (show SqL K H a xs from h)
  | true => exact Evl.ex_t e (show SqT K H a xs from h)
theorem Sv.lst (h : H a = some (.lst xs)) : Sv false K H a xs := SqL.of h
theorem Sv.tup (h : H a = some (.tup xs)) : Sv true K H a xs := SqT.of h
/-- a walk over what stands in a slot -/
theorem seq_var {i : Nat} {σ : L2.St} {R : It → Hp → Prop} (e : σ[i]? = some (some (.ref a))) (S : Sv t K H a xs)
    (h : ∀ J, Walk J xs.length (fun H => Sv t K H a xs) (YAt xs) → R J H) : iSeq K (tVar i) σ H R := by
  cases t with
  | false => exact .inl ⟨_, e, a, rfl, ⟨xs, S⟩, h _ walk_list⟩
  | true => exact .inr ⟨_, e, a, rfl, ⟨xs, S⟩, h _ walk_tup⟩
theorem Sv.len (S : Sv t K H a xs) : LenV K (.ref a) H xs.length := by
  cases t with
  | false => exact .inl ⟨xs, S, rfl⟩
  | true => exact .inr ⟨xs, S, rfl⟩
theorem Sv.ix {x v : V} {i : Int} {Q : VK} (S : Sv t K H a xs) (h : atI xs i = some v) (q : Q v H) : rIx K (.ref a) (.int i) H Q := by
  cases t with
  | false => exact .inl ⟨a, xs, i, v, rfl, rfl, S, h, q⟩
  | true => exact .inr (.inl ⟨a, xs, i, v, rfl, rfl, S, h, q⟩)
theorem Sv.either (S : Sv t K H a xs) : SqL K H a xs ∨ SqT K H a xs := by
  cases t with
  | false => exact .inl S
  | true => exact .inr S
end
/-- a range by a step upward -/
theorem rg_up {n c : Int} (hn : 0 ≤ n) (hn2 : n < 1000000) (hc : 0 < c) (hc2 : c < 1000000) : RgC 0 n c ((n + c - 1) / c).toNat := by
  refine ⟨by omega, by omega, ?_, ?_⟩
  · have z := PyProof.Rows.rangeSize_pos (len := n) (c := c) (by omega) hn
    have d : 0 ≤ (n + c - 1) / c := Int.ediv_nonneg (by omega) (by omega)
    have d2 : (n + c - 1) / c ≤ n + c - 1 := Int.ediv_le_self _ (by omega)
    have d3 : (n + c - 1) / c * c ≤ n + c - 1 := Int.ediv_mul_le _ (by omega)
    unfold Builtin.Range.small
    rw [z]
    simp only [Builtin.Range.rangeFitsLong, Bool.and_eq_true, Bool.or_eq_true, decide_eq_true_eq, beq_iff_eq, hc, gt_iff_lt, if_true]
    omega
  · have d : 0 ≤ (n + c - 1) / c := Int.ediv_nonneg (by omega) (by omega)
    rw [PyProof.Rows.rangeSize_pos (by omega) hn]
    omega
/-- the promises' shapes: a new list, a new tuple, a value; what stood stands -/
abbrev RL (xs : List V) (H : Hp) (Q : VK) : Prop := ∀ (p : Addr) (H' : Hp), H p = none → Evl.Ex H H' → H' p = some (.lst xs) → Q (.ref p) H'
abbrev RT (xs : List V) (H : Hp) (Q : VK) : Prop := ∀ (p : Addr) (H' : Hp), H p = none → Evl.Ex H H' → H' p = some (.tup xs) → Q (.ref p) H'
abbrev RV (v : V) (H : Hp) (Q : VK) : Prop := ∀ H' : Hp, Evl.Ex H H' → Q v H'
/-- ints as values -/
abbrev IV (ns : List Int) : List V := ns.map V.int
theorem iv_get {ns : List Int} {i : Nat} {x : V} (h : (IV ns)[i]? = some x) : ∃ n, ns[i]? = some n ∧ x = .int n := by
  rw [List.getElem?_map] at h
  cases e : ns[i]? with
  | none => rw [e] at h; cases h
  | some n =>
    rw [e] at h
    exact ⟨n, rfl, (Option.some.inj h).symm⟩
theorem iv_at {ns : List Int} {i : Nat} {n : Int} (h : ns[i]? = some n) : atI (IV ns) (i : Int) = some (.int n) := by
  apply atI_nat
  rw [List.getElem?_map, h]
  rfl
theorem iv_len (ns : List Int) : (IV ns).length = ns.length := List.length_map ..
theorem iv_snoc (ns : List Int) (n : Int) : IV ns ++ [V.int n] = IV (ns ++ [n]) := by simp
theorem take_snoc {α : Type} {l : List α} {i : Nat} {x : α} (h : l[i]? = some x) : l.take (i + 1) = l.take i ++ [x] := by
  rw [List.take_add_one, h]
  rfl
/-- a comprehension over a range that changes nothing: us its items -/
theorem lc_pureR {n j : Nat} {us : List Int} {te : TE} {vs : List Nat} {σ : L2.St} {H1 : Hp} {D : Addr} {Qd : Hp → Prop} (hl : us.length = n) (hz : n ≤ 60000) (hD : H1 D = none)
    (hw : ∀ x, wipe ((wipe σ vs).set j x) vs = wipe σ vs)
    (hs : ∀ (i : Nat) (u : Int) (H : Hp) (Q : VK), us[i]? = some u → Evl.Ex H1 H → (∀ H' : Hp, Evl.Ex H H' → Q (.int u) H') → te ((wipe σ vs).set j (some (.int (i : Int)))) H Q)
    (hd : ∀ H, Evl.Ex H1 H → H D = some (.lst (IV us)) → Qd H) :
    ∃ W : Nat → Nat → Hp → Prop, (∃ m, W 0 m (upd H1 D (.lst []))) ∧ ∀ i m H, W i m H →
      ((Itr 0 n).stop i H ∧ Qd H) ∨ ((Itr 0 n).go i H ∧ ∃ Nx : Hp → Prop, (∀ H', Nx H' → ∃ m', m' < m ∧ W (i + 1) m' H') ∧ ∀ x H', (Itr 0 n).yld i H x H' →
        gName j x (wipe σ vs) H' fun σ2 H2 => wipe σ2 vs = wipe σ vs ∧ tYes σ2 H2 fun b H3 =>
        if b = true then te σ2 H3 fun y H4 => ∃ acc, H4 D = some (.lst acc) ∧ acc.length < sizeLine ∧ Nx (upd H4 D (.lst (acc ++ [y]))) else Nx H3) := by
  refine lc_range (lo := 0) (n := n) (fun i H' => Evl.Ex H1 H' ∧ i ≤ n ∧ H' D = some (.lst (IV (us.take i)))) ⟨Evl.Ex.new hD, Nat.zero_le _, upd_same⟩ ?_ ?_
  · rintro i H hi ⟨e1, hi2, h1⟩
    have e0 : (0 : Int) + (i : Int) = (i : Int) := Int.zero_add _
    rw [e0]
    refine ⟨hw _, ?_⟩
    obtain ⟨u, hu⟩ : ∃ u, us[i]? = some u := ⟨us[i]'(by omega), by simp [show i < us.length by omega]⟩
    show te _ H _
    refine hs i u H _ hu e1 fun H' e2 => ⟨_, e2 D _ h1, ?_, Evl.Ex.mut (e1.trans e2) hD, by omega, ?_⟩
    · rw [iv_len, List.length_take]
      exact Evl.sz_lt (by omega)
    · rw [upd_same, iv_snoc, take_snoc hu]
  · rintro H ⟨e1, _, h1⟩
    refine hd H e1 ?_
    rw [h1, ← hl, List.take_length]
/-- .. over a sequence -/
theorem lc_pureS {J : It} {G : Hp → Prop} {n j : Nat} {us : List Int} {xs : List V} {te : TE} {vs : List Nat} {σ : L2.St} {H1 : Hp} {D : Addr} {Qd : Hp → Prop} (wk : Walk J n G (YAt xs)) (hG : ∀ H, Evl.Ex H1 H → G H)
    (hl : us.length = n) (hz : n ≤ 60000) (hD : H1 D = none) (hw : ∀ x, wipe ((wipe σ vs).set j x) vs = wipe σ vs)
    (hs : ∀ (i : Nat) (x : V) (u : Int) (H : Hp) (Q : VK), xs[i]? = some x → us[i]? = some u → Evl.Ex H1 H → (∀ H' : Hp, Evl.Ex H H' → Q (.int u) H') → te ((wipe σ vs).set j (some x)) H Q)
    (hd : ∀ H, Evl.Ex H1 H → H D = some (.lst (IV us)) → Qd H) :
    ∃ W : Nat → Nat → Hp → Prop, (∃ m, W 0 m (upd H1 D (.lst []))) ∧ ∀ i m H, W i m H →
      (J.stop i H ∧ Qd H) ∨ (J.go i H ∧ ∃ Nx : Hp → Prop, (∀ H', Nx H' → ∃ m', m' < m ∧ W (i + 1) m' H') ∧ ∀ x H', J.yld i H x H' →
        gName j x (wipe σ vs) H' fun σ2 H2 => wipe σ2 vs = wipe σ vs ∧ tYes σ2 H2 fun b H3 =>
        if b = true then te σ2 H3 fun y H4 => ∃ acc, H4 D = some (.lst acc) ∧ acc.length < sizeLine ∧ Nx (upd H4 D (.lst (acc ++ [y]))) else Nx H3) := by
  refine lc_it wk (fun i H' => Evl.Ex H1 H' ∧ i ≤ n ∧ H' D = some (.lst (IV (us.take i)))) ⟨Evl.Ex.new hD, Nat.zero_le _, upd_same⟩ (fun i H _ h => hG H h.1) ?_ ?_
  · rintro i x H H' hi ⟨e1, hi2, h1⟩ ⟨rfl, hx⟩
    refine ⟨hw _, ?_⟩
    obtain ⟨u, hu⟩ : ∃ u, us[i]? = some u := ⟨us[i]'(by omega), by simp [show i < us.length by omega]⟩
    show te _ H' _
    refine hs i x u H' _ hx hu e1 fun H'' e2 => ⟨_, e2 D _ h1, ?_, Evl.Ex.mut (e1.trans e2) hD, by omega, ?_⟩
    · rw [iv_len, List.length_take]
      exact Evl.sz_lt (by omega)
    · rw [upd_same, iv_snoc, take_snoc hu]
  · rintro H ⟨e1, _, h1⟩
    refine hd H e1 ?_
    rw [h1, ← hl, List.take_length]
end VB
/-! data of ints: what stands, what repr shows, what == says -/
namespace VB
open PySem PySem.Spec PyProof.Rows L2
abbrev DL (ns : List Int) : PyData := .list (ns.map .int)
abbrev DT (ns : List Int) : PyData := .tuple (ns.map .int)
section
variable {K : PySem.W.Frag} {H H' : Hp} {a : Addr} {ns : List Int} {t : Bool}
theorem dpAll_ints : ∀ ns : List Int, DpAll K H (IV ns) (ns.map .int)
  | [] => .nil
  | n :: ns => .cons (.int n) (dpAll_ints ns)
theorem dp_l (h : SqL K H a (IV ns)) : Dp K H (.ref a) (DL ns) := .lst h (dpAll_ints ns)
theorem dp_t (h : SqT K H a (IV ns)) : Dp K H (.ref a) (DT ns) := .tup h (dpAll_ints ns)
end
/-- what can be shown, its depth and its text's length bounded -/
structure Sh (d : PyData) (h b : Nat) : Prop where
  ok : d.showable = true
  dep : d.depth ≤ h
  len : d.shown.length ≤ b
theorem Sh.le {d : PyData} {h b h' b' : Nat} (s : Sh d h b) (h1 : h ≤ h' := by omega) (h2 : b ≤ b' := by omega) : Sh d h' b' :=
  ⟨s.ok, Nat.le_trans s.dep h1, Nat.le_trans s.len h2⟩
theorem pow2_lt : ∀ n : Nat, n < 2 ^ n
  | 0 => by decide
  | n + 1 => by
    have := pow2_lt n
    rw [Nat.pow_succ]
    omega
theorem log2_le_self (n : Nat) : n.log2 ≤ n := by
  by_cases h : n = 0
  · subst h
    decide
  · have q := Nat.log2_self_le h
    have p := pow2_lt n.log2
    omega
theorem sh_int {n : Int} (h : 0 ≤ n ∧ n < 10000 ∧ n.natAbs.log2 < 1920) : Sh (.int n) 0 4 := by
  refine ⟨by simp only [PyData.showable, decide_eq_true_eq]; exact h.2.2, by simp only [PyData.depth]; exact Nat.le_refl _, ?_⟩
  rw [PyData.shown_int]
  exact toString_length_le h.1 (by decide) (by omega)
theorem log_small {n : Int} (h : 0 ≤ n) (h2 : n < 10000) : n.natAbs.log2 < 1920 := by
  by_cases z : n.natAbs = 0
  · rw [z]
    decide
  · have q := Nat.log2_lt z (k := 1920)
    refine q.mpr (Nat.lt_of_lt_of_le (m := 2 ^ 14) (by omega) (Nat.pow_le_pow_right (by decide) (by decide)))
theorem piled_le {b : Nat} : ∀ ts : List Str, (∀ t ∈ ts, t.length ≤ b) → piled ts ≤ (b + 2) * ts.length
  | [], _ => Nat.zero_le _
  | t :: ts, h => by
    have a := h t (List.mem_cons_self ..)
    have c := piled_le ts fun u hu => h u (List.mem_cons_of_mem _ hu)
    rw [piled_cons, List.length_cons, Nat.mul_succ]
    omega
theorem join_le {b : Nat} (ts : List Str) (h : ∀ t ∈ ts, t.length ≤ b) : (Str.join ", " ts).length ≤ (b + 2) * ts.length := by
  by_cases z : ts = []
  · subst z
    exact Nat.zero_le _
  · have j := join_length_add ts z
    have p := piled_le ts h
    omega
theorem mem_shown {x : Str} : ∀ {ds : List PyData}, x ∈ PyData.shownAll ds → ∃ d ∈ ds, x = d.shown
  | [], h => by
    rw [PyData.shownAll_nil] at h
    cases h
  | d :: ds, h => by
    rw [PyData.shownAll_cons] at h
    cases h with
    | head => exact ⟨d, List.mem_cons_self .., rfl⟩
    | tail _ h =>
      obtain ⟨e, he, q⟩ := mem_shown h
      exact ⟨e, List.mem_cons_of_mem _ he, q⟩
theorem depAll {h : Nat} : ∀ {ds : List PyData}, (∀ d ∈ ds, d.depth ≤ h) → PyData.depthAll ds ≤ h
  | [], _ => by simp only [PyData.depthAll]; exact Nat.zero_le _
  | d :: ds, q => by
    simp only [PyData.depthAll]
    exact Nat.max_le.mpr ⟨q d (List.mem_cons_self ..), depAll fun e he => q e (List.mem_cons_of_mem _ he)⟩
theorem str_app (a b : Str) : (a ++ b).length = a.length + b.length := by
  exact strLen_append a b
theorem sh_list {ds : List PyData} {h b n : Nat} (q : ∀ d ∈ ds, Sh d h b) (hn : ds.length ≤ n) : Sh (.list ds) (h + 1) ((b + 2) * n + 4) := by
  refine ⟨?_, ?_, ?_⟩
  · simp only [PyData.showable]
    exact PySem.Spec.showableAll_of fun d hd => (q d hd).ok
  · simp only [PyData.depth]
    exact Nat.succ_le_succ (depAll fun d hd => (q d hd).dep)
  · rw [PyData.shown_list, str_app, str_app]
    have j := join_le (b := b) (PyData.shownAll ds) (by
      intro t ht
      obtain ⟨d, hd, rfl⟩ := mem_shown ht
      exact (q d hd).len)
    rw [PyData.shownAll_length] at j
    have l1 : ("[" : Str).length = 1 := by decide
    have l2 : ("]" : Str).length = 1 := by decide
    have m : (b + 2) * ds.length ≤ (b + 2) * n := Nat.mul_le_mul_left _ hn
    omega
theorem sh_tup {ds : List PyData} {h b n : Nat} (q : ∀ d ∈ ds, Sh d h b) (hn : ds.length ≤ n) : Sh (.tuple ds) (h + 1) ((b + 2) * n + 4) := by
  refine ⟨?_, ?_, ?_⟩
  · simp only [PyData.showable]
    exact PySem.Spec.showableAll_of fun d hd => (q d hd).ok
  · simp only [PyData.depth]
    exact Nat.succ_le_succ (depAll fun d hd => (q d hd).dep)
  · rw [PyData.shown_tuple, str_app, str_app]
    have j := join_le (b := b) (PyData.shownAll ds) (by
      intro t ht
      obtain ⟨d, hd, rfl⟩ := mem_shown ht
      exact (q d hd).len)
    rw [PyData.shownAll_length] at j
    have l1 : ("(" : Str).length = 1 := by decide
    have l2 : (if ds.length == 1 then ",)" else ")" : Str).length ≤ 2 := by
      split <;> decide
    have m : (b + 2) * ds.length ≤ (b + 2) * n := Nat.mul_le_mul_left _ hn
    have l3 : (Str.ofString (if ds.length == 1 then ",)" else ")" : String)).length ≤ 2 := by
      split <;> decide
    omega
/-- ints below 10000 -/
def Sm (ns : List Int) : Prop := ∀ n ∈ ns, 0 ≤ n ∧ n < 10000
theorem sm_ds {ns : List Int} (h : Sm ns) : ∀ d ∈ ns.map PyData.int, Sh d 0 4 := by
  intro d hd
  obtain ⟨n, hn, rfl⟩ := List.mem_map.mp hd
  have := h n hn
  exact sh_int ⟨this.1, this.2, log_small this.1 this.2⟩
theorem sh_l {ns : List Int} (h : Sm ns) (hl : ns.length ≤ 6000) : Sh (DL ns) 1 40000 := (sh_list (sm_ds h) (n := 6000) (by simpa using hl)).le
theorem sh_t {ns : List Int} (h : Sm ns) (hl : ns.length ≤ 6000) : Sh (DT ns) 1 40000 := (sh_tup (sm_ds h) (n := 6000) (by simpa using hl)).le
section
variable {K : PySem.W.Frag} {H : Hp} {a b : Addr} {ns ms : List Int} {Q : VK}
theorem rp {d : PyData} {h n : Nat} (e : Dp K H (.ref a) d) (s : Sh d h n) (q : Q (.str d.shown) H) (hh : h ≤ 60 := by decide) (hn : n ≤ 1000000 := by omega) : rRepr K [.ref a] H Q := by
  unfold rRepr
  exact ⟨a, d, rfl, e, s.ok, Nat.le_trans s.dep hh, Nat.le_trans (Nat.le_trans s.len hn) (by decide), q⟩
theorem rp_l (e : SqL K H a (IV ns)) (h : Sm ns) (hl : ns.length ≤ 6000) (q : Q (.str (DL ns).shown) H) : rRepr K [.ref a] H Q := rp (dp_l e) (sh_l h hl) q
theorem rp_t (e : SqT K H a (IV ns)) (h : Sm ns) (hl : ns.length ≤ 6000) (q : Q (.str (DT ns).shown) H) : rRepr K [.ref a] H Q := rp (dp_t e) (sh_t h hl) q
theorem eqvAll_ints : ∀ xs ys : List Int, PyData.eqvAll (xs.map .int) (ys.map .int) = decide (xs = ys)
  | [], [] => by simp [PyData.eqvAll]
  | [], _ :: _ => by simp [PyData.eqvAll]
  | _ :: _, [] => by simp [PyData.eqvAll]
  | x :: xs, y :: ys => by
    simp only [List.map_cons, PyData.eqvAll, PyData.eqv, eqvAll_ints xs ys]
    by_cases h : x = y <;> by_cases h2 : xs = ys <;> simp [h, h2]
theorem canAll : ∀ ns : List Int, PyData.canLayAll0 (ns.map .int) = true
  | [] => by simp [PyData.canLayAll0]
  | n :: ns => by simp [PyData.canLayAll0, PyData.canLay0, canAll ns]
theorem depInts : ∀ ns : List Int, PyData.depthAll (ns.map .int) = 0
  | [] => by simp [PyData.depthAll]
  | n :: ns => by simp [PyData.depthAll, PyData.depth, depInts ns]
theorem shp_l (ns : List Int) : SeqAt.shaped (DL ns) = true := by simp [SeqAt.shaped, PyData.canLay0, PyData.depth, canAll, depInts]
theorem shp_t (ns : List Int) : SeqAt.shaped (DT ns) = true := by simp [SeqAt.shaped, PyData.canLay0, PyData.depth, canAll, depInts]
theorem req_l (e : SqL K H a (IV ns)) (e' : SqL K H b (IV ms)) (q : Q (.bl (decide (ns = ms))) H) : rEqD K (.ref a) (.ref b) H Q := by
  refine ⟨DL ns, DL ms, dp_l e, dp_l e', shp_l _, shp_l _, ?_⟩
  rw [show PyData.eqv (DL ns) (DL ms) = decide (ns = ms) by simp only [DL, PyData.eqv]; exact eqvAll_ints ns ms]
  exact q
theorem req_t (e : SqT K H a (IV ns)) (e' : SqT K H b (IV ms)) (q : Q (.bl (decide (ns = ms))) H) : rEqD K (.ref a) (.ref b) H Q := by
  refine ⟨DT ns, DT ms, dp_t e, dp_t e', shp_t _, shp_t _, ?_⟩
  rw [show PyData.eqv (DT ns) (DT ms) = decide (ns = ms) by simp only [DT, PyData.eqv]; exact eqvAll_ints ns ms]
  exact q
theorem rne_l (e : SqL K H a (IV ns)) (e' : SqL K H b (IV ms)) (q : Q (.bl (!decide (ns = ms))) H) : rNeD K (.ref a) (.ref b) H Q := by
  refine ⟨DL ns, DL ms, dp_l e, dp_l e', shp_l _, shp_l _, ?_⟩
  rw [show PyData.eqv (DL ns) (DL ms) = decide (ns = ms) by simp only [DL, PyData.eqv]; exact eqvAll_ints ns ms]
  exact q
end
end VB
/-! a tuple once is the tuple -/
namespace VB
open PySem PySem.Spec PyProof.Rows L2
theorem tuple_mul1 (l : Addr) (items : Array Value) (n : Nat) (dd : Option Addr) (sl : Array (Option Value)) (x : Int) (u : Tok) (c0 : (decide (x < -(2 ^ 63)) || decide (x ≥ 2 ^ 63)) = false) (c1 : (items.isEmpty || x == 1) = true) :
    Meets (Builtin.«tuple.__mul__» ⟨[.ref l, .int x u], []⟩) (fun _ R s => s.heap.get? l = some { cls := .type "tuple", dict := dd, data := .seq items n, slots := sl } ∧
      R (.ok (.ret (.ref l))) s) :=
  .of_wp fun prog w A R s h => by
    obtain ⟨hp, g, d, tk, os⟩ := s
    obtain ⟨hl, h⟩ := h
    have f1 := AutoSeq1.idx_int
    wp_walk using wpAny_loadPart' hl
    repeat (first
      | (refine wpAny_ite_false (decide_eq_false (by rw [c0]; exact Bool.false_ne_true)) ?_; wp_walk using wpAny_loadPart' hl)
      | (refine wpAny_ite_true (decide_eq_true c1) ?_; wp_walk using wpAny_loadPart' hl))
    exact ⟨_, rfl, h⟩
def rRepT1 (K : PySem.W.Frag) : R2 := fun x y H Q => ∃ l xs, x = .ref l ∧ y = .int 1 ∧ SqT K H l xs ∧ Q (.ref l) H
section
variable {X : Cx} {K : PySem.W.Frag}
theorem op_repT1 : OpR X (binaryOp .Mult) (rRepT1 X.K) := by
  intro pins s σ H x y v u Q I rx ry h
  obtain ⟨l, xs, rfl, rfl, hT, q⟩ := h
  cases rx
  obtain ⟨t, rfl⟩ := ry
  obtain ⟨its, r, ⟨⟨cls, dd, data, sl⟩, ho, hc, n, hd⟩, hs⟩ := I.tuple hT
  simp only at hc hd
  subst hc hd
  have c0 : (decide ((1 : Int) < -(2 ^ 63)) || decide ((1 : Int) ≥ 2 ^ 63)) = false := by decide
  have c1 : (its.toArray.isEmpty || (1 : Int) == 1) = true := by simp
  refine wpAny_binaryOp_repeat_ref (T := "tuple") (U := "int") (by decide) ⟨_, ho, rfl⟩ (fun s' => typeIs_int s' 1 t) noFill_tuple_mul F.fills_int_mul F.slot_int_rmul repeat_tuple F.slot_int_index.lookup
    (call_meets F.slot_int_rmul (typeIs_int s 1 t) F.entry_int_rmul (F.args_int_rmul_2 _ _) (int_rmul_tuple 1 t l its.toArray n dd sl)
      ⟨ho, rfl, ⟨_, ho, rfl⟩, call_meets F.slot_tuple_mul ⟨_, ho, rfl⟩ F.entry_tuple_mul (F.args_tuple_mul_2 _ _) (tuple_mul1 l its.toArray n dd sl 1 t c0 c1) ⟨ho, ?_⟩⟩)
  exact ⟨.ref l, H, I, rfl, q⟩
/-- +, * of this law: tuples once, too -/
@[irreducible] def rMulU1 (K : PySem.W.Frag) : R2 := fun x y H Q => rMulU K x y H Q ∨ rRepT1 K x y H Q
theorem u_mul1 (hK : X.K = K := by rfl) : OpR X (binaryOp .Mult) (rMulU1 K) := by
  subst hK
  unfold rMulU1
  exact (u_mul rfl).or op_repT1
end
end VB
/-! readings that are never unfolded -/
namespace VB
open PySem PySem.Spec PyProof.Rows L2
section
variable {X : Cx} {K : PySem.W.Frag}
@[irreducible] def rTupI (K : PySem.W.Frag) : List V → Hp → VK → Prop := rTupU K
@[irreducible] def rListI (K : PySem.W.Frag) : List V → Hp → VK → Prop := rListU K
theorem u_tupI (hK : X.K = K := by rfl) : CallR X (.type "tuple") (rTupI K) := by
  unfold rTupI
  exact u_tup hK
theorem u_listI (hK : X.K = K := by rfl) : CallR X (.type "list") (rListI K) := by
  unfold rListI
  exact u_list hK
@[irreducible] def tIfI (c : TT) (t u : TS) : TS := tIfS c t u
theorem ps_ifI {test : Expr} {body orelse : List Stmt} {pos : Pos} {c : TT} {t u : TS} (hc : PT X test c) (ht : PSs X body t) (hu : PSs X orelse u) : PS X (.If test body orelse pos) (tIfI c t u) := by
  unfold tIfI
  exact ps_if hc ht hu
end
end VB
/-! bits of octets: plain mathematics -/
namespace BM
def bitsOf (o : Int) : List Int := [o / 128 % 2, o / 64 % 2, o / 32 % 2, o / 16 % 2, o / 8 % 2, o / 4 % 2, o / 2 % 2, o / 1 % 2]
def bitsL (os : List Int) : List Int := os.flatMap bitsOf
def octOf (bs : List Int) : Int := bs.foldl (fun n b => 2 * n + b) 0
def octetsN : Nat → List Int → List Int
  | 0, _ => []
  | n + 1, bs => octOf (bs.take 8) :: octetsN n (bs.drop 8)
def octetsL (bs : List Int) : List Int := octetsN ((bs.length + 7) / 8) bs
def Oct (os : List Int) : Prop := ∀ o ∈ os, 0 ≤ o ∧ o ≤ 255
def Bit (bs : List Int) : Prop := ∀ b ∈ bs, b = 0 ∨ b = 1
/-- the indices at which the first is 1 and the second 0 -/
def fallenL : Int → List Int → List Int → List Int
  | k, a :: as, b :: bs => if a = 1 ∧ b = 0 then k :: fallenL (k + 1) as bs else fallenL (k + 1) as bs
  | _, _, _ => []
/-- what a mask leaves on the way -/
def turned : List Int → List Int → Int → List Int
  | a :: as, b :: bs, m => if a = b then a :: turned as bs m else (if m % 2 = 1 then b else a) :: turned as bs (m / 2)
  | _, _, _ => []
def unlike : List Int → List Int → Nat
  | a :: as, b :: bs => (if a = b then 0 else 1) + unlike as bs
  | _, _ => 0

theorem bitsOf_bit {o b : Int} (h : b ∈ bitsOf o) : b = 0 ∨ b = 1 := by
  simp only [bitsOf, List.mem_cons, List.not_mem_nil, or_false] at h
  omega
theorem bitsL_bit (os : List Int) : Bit (bitsL os) := by
  intro b h
  obtain ⟨o, _, ho⟩ := List.mem_flatMap.mp h
  exact bitsOf_bit ho
theorem bitsL_nil : bitsL [] = [] := rfl
theorem bitsL_cons (o : Int) (os : List Int) : bitsL (o :: os) = bitsOf o ++ bitsL os := by simp [bitsL]
theorem bitsOf_len (o : Int) : (bitsOf o).length = 8 := rfl
theorem bitsL_len : ∀ os : List Int, (bitsL os).length = 8 * os.length
  | [] => rfl
  | o :: os => by
    rw [bitsL_cons, List.length_append, bitsL_len os, bitsOf_len, List.length_cons]
    omega
theorem bitsL_append (a b : List Int) : bitsL (a ++ b) = bitsL a ++ bitsL b := by simp [bitsL]
theorem octOf_bitsOf {o : Int} (h : 0 ≤ o ∧ o ≤ 255) : octOf (bitsOf o) = o := by
  have key : ∀ n : Fin 256, octOf (bitsOf ((n : Nat) : Int)) = ((n : Nat) : Int) := by decide +kernel
  have e := key ⟨o.toNat, by omega⟩
  have e2 : ((o.toNat : Nat) : Int) = o := Int.toNat_of_nonneg h.1
  simp only [e2] at e
  exact e
theorem eight {bs : List Int} (h : 8 ≤ bs.length) : ∃ a b c d e f g i r, bs = a :: b :: c :: d :: e :: f :: g :: i :: r := by
  match bs, h with
  | a :: b :: c :: d :: e :: f :: g :: i :: r, _ => exact ⟨a, b, c, d, e, f, g, i, r, rfl⟩
theorem octOf8 (a b c d e f g i : Int) : octOf [a, b, c, d, e, f, g, i] = 128 * a + 64 * b + 32 * c + 16 * d + 8 * e + 4 * f + 2 * g + i := by
  simp only [octOf, List.foldl_cons, List.foldl_nil]
  omega
theorem bit_le {x : Int} (h : x = 0 ∨ x = 1) : 0 ≤ x ∧ x ≤ 1 := by omega
theorem bitsOf_octOf {a b c d e f g i : Int} (h : Bit [a, b, c, d, e, f, g, i]) : bitsOf (octOf [a, b, c, d, e, f, g, i]) = [a, b, c, d, e, f, g, i] := by
  obtain ⟨a0, a1⟩ := bit_le (h a (by simp))
  obtain ⟨b0, b1⟩ := bit_le (h b (by simp))
  obtain ⟨c0, c1⟩ := bit_le (h c (by simp))
  obtain ⟨d0, d1⟩ := bit_le (h d (by simp))
  obtain ⟨e0, e1⟩ := bit_le (h e (by simp))
  obtain ⟨f0, f1⟩ := bit_le (h f (by simp))
  obtain ⟨g0, g1⟩ := bit_le (h g (by simp))
  obtain ⟨i0, i1⟩ := bit_le (h i (by simp))
  clear h
  rw [octOf8]
  simp only [bitsOf, List.cons.injEq, and_true]
  refine ⟨?_, ?_, ?_, ?_, ?_, ?_, ?_, ?_⟩ <;> omega
theorem octOf_range {a b c d e f g i : Int} (h : Bit [a, b, c, d, e, f, g, i]) : 0 ≤ octOf [a, b, c, d, e, f, g, i] ∧ octOf [a, b, c, d, e, f, g, i] ≤ 255 := by
  have ha := h a (by simp)
  have hb := h b (by simp)
  have hc := h c (by simp)
  have hd := h d (by simp)
  have he := h e (by simp)
  have hf := h f (by simp)
  have hg := h g (by simp)
  have hi := h i (by simp)
  rw [octOf8]
  omega
theorem Bit.split8 {a b c d e f g i : Int} {r : List Int} (h : Bit (a :: b :: c :: d :: e :: f :: g :: i :: r)) : Bit [a, b, c, d, e, f, g, i] ∧ Bit r := by
  constructor
  · intro x hx
    refine h x ?_
    simp only [List.mem_cons, List.not_mem_nil, or_false] at hx
    simp only [List.mem_cons]
    rcases hx with q | q | q | q | q | q | q | q <;> simp [q]
  · intro x hx
    exact h x (by simp [hx])
/-- bits of octets of bits -/
theorem octetsN_spec : ∀ (n : Nat) (bs : List Int), bs.length = 8 * n → Bit bs → bitsL (octetsN n bs) = bs ∧ Oct (octetsN n bs) ∧ (octetsN n bs).length = n
  | 0, bs, hl, _ => by
    have e : bs = [] := List.eq_nil_of_length_eq_zero (by omega)
    subst e
    exact ⟨rfl, fun _ h => (by cases h), rfl⟩
  | n + 1, bs, hl, hb => by
    obtain ⟨a, b, c, d, e, f, g, i, r, rfl⟩ := eight (bs := bs) (by omega)
    obtain ⟨h1, h2⟩ := hb.split8
    have hr : r.length = 8 * n := by
      simp only [List.length_cons] at hl
      omega
    obtain ⟨i1, i2, i3⟩ := octetsN_spec n r hr h2
    refine ⟨?_, ?_, ?_⟩
    · show bitsL (octOf [a, b, c, d, e, f, g, i] :: octetsN n r) = _
      rw [bitsL_cons, bitsOf_octOf h1, i1]
      rfl
    · intro o ho
      rcases List.mem_cons.mp ho with q | q
      · rw [q]
        exact octOf_range h1
      · exact i2 o q
    · show (octetsN n r).length + 1 = n + 1
      rw [i3]
theorem octetsL_spec {bs : List Int} {n : Nat} (hl : bs.length = 8 * n) (hb : Bit bs) : bitsL (octetsL bs) = bs ∧ Oct (octetsL bs) ∧ (octetsL bs).length = n := by
  have e : (bs.length + 7) / 8 = n := by omega
  unfold octetsL
  rw [e]
  exact octetsN_spec n bs hl hb
theorem octetsL_bitsL : ∀ {os : List Int}, Oct os → octetsL (bitsL os) = os := by
  intro os
  induction os with
  | nil => intro _; rfl
  | cons o os ih =>
    intro h
    have h1 := h o List.mem_cons_self
    have h2 : Oct os := fun x hx => h x (List.mem_cons_of_mem _ hx)
    have i := ih h2
    have l := bitsL_len os
    have l2 := bitsL_len (o :: os)
    unfold octetsL at i ⊢
    have e1 : ((bitsL os).length + 7) / 8 = os.length := by omega
    have e2 : ((bitsL (o :: os)).length + 7) / 8 = os.length + 1 := by
      rw [l2, List.length_cons]
      omega
    rw [e1] at i
    rw [e2, bitsL_cons]
    show octOf ((bitsOf o ++ bitsL os).take 8) :: octetsN os.length ((bitsOf o ++ bitsL os).drop 8) = _
    have t : (bitsOf o ++ bitsL os).take 8 = bitsOf o := by rw [List.take_append_of_le_length (by rw [bitsOf_len]; omega)]; rfl
    have d : (bitsOf o ++ bitsL os).drop 8 = bitsL os := rfl
    rw [t, d, octOf_bitsOf h1, i]
theorem turned_len : ∀ (as bs : List Int) (m : Int), as.length = bs.length → (turned as bs m).length = as.length
  | [], [], _, _ => rfl
  | a :: as, b :: bs, m, h => by
    unfold turned
    have h' : as.length = bs.length := by simpa using h
    split
    · rw [List.length_cons, turned_len as bs m h', List.length_cons]
    · rw [List.length_cons, turned_len as bs _ h', List.length_cons]
  | [], _ :: _, _, h => by simp at h
  | _ :: _, [], _, h => by simp at h
theorem turned_bit : ∀ (as bs : List Int) (m : Int), Bit as → Bit bs → Bit (turned as bs m)
  | [], _, _, _, _ => by
    unfold turned
    intro x h
    cases h
  | _ :: _, [], _, _, _ => by
    unfold turned
    intro x h
    cases h
  | a :: as, b :: bs, m, ha, hb => by
    have h1 := ha a List.mem_cons_self
    have h2 := hb b List.mem_cons_self
    have h3 : Bit as := fun x hx => ha x (List.mem_cons_of_mem _ hx)
    have h4 : Bit bs := fun x hx => hb x (List.mem_cons_of_mem _ hx)
    unfold turned
    split
    · intro x hx
      rcases List.mem_cons.mp hx with q | q
      · rw [q]; exact h1
      · exact turned_bit as bs m h3 h4 x q
    · intro x hx
      rcases List.mem_cons.mp hx with q | q
      · rw [q]
        split
        · exact h2
        · exact h1
      · exact turned_bit as bs _ h3 h4 x q
/-- below at each place -/
def Le : List Int → List Int → Prop
  | a :: as, b :: bs => a ≤ b ∧ Le as bs
  | [], [] => True
  | _, _ => False
theorem Le.refl : ∀ as : List Int, Le as as
  | [] => True.intro
  | a :: as => ⟨Int.le_refl a, Le.refl as⟩
theorem Le.len : ∀ {as bs : List Int}, Le as bs → as.length = bs.length
  | [], [], _ => rfl
  | _ :: as, _ :: bs, h => by rw [List.length_cons, List.length_cons, Le.len h.2]
  | [], _ :: _, h => h.elim
  | _ :: _, [], h => h.elim
/-- where nothing rises from as to bs, what is left lies between -/
theorem turned_down : ∀ {as bs : List Int} (m : Int), Le bs as → Le bs (turned as bs m) ∧ Le (turned as bs m) as
  | [], [], _, _ => ⟨True.intro, True.intro⟩
  | a :: as, b :: bs, m, h => by
    have i1 := turned_down (as := as) (bs := bs) m h.2
    have i2 := turned_down (as := as) (bs := bs) (m / 2) h.2
    have h1 := h.1
    unfold turned
    split
    · rename_i e
      exact ⟨⟨by omega, i1.1⟩, ⟨Int.le_refl a, i1.2⟩⟩
    · refine ⟨⟨?_, i2.1⟩, ⟨?_, i2.2⟩⟩ <;> split <;> omega
  | [], _ :: _, _, h => h.elim
  | _ :: _, [], _, h => h.elim
theorem turned_up : ∀ {as bs : List Int} (m : Int), Le as bs → Le as (turned as bs m) ∧ Le (turned as bs m) bs
  | [], [], _, _ => ⟨True.intro, True.intro⟩
  | a :: as, b :: bs, m, h => by
    have i1 := turned_up (as := as) (bs := bs) m h.2
    have i2 := turned_up (as := as) (bs := bs) (m / 2) h.2
    have h1 := h.1
    unfold turned
    split
    · rename_i e
      exact ⟨⟨Int.le_refl a, i1.1⟩, ⟨by omega, i1.2⟩⟩
    · refine ⟨⟨?_, i2.1⟩, ⟨?_, i2.2⟩⟩ <;> split <;> omega
  | [], _ :: _, _, h => h.elim
  | _ :: _, [], _, h => h.elim
theorem Le.trans : ∀ {as bs cs : List Int}, Le as bs → Le bs cs → Le as cs
  | [], [], [], _, _ => True.intro
  | _ :: _, _ :: _, _ :: _, h, h' => ⟨Int.le_trans h.1 h'.1, h.2.trans h'.2⟩
  | [], _ :: _, _, h, _ => h.elim
  | _ :: _, [], _, h, _ => h.elim
  | [], [], _ :: _, _, h => h.elim
  | _ :: _, _ :: _, [], _, h => h.elim
/-- nothing falls upward -/
theorem fallen_none : ∀ {as bs : List Int} (k : Int), Le as bs → fallenL k as bs = []
  | [], [], _, _ => rfl
  | a :: as, b :: bs, k, h => by
    have h1 := h.1
    unfold fallenL
    rw [if_neg (by omega)]
    exact fallen_none _ h.2
  | [], _ :: _, _, h => h.elim
  | _ :: _, [], _, h => h.elim
def zc (bs : List Int) : Int := ((bs.count 0 : Nat) : Int)
theorem zc_nil : zc [] = 0 := rfl
theorem zc_cons (b : Int) (bs : List Int) : zc (b :: bs) = (if b = 0 then 1 else 0) + zc bs := by
  unfold zc
  rw [List.count_cons]
  by_cases h : b = 0
  · simp [h]
    omega
  · simp [h]
/-- more zeros below, as many only if equal -/
theorem zc_le : ∀ {as bs : List Int}, Bit as → Bit bs → Le as bs → zc bs ≤ zc as ∧ (zc bs = zc as → as = bs)
  | [], [], _, _, _ => ⟨Int.le_refl _, fun _ => rfl⟩
  | a :: as, b :: bs, ha, hb, h => by
    have h1 := ha a List.mem_cons_self
    have h2 := hb b List.mem_cons_self
    have h3 : Bit as := fun x hx => ha x (List.mem_cons_of_mem _ hx)
    have h4 : Bit bs := fun x hx => hb x (List.mem_cons_of_mem _ hx)
    have h5 := h.1
    obtain ⟨i1, i2⟩ := zc_le h3 h4 h.2
    rw [zc_cons, zc_cons]
    rcases h1 with rfl | rfl <;> rcases h2 with rfl | rfl
    · refine ⟨by simp; omega, fun e => ?_⟩
      rw [i2 (by simp at e; omega)]
    · refine ⟨by simp; omega, fun e => ?_⟩
      simp at e
      omega
    · omega
    · refine ⟨by simp; omega, fun e => ?_⟩
      rw [i2 (by simp at e; omega)]
  | [], _ :: _, _, _, h => h.elim
  | _ :: _, [], _, _, h => h.elim
/-- zeros: what falls more, what rises less -/
theorem zc_diff : ∀ (as bs : List Int) (k l : Int), Bit as → Bit bs → as.length = bs.length → zc bs = zc as + ((fallenL k as bs).length : Int) - ((fallenL l bs as).length : Int)
  | [], [], _, _, _, _, _ => rfl
  | a :: as, b :: bs, k, l, ha, hb, hl => by
    have h1 := ha a List.mem_cons_self
    have h2 := hb b List.mem_cons_self
    have h3 : Bit as := fun x hx => ha x (List.mem_cons_of_mem _ hx)
    have h4 : Bit bs := fun x hx => hb x (List.mem_cons_of_mem _ hx)
    have i := zc_diff as bs (k + 1) (l + 1) h3 h4 (by simpa using hl)
    unfold fallenL
    rw [zc_cons, zc_cons]
    rcases h1 with rfl | rfl <;> rcases h2 with rfl | rfl <;> simp <;> omega
  | [], _ :: _, _, _, _, _, hl => by simp at hl
  | _ :: _, [], _, _, _, _, hl => by simp at hl
/-- both sets empty: equal -/
theorem fallen_both : ∀ (as bs : List Int) (k l : Int), Bit as → Bit bs → as.length = bs.length → fallenL k as bs = [] → fallenL l bs as = [] → as = bs
  | [], [], _, _, _, _, _, _, _ => rfl
  | a :: as, b :: bs, k, l, ha, hb, hl, e1, e2 => by
    have h1 := ha a List.mem_cons_self
    have h2 := hb b List.mem_cons_self
    have h3 : Bit as := fun x hx => ha x (List.mem_cons_of_mem _ hx)
    have h4 : Bit bs := fun x hx => hb x (List.mem_cons_of_mem _ hx)
    unfold fallenL at e1 e2
    rcases h1 with rfl | rfl <;> rcases h2 with rfl | rfl
    · simp at e1 e2
      rw [fallen_both as bs _ _ h3 h4 (by simpa using hl) e1 e2]
    · simp at e2
    · simp at e1
    · simp at e1 e2
      rw [fallen_both as bs _ _ h3 h4 (by simpa using hl) e1 e2]
  | [], _ :: _, _, _, _, _, hl, _, _ => by simp at hl
  | _ :: _, [], _, _, _, _, hl, _, _ => by simp at hl
theorem fallen_self : ∀ (as : List Int) (k : Int), fallenL k as as = []
  | [], _ => rfl
  | a :: as, k => by
    unfold fallenL
    rw [if_neg (by omega)]
    exact fallen_self as _
theorem fallen_len : ∀ (as bs : List Int) (k : Int), (fallenL k as bs).length ≤ as.length
  | [], _, _ => by simp [fallenL]
  | _ :: _, [], _ => by simp [fallenL]
  | a :: as, b :: bs, k => by
    unfold fallenL
    have i := fallen_len as bs (k + 1)
    split <;> simp only [List.length_cons] <;> omega
/-- the mask of no bit, and one that reaches beyond all -/
theorem turned_zero : ∀ (as bs : List Int), as.length = bs.length → turned as bs 0 = as
  | [], [], _ => rfl
  | a :: as, b :: bs, h => by
    have h' : as.length = bs.length := by simpa using h
    unfold turned
    split
    · rw [turned_zero as bs h']
    · have e : (0 : Int) / 2 = 0 := rfl
      rw [if_neg (by decide), e, turned_zero as bs h']
  | [], _ :: _, h => by simp at h
  | _ :: _, [], h => by simp at h
theorem unlike_eq : ∀ (as bs : List Int) (k l : Int), Bit as → Bit bs → as.length = bs.length → unlike as bs = (fallenL k as bs).length + (fallenL l bs as).length
  | [], [], _, _, _, _, _ => rfl
  | a :: as, b :: bs, k, l, ha, hb, hl => by
    have h1 := ha a List.mem_cons_self
    have h2 := hb b List.mem_cons_self
    have h3 : Bit as := fun x hx => ha x (List.mem_cons_of_mem _ hx)
    have h4 : Bit bs := fun x hx => hb x (List.mem_cons_of_mem _ hx)
    have i := unlike_eq as bs (k + 1) (l + 1) h3 h4 (by simpa using hl)
    unfold fallenL unlike
    rcases h1 with rfl | rfl <;> rcases h2 with rfl | rfl <;> simp <;> omega
  | [], _ :: _, _, _, _, _, hl => by simp at hl
  | _ :: _, [], _, _, _, _, hl => by simp at hl
theorem pow2_odd (n : Nat) : ((2 : Int) ^ (n + 1) - 1) % 2 = 1 ∧ ((2 : Int) ^ (n + 1) - 1) / 2 = 2 ^ n - 1 := by
  have e : (2 : Int) ^ (n + 1) = 2 * 2 ^ n := by rw [Int.pow_succ]; omega
  omega
/-- all ones up to the last unlike bit: the new ones -/
theorem turned_ones : ∀ (as bs : List Int) (n : Nat), as.length = bs.length → unlike as bs ≤ n → turned as bs (2 ^ n - 1) = bs
  | [], [], _, _, _ => rfl
  | a :: as, b :: bs, n, h, hu => by
    have h' : as.length = bs.length := by simpa using h
    unfold unlike at hu
    unfold turned
    split
    · rename_i e
      rw [if_pos e] at hu
      rw [turned_ones as bs n h' (by omega), e]
    · rename_i e
      rw [if_neg e] at hu
      obtain ⟨k, rfl⟩ : ∃ k, n = k + 1 := ⟨n - 1, by omega⟩
      obtain ⟨o1, o2⟩ := pow2_odd k
      rw [if_pos o1, o2, turned_ones as bs k h' (by omega)]
  | [], _ :: _, _, h, _ => by simp at h
  | _ :: _, [], _, h, _ => by simp at h
/-- a mask whose first n bits are 0, where at most n bits are unlike: nothing turns -/
theorem turned_beyond : ∀ (as bs : List Int) (n : Nat), as.length = bs.length → unlike as bs ≤ n → turned as bs (2 ^ n) = as
  | [], [], _, _, _ => rfl
  | a :: as, b :: bs, n, h, hu => by
    have h' : as.length = bs.length := by simpa using h
    unfold unlike at hu
    unfold turned
    split
    · rename_i e
      rw [if_pos e] at hu
      rw [turned_beyond as bs n h' (by omega)]
    · rename_i e
      rw [if_neg e] at hu
      obtain ⟨k, rfl⟩ : ∃ k, n = k + 1 := ⟨n - 1, by omega⟩
      have e1 : (2 : Int) ^ (k + 1) = 2 * 2 ^ k := by rw [Int.pow_succ]; omega
      have e2 : ((2 : Int) ^ (k + 1)) % 2 = 0 := by omega
      have e3 : ((2 : Int) ^ (k + 1)) / 2 = 2 ^ k := by omega
      rw [if_neg (by omega), e3, turned_beyond as bs k h' (by omega)]
  | [], _ :: _, _, h, _ => by simp at h
  | _ :: _, [], _, h, _ => by simp at h
/-- 4096 ones: the first 4096 unlike bits turn, the others stay -/
theorem turned_first : ∀ (n m : Nat), turned (List.replicate (n + m) 1) (List.replicate (n + m) 0) (2 ^ n - 1) = List.replicate n 0 ++ List.replicate m 1
  | 0, m => by
    have e : ((2 : Int) ^ 0 - 1) = 0 := rfl
    rw [e, Nat.zero_add, turned_zero _ _ (by simp)]
    simp
  | n + 1, m => by
    have e : n + 1 + m = (n + m) + 1 := by omega
    rw [e, List.replicate_succ, List.replicate_succ, List.replicate_succ]
    unfold turned
    obtain ⟨o1, o2⟩ := pow2_odd n
    rw [if_neg (by decide), if_pos o1, o2, turned_first n m]
    rfl
theorem fold_bound : ∀ (l : List Int) (n : Int), Bit l → 0 ≤ n → 0 ≤ l.foldl (fun n b => 2 * n + b) n ∧ l.foldl (fun n b => 2 * n + b) n + 1 ≤ (n + 1) * 2 ^ l.length
  | [], n, _, h => by simp [h]
  | b :: l, n, hb, h => by
    have h1 := hb b List.mem_cons_self
    have h2 : Bit l := fun x hx => hb x (List.mem_cons_of_mem _ hx)
    obtain ⟨i1, i2⟩ := fold_bound l (2 * n + b) h2 (by omega)
    refine ⟨i1, ?_⟩
    rw [List.foldl_cons, List.length_cons, Int.pow_succ]
    have p : (0 : Int) ≤ 2 ^ l.length := Int.pow_nonneg (by decide)
    have m : (2 * n + b + 1) * 2 ^ l.length ≤ (2 * (n + 1)) * 2 ^ l.length := Int.mul_le_mul_of_nonneg_right (by omega) p
    have e : (2 * (n + 1)) * 2 ^ l.length = (n + 1) * (2 ^ l.length * 2) := by
      rw [Int.mul_comm 2 (n + 1), Int.mul_assoc, Int.mul_comm 2]
    omega
theorem octOf_bound {l : List Int} (h : Bit l) (hl : l.length ≤ 8) : 0 ≤ octOf l ∧ octOf l < 256 := by
  obtain ⟨h1, h2⟩ := fold_bound l 0 h (Int.le_refl 0)
  have p : (2 : Int) ^ l.length ≤ 2 ^ 8 := by
    have q : (2 : Nat) ^ l.length ≤ 2 ^ 8 := Nat.pow_le_pow_right (by decide) hl
    exact_mod_cast q
  have e : (2 : Int) ^ 8 = 256 := rfl
  unfold octOf
  omega
theorem Bit.take {l : List Int} (h : Bit l) (n : Nat) : Bit (l.take n) := fun x hx => h x (List.mem_of_mem_take hx)
theorem Bit.drop {l : List Int} (h : Bit l) (n : Nat) : Bit (l.drop n) := fun x hx => h x (List.mem_of_mem_drop hx)
end BM
/-! bits of octets and the operators on bits -/
namespace BM
/-- bit k of a number, as an int -/
def tb (n k : Nat) : Int := if n.testBit k then 1 else 0
theorem tb_div (n k : Nat) : ((n : Int) / ((2 ^ k : Nat) : Int)) % 2 = tb n k := by
  unfold tb
  rw [Nat.testBit_eq_decide_div_mod_eq]
  have e : ((n : Int) / ((2 ^ k : Nat) : Int)) % 2 = ((n / 2 ^ k % 2 : Nat) : Int) := by simp
  rw [e]
  by_cases h : n / 2 ^ k % 2 = 1
  · rw [h]
    simp
  · have h0 : n / 2 ^ k % 2 = 0 := by omega
    rw [h0]
    simp
theorem bitsOf_tb (n : Nat) : bitsOf (n : Int) = [tb n 7, tb n 6, tb n 5, tb n 4, tb n 3, tb n 2, tb n 1, tb n 0] := by
  have h7 := tb_div n 7
  have h6 := tb_div n 6
  have h5 := tb_div n 5
  have h4 := tb_div n 4
  have h3 := tb_div n 3
  have h2 := tb_div n 2
  have h1 := tb_div n 1
  have h0 := tb_div n 0
  unfold bitsOf
  rw [← h7, ← h6, ← h5, ← h4, ← h3, ← h2, ← h1, ← h0]
  rfl
theorem tb_bit (n k : Nat) : tb n k = 0 ∨ tb n k = 1 := by
  unfold tb
  split
  · exact .inr rfl
  · exact .inl rfl
theorem tb_and (a b k : Nat) : tb (a &&& b) k = if tb a k = 1 ∧ tb b k = 1 then 1 else 0 := by
  unfold tb
  rw [Nat.testBit_and]
  cases a.testBit k <;> cases b.testBit k <;> simp
theorem tb_or (a b k : Nat) : tb (a ||| b) k = if tb a k = 1 ∨ tb b k = 1 then 1 else 0 := by
  unfold tb
  rw [Nat.testBit_or]
  cases a.testBit k <;> cases b.testBit k <;> simp
theorem tb_xor (a b k : Nat) : tb (a ^^^ b) k = if tb a k = tb b k then 0 else 1 := by
  unfold tb
  rw [Nat.testBit_xor]
  cases a.testBit k <;> cases b.testBit k <;> simp
theorem le_app : ∀ {a b c d : List Int}, Le a b → Le c d → Le (a ++ c) (b ++ d)
  | [], [], _, _, _, h => h
  | _ :: _, _ :: _, _, _, h, h' => ⟨h.1, le_app h.2 h'⟩
  | [], _ :: _, _, _, h, _ => h.elim
  | _ :: _, [], _, _, h, _ => h.elim
theorem and_le (a b : Nat) : Le (bitsOf ((a &&& b : Nat) : Int)) (bitsOf (a : Int)) := by
  have key : ∀ k, tb (a &&& b) k ≤ tb a k := by
    intro k
    rw [tb_and]
    have := tb_bit a k
    split <;> omega
  rw [bitsOf_tb, bitsOf_tb]
  exact ⟨key 7, key 6, key 5, key 4, key 3, key 2, key 1, key 0, True.intro⟩
theorem le_or (a b : Nat) : Le (bitsOf (a : Int)) (bitsOf ((a ||| b : Nat) : Int)) := by
  have key : ∀ k, tb a k ≤ tb (a ||| b) k := by
    intro k
    rw [tb_or]
    have := tb_bit a k
    split <;> omega
  rw [bitsOf_tb, bitsOf_tb]
  exact ⟨key 7, key 6, key 5, key 4, key 3, key 2, key 1, key 0, True.intro⟩
theorem bits255 : bitsOf 255 = [1, 1, 1, 1, 1, 1, 1, 1] := by decide
theorem le_255 (o : Int) : Le (bitsOf o) (bitsOf 255) := by
  have key : ∀ b ∈ bitsOf o, b ≤ 1 := fun b hb => by
    have := bitsOf_bit hb
    omega
  rw [bits255]
  unfold bitsOf at key ⊢
  exact ⟨key _ (by simp), key _ (by simp), key _ (by simp), key _ (by simp), key _ (by simp), key _ (by simp), key _ (by simp), key _ (by simp), True.intro⟩
/-- lists of octets, pair by pair -/
theorem bitsL_le : ∀ {xs ys : List Int}, xs.length = ys.length → (∀ p ∈ xs.zip ys, Le (bitsOf p.1) (bitsOf p.2)) → Le (bitsL xs) (bitsL ys)
  | [], [], _, _ => True.intro
  | x :: xs, y :: ys, hl, h => by
    rw [bitsL_cons, bitsL_cons]
    exact le_app (h (x, y) (by simp)) (bitsL_le (by simpa using hl) fun p hp => h p (by simp [hp]))
  | [], _ :: _, hl, _ => by simp at hl
  | _ :: _, [], hl, _ => by simp at hl
theorem nat_of {o : Int} (h : 0 ≤ o) : ∃ n : Nat, o = n := ⟨o.toNat, by omega⟩
theorem and_oct {a b : Nat} (ha : a ≤ 255) : (a &&& b) ≤ 255 := Nat.le_trans Nat.and_le_left ha
theorem or_oct {a b : Nat} (ha : a ≤ 255) (hb : b ≤ 255) : (a ||| b) ≤ 255 := by
  have h : (a ||| b) < 2 ^ 8 := Nat.or_lt_two_pow (by omega) (by omega)
  omega
theorem xor_oct {a b : Nat} (ha : a ≤ 255) (hb : b ≤ 255) : (a ^^^ b) ≤ 255 := by
  have h : (a ^^^ b) < 2 ^ 8 := Nat.xor_lt_two_pow (by omega) (by omega)
  omega
/-- one more bit -/
theorem fallen_snoc : ∀ (as bs : List Int) (k x y : Int), as.length = bs.length → fallenL k (as ++ [x]) (bs ++ [y]) = fallenL k as bs ++ (if x = 1 ∧ y = 0 then [k + (as.length : Int)] else [])
  | [], [], k, x, y, _ => by
    simp [fallenL]
  | a :: as, b :: bs, k, x, y, h => by
    have i := fallen_snoc as bs (k + 1) x y (by simpa using h)
    rw [List.cons_append, List.cons_append]
    unfold fallenL
    have e : k + 1 + (as.length : Int) = k + ((a :: as).length : Int) := by
      rw [List.length_cons]
      omega
    rw [e] at i
    split <;> simp [i]
  | [], _ :: _, _, _, _, h => by simp at h
  | _ :: _, [], _, _, _, h => by simp at h
end BM
/-! bits that are 1, bits that are unlike, one bit turned -/
namespace BM
/-- the indices of the ones, from k on -/
def onesL : Int → List Int → List Int
  | _, [] => []
  | k, b :: r => if b = 1 then k :: onesL (k + 1) r else onesL (k + 1) r
/-- the indices of the unlike ones -/
def diffL : Int → List Int → List Int → List Int
  | k, a :: as, b :: bs => if a = b then diffL (k + 1) as bs else k :: diffL (k + 1) as bs
  | _, _, _ => []
theorem onesL_app : ∀ (a b : List Int) (k : Int), onesL k (a ++ b) = onesL k a ++ onesL (k + (a.length : Int)) b
  | [], b, k => by simp [onesL]
  | x :: a, b, k => by
    have e : k + ((x :: a).length : Int) = k + 1 + (a.length : Int) := by simp; omega
    rw [List.cons_append, onesL, onesL, onesL_app a b (k + 1), e]
    split <;> simp
theorem onesL_snoc (a : List Int) (x : Int) : onesL 0 (a ++ [x]) = onesL 0 a ++ (if x = 1 then [(a.length : Int)] else []) := by
  rw [onesL_app]
  simp [onesL]
theorem onesL_len : ∀ (a : List Int) (k : Int), (onesL k a).length ≤ a.length
  | [], k => by simp [onesL]
  | x :: a, k => by
    have := onesL_len a (k + 1)
    rw [onesL]
    split <;> simp <;> omega
/-- of two bits -/
theorem ones_of {f : Int → Int → Int} (P : List Int → List Int → Int → List Int) (c : Int → Int → Prop) [∀ a b, Decidable (c a b)] (h0 : ∀ k, P [] [] k = []) (h1 : ∀ a as b bs k, P (a :: as) (b :: bs) k = if c a b then k :: P as bs (k + 1) else P as bs (k + 1))
    (h : ∀ a b, (a = 0 ∨ a = 1) → (b = 0 ∨ b = 1) → (f a b = 1 ↔ c a b)) : ∀ (as bs : List Int) (k : Int), as.length = bs.length → Bit as → Bit bs → onesL k (List.zipWith f as bs) = P as bs k
  | [], [], k, _, _, _ => by simp [onesL, h0]
  | [], _ :: _, k, e, _, _ => by simp at e
  | _ :: _, [], k, e, _, _ => by simp at e
  | a :: as, b :: bs, k, e, ha, hb => by
    have r := ones_of P c h0 h1 h as bs (k + 1) (by simpa using e) (fun x hx => ha x (List.mem_cons_of_mem _ hx)) (fun x hx => hb x (List.mem_cons_of_mem _ hx))
    have q := h a b (ha a (List.mem_cons_self ..)) (hb b (List.mem_cons_self ..))
    rw [List.zipWith_cons_cons, onesL, h1, r]
    by_cases z : c a b
    · rw [if_pos z, if_pos (q.mpr z)]
    · rw [if_neg z, if_neg (fun y => z (q.mp y))]
/-- the bits of two lists of octets, put together -/
theorem bitsL_both {g : Int → Int → Int} {f : Int → Int → Int} (h : ∀ x y, 0 ≤ x ∧ x ≤ 255 → 0 ≤ y ∧ y ≤ 255 → bitsOf (g x y) = List.zipWith f (bitsOf x) (bitsOf y)) :
    ∀ xs ys : List Int, Oct xs → Oct ys → bitsL ((xs.zip ys).map fun p => g p.1 p.2) = List.zipWith f (bitsL xs) (bitsL ys)
  | [], ys, _, _ => by simp [bitsL]
  | x :: xs, [], _, _ => by simp [bitsL]
  | x :: xs, y :: ys, hx, hy => by
    have r := bitsL_both h xs ys (fun o ho => hx o (List.mem_cons_of_mem _ ho)) (fun o ho => hy o (List.mem_cons_of_mem _ ho))
    have q := h x y (hx x (List.mem_cons_self ..)) (hy y (List.mem_cons_self ..))
    rw [List.zip_cons_cons, List.map_cons, bitsL_cons, bitsL_cons, bitsL_cons, r, q, List.zipWith_append (by rw [bitsOf_len, bitsOf_len])]
/-- where lists part -/
theorem diff_at : ∀ (as bs : List Int) (k p : Int) (rest : List Int), as.length = bs.length → diffL k as bs = p :: rest →
    ∃ (pre : List Int) (x y : Int) (as' bs' : List Int), as = pre ++ x :: as' ∧ bs = pre ++ y :: bs' ∧ x ≠ y ∧ p = k + (pre.length : Int) ∧ rest = diffL (p + 1) as' bs' ∧ as'.length = bs'.length ∧
      ∀ m, turned as bs m = pre ++ (if m % 2 = 1 then y else x) :: turned as' bs' (m / 2)
  | [], _, k, p, rest, _, h => by simp [diffL] at h
  | _ :: _, [], k, p, rest, e, h => by simp at e
  | a :: as, b :: bs, k, p, rest, e, h => by
    rw [diffL] at h
    by_cases z : a = b
    · rw [if_pos z] at h
      obtain ⟨pre, x, y, as', bs', h1, h2, h3, h4, h5, h6, h7⟩ := diff_at as bs (k + 1) p rest (by simpa using e) h
      refine ⟨a :: pre, x, y, as', bs', by rw [h1]; rfl, by rw [h2, z]; rfl, h3, by simp; omega, h5, h6, fun m => ?_⟩
      rw [turned, if_pos z, h7 m]
      rfl
    · rw [if_neg z] at h
      obtain ⟨rfl, rfl⟩ := List.cons.inj h
      refine ⟨[], a, b, as, bs, rfl, rfl, z, by simp, rfl, by simpa using e, fun m => ?_⟩
      rw [turned, if_neg z]
      rfl
theorem diff_nil : ∀ (as bs : List Int) (k : Int), as.length = bs.length → diffL k as bs = [] → as = bs
  | [], [], k, _, _ => rfl
  | [], _ :: _, k, e, h => by simp at e
  | _ :: _, [], k, e, h => by simp at e
  | a :: as, b :: bs, k, e, h => by
    rw [diffL] at h
    by_cases z : a = b
    · rw [if_pos z] at h
      rw [z, diff_nil as bs (k + 1) (by simpa using e) h]
    · rw [if_neg z] at h
      cases h
theorem turned_same : ∀ (as : List Int) (m : Int), turned as as m = as
  | [], m => by simp [turned]
  | a :: as, m => by rw [turned, if_pos rfl, turned_same as m]
/-- the j-th bit of an octet -/
theorem bit_at : ∀ o : Nat, o < 256 → ∀ j : Nat, j < 8 → (bitsOf (o : Int))[j]? = some (((o &&& (128 / 2 ^ j)) / (128 / 2 ^ j) : Nat) : Int) := by decide +kernel
theorem bit_on : ∀ o : Nat, o < 256 → ∀ j : Nat, j < 8 → (o &&& (128 / 2 ^ j) ≠ 0 ↔ (bitsOf (o : Int))[j]? = some 1) := by decide +kernel
theorem bit_turn : ∀ o : Nat, o < 256 → ∀ j : Nat, j < 8 → o ^^^ (128 / 2 ^ j) < 256 ∧ bitsOf ((o ^^^ (128 / 2 ^ j) : Nat) : Int) = (bitsOf (o : Int)).set j (1 - (bitsOf (o : Int)).getD j 0) := by decide +kernel
theorem bitsL_get : ∀ (os : List Int) (i j : Nat), j < 8 → (bitsL os)[8 * i + j]? = (os[i]?).bind fun o => (bitsOf o)[j]?
  | [], i, j, _ => by simp [bitsL]
  | o :: os, 0, j, h => by
    rw [bitsL_cons, Nat.mul_zero, Nat.zero_add, List.getElem?_append_left (by rw [bitsOf_len]; exact h)]
    simp
  | o :: os, i + 1, j, h => by
    have e : 8 * (i + 1) + j = 8 + (8 * i + j) := by omega
    rw [bitsL_cons, e, List.getElem?_append_right (by rw [bitsOf_len]; omega), bitsOf_len, Nat.add_sub_cancel_left, bitsL_get os i j h]
    simp
theorem bitsL_set : ∀ (os : List Int) (i j : Nat) (o o' : Int) (b : Int), j < 8 → os[i]? = some o → bitsOf o' = (bitsOf o).set j b → bitsL (os.set i o') = (bitsL os).set (8 * i + j) b
  | [], i, j, o, o', b, _, h, _ => by simp at h
  | x :: os, 0, j, o, o', b, hj, h, q => by
    have e : x = o := by simpa using h
    subst e
    rw [List.set_cons_zero, bitsL_cons, bitsL_cons, q, Nat.mul_zero, Nat.zero_add, List.set_append_left _ _ (by rw [bitsOf_len]; exact hj)]
  | x :: os, i + 1, j, o, o', b, hj, h, q => by
    have e : 8 * (i + 1) + j = 8 + (8 * i + j) := by omega
    have h' : os[i]? = some o := by simpa using h
    rw [List.set_cons_succ, bitsL_cons, bitsL_cons, bitsL_set os i j o o' b hj h' q, e, List.set_append_right _ _ (by rw [bitsOf_len]; omega), bitsOf_len, Nat.add_sub_cancel_left]
end BM
/-! f'{n:b}', n an octet -/
namespace PySem.W
open PySem PySem.Calls PyProof.Rows
open Builtin Builtin.Str Builtin.Int Builtin.Float
/-- the binary text of n -/
def binT (n : Nat) : PySem.Str := ⟨((Nat.toDigits 2 n).map Char.toNat).toArray⟩
theorem binT_len : ∀ n : Nat, n < 256 → (binT n).length ≤ 8 := by decide +kernel
theorem meets_bin' {spec : PySem.Str} {f : FormatSpec} (n : Nat) (hn : n < 256) (t u : Tok) (hne : (spec.length == 0) = false)
    (hasc : ((spec.cps.toList.drop 1).any (· ≥ 128) || (spec.cps.getD 0 0 ≥ 128 && !([60, 62, 61, 94] : List Nat).contains (spec.cps.getD 1 0))) = false)
    (hp : parseFormatSpec spec.cps.toList "int" 62 = .ok f) (hf : f = { align := 62, type := some 98 }) :
    Meets (Builtin.«int.__format__» ⟨[.int (n : Int) t, .str spec u], []⟩) (fun _ R s => ∀ t' k, R (.ok (.ret (.str (binT n) t'))) { s with toks := k }) := by
  apply KPc.meets_of
  intro prog w A s Q E h
  unfold Builtin.«int.__format__»
  simp only [selfAndOne, noKeywords, Int.intOfSelf, asInt?, asStr?, List.isEmpty_nil, if_true, pure_bind, bind_pure, bind_assoc, hne, hasc, Bool.false_eq_true, if_false,
    show (Value.str spec u == Value.none) = false from rfl]
  refine wpAny_bind (wpAny_typeNameOf (T := "str") (typeIs_str _ _ _) (by decide) fun _ => ?_)
  refine wpAny_bind (wpAny_typeNameOfCut_int ?_)
  simp only [hp]
  have hty : f.type = some 98 := by rw [hf]
  simp only [hty, Option.getD_some]
  rw [if_pos (by decide)]
  have hpr : f.precision = none := by rw [hf]
  have hz : f.noNeg0 = false := by rw [hf]
  have hal : f.alt = false := by rw [hf]
  have hw : f.width.getD 0 = 0 := by rw [hf]; rfl
  clear hp hasc hne
  show wpAny _ _ (if _ then _ else _) _ _ _
  rw [if_neg (by simp [hpr])]
  show wpAny _ _ (if _ then _ else _) _ _ _
  rw [if_neg (by simp [hz])]
  show wpAny _ _ (if _ then _ else _) _ _ _
  rw [if_neg (by decide)]
  show wpAny _ _ (if _ then _ else _) _ _ _
  rw [if_neg (by decide)]
  show wpAny _ _ (if _ then _ else _) _ _ _
  rw [if_neg (by omega)]
  refine KXf.ret_text (T := binT n) ?_ ?_ h
  · clear h
    subst hf
    clear hty hpr hz hal hw
    revert n
    decide +kernel
  · clear h
    subst hf
    clear hty hpr hz hal hw
    revert n
    decide +kernel
/-- {e:b}, a field of an octet -/
theorem bin_field {prog : Program} {w : World} {A : Around} {E : Value → Shared → Prop} {s : Shared} {n : Nat} {t : Tok} {Q : Value → Shared → Prop} (hn : n < 256) (h : ∀ t' k, Q (.str (binT n) t') { s with toks := k }) :
    wpAny (model prog w) A (formatField (.int (n : Int) t) "b") Q E s :=
  KXf.field_meets (by decide) (fun s' => typeIs_int s' n t) F.slot_int_format F.entry_int_format F.args_int_format_2 (by decide) (fun u => meets_bin' n hn t u (by decide) (by decide) (by rfl) rfl) h
theorem bin_count : ∀ n : Nat, n < 256 → PySem.Txt.count (binT n) "1" = (([n / 128 % 2, n / 64 % 2, n / 32 % 2, n / 16 % 2, n / 8 % 2, n / 4 % 2, n / 2 % 2, n / 1 % 2].count 1 : Nat) : Int) := by decide +kernel
end PySem.W
namespace VB
open PySem PySem.Spec PyProof.Rows L2
section
variable {X : Cx} {e : Expr} {te : TE} {p1 p2 p3 p4 : Pos} {j : Nat}
/-- f'{e:b}', e an octet -/
def tBin (te : TE) : TE := fun σ H Q => te σ H fun x H1 => ∃ n : Nat, x = .int (n : Int) ∧ n < 256 ∧ Q (.str (PySem.W.binT n)) H1
theorem pe_bin (he : PE X e te) : PE X (.JoinedStr [.FormattedValue e (-1) (some (.JoinedStr [.Constant (.str "b") j p1] p2)) p3] p4) (tBin te) := by
  refine pe_joined1 ⟨fun pins s σ H Q I h => wpAny_FormattedValue_spec (thn (he.run pins s σ H _ I h) fun v s1 hv => ?_)⟩
  obtain ⟨x, H1, I1, r1, n, rfl, hn, q⟩ := hv
  obtain ⟨t, rfl⟩ := r1
  refine thn ((pe_joined1 (pos := p2) (pe_str (x := "b") (j := j) (pos := p1))).run pins s1 σ H1 (fun y H2 => y = .str "b" ∧ H2 = H1) I1 ⟨rfl, rfl⟩) fun w s2 hw => ?_
  obtain ⟨y, H2, I2, r2, rfl, rfl⟩ := hw
  obtain ⟨t2, rfl⟩ := r2
  exact ⟨_, _, rfl, PySem.W.bin_field hn fun t' k => ⟨.str (PySem.W.binT n), H2, I2.tok _, ⟨_, rfl⟩, q⟩⟩
end
end VB
/-! zip of two sequences, each a list or a tuple -/
namespace VB
open PySem PySem.Spec PyProof.Rows L2
/-- a list (false) or a tuple (true) at l -/
def Sq (t : Bool) (h : Heap) (l : Addr) (xs : Array Value) : Prop := match t with
  | false => h.IsList l xs
  | true => h.IsTuple l xs
/-- its iterator at i, at the k-th place -/
def Si (t : Bool) (h : Heap) (i l : Addr) (k : Nat) : Prop := match t with
  | false => h.IsListIter i l k
  | true => h.IsTupleIter i l k
section
variable {t u : Bool} {h h' : Heap} {i l b : Addr} {k : Nat} {xs ys : Array Value}
theorem Sq.ext (x : Sq t h l xs) (e : Heap.ExtBut b h h') (n : l ≠ b) : Sq t h' l xs := by
  cases t with
  | false => exact Heap.IsList.extBut (show h.IsList l xs from x) e n
  | true => exact Heap.IsTuple.extBut (show h.IsTuple l xs from x) e n
theorem Si.ext (x : Si t h i l k) (e : Heap.ExtBut b h h') (n : i ≠ b) : Si t h' i l k := by
  cases t with
  | false => exact Heap.IsListIter.extBut (show h.IsListIter i l k from x) e n
  | true => exact Heap.IsTupleIter.extBut (show h.IsTupleIter i l k from x) e n
theorem Sq.psh (x : Sq t h l xs) (o : Obj) : Sq t (h.push o) l xs := by
  cases t with
  | false => exact Heap.IsList.push (show h.IsList l xs from x) o
  | true => exact Heap.IsTuple.push (show h.IsTuple l xs from x) o
theorem Si.stay (x : Si t h i l k) (e : ∀ o, h.get? i = some o → h'.get? i = some o) : Si t h' i l k := by
  cases t with
  | false => exact Heap.IsListIter.at (show h.IsListIter i l k from x) e
  | true => exact Heap.IsTupleIter.at (show h.IsTupleIter i l k from x) e
theorem Si.obj (x : Si t h i l k) : ∃ o, h.get? i = some o ∧ ∀ v, o.data ≠ .cell v := by
  cases t with
  | false =>
    obtain ⟨o, e, _, d⟩ := (show h.IsListIter i l k from x)
    exact ⟨o, e, fun v q => by rw [d] at q; cases q⟩
  | true =>
    obtain ⟨o, e, _, d⟩ := (show h.IsTupleIter i l k from x)
    exact ⟨o, e, fun v q => by rw [d] at q; cases q⟩
end
section
variable {prog : Program} {w : World} {A : Around} {E : Value → Shared → Prop} {s : Shared} {t u : Bool}
  {z T1 T2 i1 i2 l1 l2 : Addr} {k1 k2 : Nat} {xs ys : Array Value} {x y c d : Value}
theorem draw_item {it l : Addr} {k : Nat} {Q : Value → Shared → Prop} (hi : Si t s.heap it l k) (hl : Sq t s.heap l xs)
    (hx : xs[k]? = some x) (hq : ∀ h', Si t h' it l (k + 1) → Heap.SameBut it s.heap h' → Q x { s with heap := h' }) :
    wpAny (model prog w) A (Builtin.SmallTypes.nextOf (.ref it)) Q E s := by
  cases t with
  | false => exact wpAny_nextOf_list_item (show s.heap.IsListIter it l k from hi) (show s.heap.IsList l xs from hl) hx hq
  | true => exact RZ.nextOf_tuple_item (show s.heap.IsTupleIter it l k from hi) (show s.heap.IsTuple l xs from hl) hx hq
theorem draw_end {it l : Addr} {k : Nat} {Q : Value → Shared → Prop} (hh : A.handled = none) (hi : Si t s.heap it l k)
    (hl : Sq t s.heap l xs) (hx : xs[k]? = none)
    (he : ∀ h' e, Heap.ExtBut it s.heap h' → (∃ o, h'.get? e = some o ∧ o.cls = .type "StopIteration") → E (.ref e) { s with heap := h' }) :
    wpAny (model prog w) A (Builtin.SmallTypes.nextOf (.ref it)) Q E s := by
  cases t with
  | false => exact wpAny_nextOf_list_end hh (show s.heap.IsListIter it l k from hi) (show s.heap.IsList l xs from hl) hx he
  | true => exact RZ.nextOf_tuple_end hh (show s.heap.IsTupleIter it l k from hi) (show s.heap.IsTuple l xs from hl) hx he

/-- what a turn of the zip object leaves -/
structure ZTurn (t u : Bool) (h h' : Heap) (z T1 T2 i1 i2 l1 l2 : Addr) (k1 k2 : Nat) (x y : Value) : Prop where
  zip : IsZip h' z T1 T2 (rawInt h.objs.size)
  out : IsPair h' T2 x y
  it1 : Si t h' i1 l1 (k1 + 1)
  it2 : Si u h' i2 l2 (k2 + 1)
  new : IsPair h' h.objs.size x y
  size : h'.objs.size = h.objs.size + 1
  keep : ∀ b o, b ≠ z → b ≠ T2 → b ≠ i1 → b ≠ i2 → h.get? b = some o → h'.get? b = some o

theorem zmix_item {Q : Value → Shared → Prop} (D : ZipApart z T1 T2 i1 i2 l1 l2) (hz : IsZip s.heap z T1 T2 .none)
    (h1 : IsPair s.heap T1 (.ref i1) (.ref i2)) (h2 : IsPair s.heap T2 c d) (a1 : Si t s.heap i1 l1 k1) (a2 : Si u s.heap i2 l2 k2)
    (b1 : Sq t s.heap l1 xs) (b2 : Sq u s.heap l2 ys) (hx : xs[k1]? = some x) (hy : ys[k2]? = some y)
    (hq : ∀ h', ZTurn t u s.heap h' z T1 T2 i1 i2 l1 l2 k1 k2 x y → Q (.ref s.heap.objs.size) { s with heap := h' }) :
    wpAny (model prog w) A (Builtin.«zip.__next__» ⟨[.ref z], []⟩) (fun fin s' => ∃ v, fin = .done (.ret v) ∧ Q v s') E s := by
  show wpAny _ _ (field (.ref z) 2 >>= _) _ _ _
  refine wpAny_bind (wpAny_field hz rfl (x := .bool false) rfl ?_)
  show wpAny _ _ (field (.ref z) 3 >>= _) _ _ _
  refine wpAny_bind (wpAny_field hz rfl (x := .ref T1) rfl ?_)
  refine wpAny_bind (wpAny_seqItems h1 rfl ?_)
  show wpAny _ _ (Builtin.SmallTypes.ownedTupleIsFree (.ref z) >>= _) _ _ _
  refine wpAny_bind ?_
  unfold Builtin.SmallTypes.ownedTupleIsFree
  refine wpAny_bind (wpAny_field hz rfl (x := .none) rfl (wpAny_pure ?_))
  simp only [if_true]
  refine wpAny_bind (wpAny_rule ?_)
  refine wpAny_bind (wpAny_field hz rfl (x := .ref T2) rfl ?_)
  refine wpAny_bind (wpAny_setField_rec hz (by simp) ?_)
  intro g1 zg1 s1
  replace zg1 : IsZip g1 z T1 T2 .ellipsis := zg1
  refine wpAny_bind ?_
  simp only [List.zipIdx_cons, List.zipIdx_nil, List.forIn_cons, List.forIn_nil]
  -- the first one's item
  refine wpAny_bind (wpAny_bind (wpAny_onRaise ?_))
  show wpAny _ _ (Builtin.SmallTypes.nextOf (.ref i1) >>= _) _ _ _
  refine wpAny_bind (draw_item (a1.ext s1.extBut D.i1z) (b1.ext s1.extBut D.l1z) hx ?_)
  intro g2 n1 s2
  refine wpAny_pure ?_
  have o2 : IsPair g2 T2 c d := s2.extBut _ _ D.TOi1 (s1.extBut _ _ D.TOz h2)
  refine wpAny_bind (wpAny_seqItems o2 rfl ?_)
  refine wpAny_bind (wpAny_updateSeq_pair o2 ?_)
  intro g3 o3 s3
  replace o3 : IsPair g3 T2 x d := o3
  refine wpAny_bind (wpAny_letGo (wpAny_pure ?_))
  -- the second one's
  refine wpAny_bind (wpAny_bind (wpAny_onRaise ?_))
  show wpAny _ _ (Builtin.SmallTypes.nextOf (.ref i2) >>= _) _ _ _
  refine wpAny_bind (draw_item (((a2.ext s1.extBut D.i2z).ext s2.extBut D.i12.symm).ext s3.extBut D.TOi2.symm)
    (((b2.ext s1.extBut D.l2z).ext s2.extBut D.l2i1).ext s3.extBut D.l2TO) hy ?_)
  intro g4 n2 s4
  refine wpAny_pure ?_
  have o4 : IsPair g4 T2 x d := s4.extBut _ _ D.TOi2 o3
  refine wpAny_bind (wpAny_seqItems o4 rfl ?_)
  refine wpAny_bind (wpAny_updateSeq_pair o4 ?_)
  intro g5 o5 s5
  replace o5 : IsPair g5 T2 x y := o5
  refine wpAny_bind (wpAny_letGo (wpAny_pure (wpAny_pure ?_)))
  -- the pair
  refine wpAny_bind (wpAny_seqItems o5 rfl ?_)
  refine wpAny_bind (wpAny_newTuple ?_)
  have sz : g5.objs.size = s.heap.objs.size := by rw [s5.1, s4.1, s3.1, s2.1, s1.1]
  have z5 : IsZip g5 z T1 T2 .ellipsis :=
    s5.extBut _ _ D.TOz.symm (s4.extBut _ _ D.i2z.symm (s3.extBut _ _ D.TOz.symm (s2.extBut _ _ D.i1z.symm zg1)))
  have kp : ∀ b o, b ≠ z → b ≠ T2 → b ≠ i1 → b ≠ i2 → s.heap.get? b = some o → g5.get? b = some o := by
    intro b o e1 e2 e3 e4 e
    exact s5.extBut _ _ e2 (s4.extBut _ _ e4 (s3.extBut _ _ e2 (s2.extBut _ _ e3 (s1.extBut _ _ e1 e))))
  have m1 : Si t g5 i1 l1 (k1 + 1) := ((n1.ext s3.extBut D.TOi1.symm).ext s4.extBut D.i12).ext s5.extBut D.TOi1.symm
  have m2 : Si u g5 i2 l2 (k2 + 1) := n2.ext s5.extBut D.TOi2.symm
  have zlt : z < g5.objs.size := Heap.lt_size z5
  show wpAny _ _ (Builtin.SmallTypes.ownedTupleHandOut (.ref z) (.ref g5.objs.size) >>= _) _ _ _
  refine wpAny_bind ?_
  unfold Builtin.SmallTypes.ownedTupleHandOut
  have z6 : IsZip (g5.push { cls := .type "tuple", data := .seq #[x, y] }) z T1 T2 .ellipsis := Heap.get?_push_of_some _ z5
  refine wpAny_bind (wpAny_setField_rec z6 (by simp) ?_)
  intro g7 z7 s7
  replace z7 : IsZip g7 z T1 T2 (rawInt g5.objs.size) := z7
  refine wpAny_setField_rec z7 (by simp) ?_
  intro g8 z8 s8
  replace z8 : IsZip g8 z T1 T2 (rawInt g5.objs.size) := z8
  have up : ∀ b o, b ≠ z → g5.get? b = some o → g8.get? b = some o := fun b o n e =>
    s8.extBut _ _ n (s7.extBut _ _ n (Heap.get?_push_of_some _ e))
  have nz : g5.objs.size ≠ z := Nat.ne_of_gt zlt
  have p8 : IsPair g8 g5.objs.size x y := s8.extBut _ _ nz (s7.extBut _ _ nz (Heap.get?_push_size _ rfl))
  have l8 : g8.objs.size = g5.objs.size + 1 := by rw [s8.1, s7.1, Heap.size_push]
  rw [sz] at z8 p8 l8
  refine wpAny_pure ⟨_, rfl, ?_⟩
  show Q (.ref g5.objs.size) _
  rw [sz]
  exact hq g8 ⟨z8, up _ _ D.TOz o5, m1.stay (fun o => up _ o D.i1z), m2.stay (fun o => up _ o D.i2z), p8, l8,
    fun b o e1 e2 e3 e4 e => up b o e1 (kp b o e1 e2 e3 e4 e)⟩

theorem zmix_end {Q : Fin → Shared → Prop} (hh : A.handled = none) (D : ZipApart z T1 T2 i1 i2 l1 l2) (hz : IsZip s.heap z T1 T2 .none)
    (h1 : IsPair s.heap T1 (.ref i1) (.ref i2)) (h2 : IsPair s.heap T2 c d) (a1 : Si t s.heap i1 l1 k1) (a2 : Si u s.heap i2 l2 k2)
    (b1 : Sq t s.heap l1 xs) (b2 : Sq u s.heap l2 ys) (hend : xs[k1]? = none ∨ ys[k2]? = none)
    (he : ∀ h' e, (∀ b o, b ≠ z → b ≠ T2 → b ≠ i1 → b ≠ i2 → s.heap.get? b = some o → h'.get? b = some o) →
      (∃ o, h'.get? e = some o ∧ o.cls = .type "StopIteration") → E (.ref e) { s with heap := h' }) :
    wpAny (model prog w) A (Builtin.«zip.__next__» ⟨[.ref z], []⟩) Q E s := by
  show wpAny _ _ (field (.ref z) 2 >>= _) _ _ _
  refine wpAny_bind (wpAny_field hz rfl (x := .bool false) rfl ?_)
  show wpAny _ _ (field (.ref z) 3 >>= _) _ _ _
  refine wpAny_bind (wpAny_field hz rfl (x := .ref T1) rfl ?_)
  refine wpAny_bind (wpAny_seqItems h1 rfl ?_)
  show wpAny _ _ (Builtin.SmallTypes.ownedTupleIsFree (.ref z) >>= _) _ _ _
  refine wpAny_bind ?_
  unfold Builtin.SmallTypes.ownedTupleIsFree
  refine wpAny_bind (wpAny_field hz rfl (x := .none) rfl (wpAny_pure ?_))
  simp only [if_true]
  refine wpAny_bind (wpAny_rule ?_)
  refine wpAny_bind (wpAny_field hz rfl (x := .ref T2) rfl ?_)
  refine wpAny_bind (wpAny_setField_rec hz (by simp) ?_)
  intro g1 zg1 s1
  replace zg1 : IsZip g1 z T1 T2 .ellipsis := zg1
  refine wpAny_bind ?_
  simp only [List.zipIdx_cons, List.zipIdx_nil, List.forIn_cons, List.forIn_nil]
  refine wpAny_bind (wpAny_bind (wpAny_onRaise ?_))
  show wpAny _ _ (Builtin.SmallTypes.nextOf (.ref i1) >>= _) _ _ _
  cases hx : xs[k1]? with
  | none =>
    refine wpAny_bind (draw_end hh (a1.ext s1.extBut D.i1z) (b1.ext s1.extBut D.l1z) hx ?_)
    rintro g2 e s2 ⟨oe, he1, he2⟩
    have zg2 : IsZip g2 z T1 T2 .ellipsis := s2 _ _ D.i1z.symm zg1
    have ez : e ≠ z := by
      rintro rfl
      rw [zg2] at he1
      cases he1
      simp at he2
    refine wpAny_setField_rec zg2 (by simp) ?_
    intro g3 _ s3
    exact he g3 e (fun b o e1 _ e3 _ q => s3.extBut _ _ e1 (s2 _ _ e3 (s1.extBut _ _ e1 q))) ⟨oe, s3.extBut _ _ ez he1, he2⟩
  | some x =>
    have hy : ys[k2]? = none := by
      rcases hend with q | q
      · rw [hx] at q
        cases q
      · exact q
    refine wpAny_bind (draw_item (a1.ext s1.extBut D.i1z) (b1.ext s1.extBut D.l1z) hx ?_)
    intro g2 n1 s2
    refine wpAny_pure ?_
    have o2 : IsPair g2 T2 c d := s2.extBut _ _ D.TOi1 (s1.extBut _ _ D.TOz h2)
    refine wpAny_bind (wpAny_seqItems o2 rfl ?_)
    refine wpAny_bind (wpAny_updateSeq_pair o2 ?_)
    intro g3 o3 s3
    refine wpAny_bind (wpAny_letGo (wpAny_pure ?_))
    refine wpAny_bind (wpAny_bind (wpAny_onRaise ?_))
    show wpAny _ _ (Builtin.SmallTypes.nextOf (.ref i2) >>= _) _ _ _
    refine wpAny_bind (draw_end hh (((a2.ext s1.extBut D.i2z).ext s2.extBut D.i12.symm).ext s3.extBut D.TOi2.symm)
      (((b2.ext s1.extBut D.l2z).ext s2.extBut D.l2i1).ext s3.extBut D.l2TO) hy ?_)
    rintro g4 e s4 ⟨oe, he1, he2⟩
    have zg4 : IsZip g4 z T1 T2 .ellipsis := s4 _ _ D.i2z.symm (s3.extBut _ _ D.TOz.symm (s2.extBut _ _ D.i1z.symm zg1))
    have ez : e ≠ z := by
      rintro rfl
      rw [zg4] at he1
      cases he1
      simp at he2
    refine wpAny_setField_rec zg4 (by simp) ?_
    intro g5 _ s5
    exact he g5 e (fun b o e1 e2 e3 e4 q => s5.extBut _ _ e1 (s4 _ _ e4 (s3.extBut _ _ e2 (s2.extBut _ _ e3 (s1.extBut _ _ e1 q)))))
      ⟨oe, s5.extBut _ _ ez he1, he2⟩
end
end VB
/-! zip of two sequences, each a list or a tuple: its making, its walk -/
namespace VB
open PySem PySem.Spec PyProof.Rows L2
theorem Sv.inj {X : Cx} {pins : List (Addr × Obj)} {σ : L2.St} {H : Hp} {s : Shared} {t : Bool} {a : Addr} {xs ys : List V}
    (I : Inv X pins σ H s) (h : Sv t X.K H a xs) (h' : Sv t X.K H a ys) : xs = ys := by
  cases t with
  | false => exact I.list_inj (show SqL X.K H a xs from h) (show SqL X.K H a ys from h')
  | true => exact I.tuple_inj (show SqT X.K H a xs from h) (show SqT X.K H a ys from h')
theorem Sv.real {X : Cx} {pins : List (Addr × Obj)} {σ : L2.St} {H : Hp} {s : Shared} {t : Bool} {a : Addr} {xs : List V}
    (I : Inv X pins σ H s) (h : Sv t X.K H a xs) : ∃ its : List Value, Vals xs its ∧ Sq t s.heap a its.toArray ∧ a < s.heap.objs.size := by
  cases t with
  | false =>
    obtain ⟨its, r, p, _⟩ := I.list (show SqL X.K H a xs from h)
    exact ⟨its, r, p.isList, p.lt⟩
  | true =>
    obtain ⟨its, r, p, _⟩ := I.tuple (show SqT X.K H a xs from h)
    obtain ⟨o, ho, _⟩ := id p
    exact ⟨its, r, p, Heap.lt_size ho⟩
section
variable {prog : Program} {w : World} {A : Around} {E : Value → Shared → Prop} {s : Shared} {t u : Bool}
  {z T1 T2 i1 i2 l1 l2 : Addr} {k1 k2 : Nat} {xs ys : Array Value} {x y c d : Value}
theorem zmix_next {Q : Option Value → Shared → Prop} (D : ZipApart z T1 T2 i1 i2 l1 l2) (hz : IsZip s.heap z T1 T2 .none)
    (h1 : IsPair s.heap T1 (.ref i1) (.ref i2)) (h2 : IsPair s.heap T2 c d) (a1 : Si t s.heap i1 l1 k1) (a2 : Si u s.heap i2 l2 k2)
    (b1 : Sq t s.heap l1 xs) (b2 : Sq u s.heap l2 ys) (hx : xs[k1]? = some x) (hy : ys[k2]? = some y)
    (hq : ∀ h', ZTurn t u s.heap h' z T1 T2 i1 i2 l1 l2 k1 k2 x y → Q (some (.ref s.heap.objs.size)) { s with heap := h' }) :
    wpAny (model prog w) A (pyNext (.ref z)) Q E s := by
  have ty : s.TypeIs (.ref z) "zip" := ⟨_, hz, rfl⟩
  unfold pyNext
  refine wpAny_bind (wpAny_attempt ?_)
  refine wpAny_callSpecial?_slot (name := Str.ofString "__next__") ty F.slot_zip_next ?_
  refine wpAny_call_entry F.slot_zip_next ty F.entry_zip_next ?_ (F.args_zip_next_1 _)
  exact zmix_item D hz h1 h2 a1 a2 b1 b2 hx hy fun h' q => wpAny_pure (hq h' q)
theorem zmix_stop {Q : Option Value → Shared → Prop} (hh : A.handled = none) (D : ZipApart z T1 T2 i1 i2 l1 l2) (hz : IsZip s.heap z T1 T2 .none)
    (h1 : IsPair s.heap T1 (.ref i1) (.ref i2)) (h2 : IsPair s.heap T2 c d) (a1 : Si t s.heap i1 l1 k1) (a2 : Si u s.heap i2 l2 k2)
    (b1 : Sq t s.heap l1 xs) (b2 : Sq u s.heap l2 ys) (hend : xs[k1]? = none ∨ ys[k2]? = none)
    (hq : ∀ h', (∀ b o, b ≠ z → b ≠ T2 → b ≠ i1 → b ≠ i2 → s.heap.get? b = some o → h'.get? b = some o) → Q none { s with heap := h' }) :
    wpAny (model prog w) A (pyNext (.ref z)) Q E s := by
  have ty : s.TypeIs (.ref z) "zip" := ⟨_, hz, rfl⟩
  unfold pyNext
  refine wpAny_bind (wpAny_attempt ?_)
  refine wpAny_callSpecial?_slot (name := Str.ofString "__next__") ty F.slot_zip_next ?_
  refine wpAny_call_entry F.slot_zip_next ty F.entry_zip_next ?_ (F.args_zip_next_1 _)
  refine zmix_end hh D hz h1 h2 a1 a2 b1 b2 hend ?_
  rintro h' e kp ⟨o, ho, hc⟩
  refine wpAny_bind (wpAny_isInstance (T := "StopIteration") (b := true) ⟨o, ho, hc⟩ isSubtype_stop ?_)
  exact wpAny_pure (hq _ kp)
end
/-- an iterator over l, new -/
def itO (t : Bool) (l : Addr) : Obj := match t with
  | false => { cls := .type "list_iterator", data := .fields #[.ref l, .int 0 0] }
  | true => { cls := .type "tuple_iterator", data := .fields #[.ref l, .int 0 0] }
section
variable (t u : Bool) (h : Heap) (l1 l2 : Addr)
abbrev zm1 : Heap := h.push (itO t l1)
abbrev zm2 : Heap := (zm1 t h l1).push (itO u l2)
abbrev zm3 : Heap := (zm2 t u h l1 l2).push { cls := .type "tuple", data := .seq #[.ref h.objs.size, .ref (zm1 t h l1).objs.size] }
abbrev zm4 : Heap := (zm3 t u h l1 l2).push { cls := .type "tuple", data := .seq #[.none, .none] }
abbrev zm5 : Heap := (zm4 t u h l1 l2).push { cls := .type "zip", data := .fields #[.none, .bool false, .bool false, .ref (zm2 t u h l1 l2).objs.size, .ref (zm3 t u h l1 l2).objs.size] }
end
theorem meets_zmix (t u : Bool) (l1 l2 : Addr) (xs ys : Array Value) :
    Meets (Builtin.«zip.__new__» ⟨[.type "zip", .ref l1, .ref l2], []⟩) (fun _ R s => Sq t s.heap l1 xs ∧ Sq u s.heap l2 ys ∧
      R (.ok (.ret (.ref (zm4 t u s.heap l1 l2).objs.size))) { s with heap := zm5 t u s.heap l1 l2 }) := by
  refine .of_wp ?_
  rintro prog w A R ⟨hp, g, d, tk, os⟩ ⟨b1, b2, h⟩
  have sub := sub_zip
  have c2 : Sq u (hp.push (itO t l1)) l2 ys := b2.psh _
  cases t with
  | false =>
    have e1 : Heap.IsList (Shared.heap ⟨hp, g, d, tk, os⟩) l1 xs := b1
    cases u with
    | false =>
      have e2 : Heap.IsList (Shared.heap ⟨hp.push { cls := .type "list_iterator", data := .fields #[.ref l1, .int 0 0] }, g, d, tk, os⟩) l2 ys := c2
      wp_walk using wpAny_pyIter_list e1, wpAny_pyIter_list e2
      exact ⟨_, rfl, h⟩
    | true =>
      have e2 : Heap.IsTuple (Shared.heap ⟨hp.push { cls := .type "list_iterator", data := .fields #[.ref l1, .int 0 0] }, g, d, tk, os⟩) l2 ys := c2
      wp_walk using wpAny_pyIter_list e1, wpAny_pyIter_tuple e2
      exact ⟨_, rfl, h⟩
  | true =>
    have e1 : Heap.IsTuple (Shared.heap ⟨hp, g, d, tk, os⟩) l1 xs := b1
    cases u with
    | false =>
      have e2 : Heap.IsList (Shared.heap ⟨hp.push { cls := .type "tuple_iterator", data := .fields #[.ref l1, .int 0 0] }, g, d, tk, os⟩) l2 ys := c2
      wp_walk using wpAny_pyIter_tuple e1, wpAny_pyIter_list e2
      exact ⟨_, rfl, h⟩
    | true =>
      have e2 : Heap.IsTuple (Shared.heap ⟨hp.push { cls := .type "tuple_iterator", data := .fields #[.ref l1, .int 0 0] }, g, d, tk, os⟩) l2 ys := c2
      wp_walk using wpAny_pyIter_tuple e1, wpAny_pyIter_tuple e2
      exact ⟨_, rfl, h⟩
theorem si_new {t : Bool} {h : Heap} {i l : Addr} (e : h.get? i = some (itO t l)) : Si t h i l 0 := by
  cases t with
  | false => exact ⟨_, e, rfl, rfl⟩
  | true => exact ⟨_, e, rfl, rfl⟩
section
variable {prog : Program} {w : World} {A : Around} {E : Value → Shared → Prop} {s : Shared} {t u : Bool}
/-- what zip's call leaves -/
structure ZNew (t u : Bool) (h h' : Heap) (l1 l2 : Addr) : Prop where
  zip : IsZip h' (h.objs.size + 4) (h.objs.size + 2) (h.objs.size + 3) .none
  its : IsPair h' (h.objs.size + 2) (.ref h.objs.size) (.ref (h.objs.size + 1))
  out : IsPair h' (h.objs.size + 3) .none .none
  it1 : Si t h' h.objs.size l1 0
  it2 : Si u h' (h.objs.size + 1) l2 0
  keep : ∀ b o, h.get? b = some o → h'.get? b = some o
theorem call_zmix {l1 l2 : Addr} {xs ys : Array Value} {Q : Value → Shared → Prop} (b1 : Sq t s.heap l1 xs) (b2 : Sq u s.heap l2 ys)
    (hq : ∀ h', ZNew t u s.heap h' l1 l2 → Q (.ref (s.heap.objs.size + 4)) { s with heap := h' }) :
    wpAny (model prog w) A (call (.type "zip") [.ref l1, .ref l2]) Q E s := by
  refine callType_new F.called_zip (by decide) (F.typeCall_zip_2 _ _) (F.newCall_zip_2 _ _) (fun obj => F.args_object_init_3 obj _ _)
    F.entry_zip_new (meets_zmix t u l1 l2 xs ys) ⟨b1, b2, ?_⟩
  have n1 : (zm1 t s.heap l1).objs.size = s.heap.objs.size + 1 := Heap.size_push ..
  have n2 : (zm2 t u s.heap l1 l2).objs.size = s.heap.objs.size + 2 := by rw [Heap.size_push, n1]
  have n3 : (zm3 t u s.heap l1 l2).objs.size = s.heap.objs.size + 3 := by rw [Heap.size_push, n2]
  have n4 : (zm4 t u s.heap l1 l2).objs.size = s.heap.objs.size + 4 := by rw [Heap.size_push, n3]
  have f5 : itO t l1 = itO t l1 := rfl
  have nf : ∀ (b : Bool) (l : Addr), (itO b l).isFreed = false := fun b l => by cases b <;> rfl
  have g5 : (zm5 t u s.heap l1 l2).get? (zm4 t u s.heap l1 l2).objs.size = some _ := Heap.get?_push_size _ rfl
  have g4 : (zm5 t u s.heap l1 l2).get? (zm3 t u s.heap l1 l2).objs.size = some _ := Heap.get?_push_of_some _ (Heap.get?_push_size _ rfl)
  have g3 : (zm5 t u s.heap l1 l2).get? (zm2 t u s.heap l1 l2).objs.size = some _ := Heap.get?_push_of_some _ (Heap.get?_push_of_some _ (Heap.get?_push_size _ rfl))
  have g2 : (zm5 t u s.heap l1 l2).get? (zm1 t s.heap l1).objs.size = some (itO u l2) :=
    Heap.get?_push_of_some _ (Heap.get?_push_of_some _ (Heap.get?_push_of_some _ (Heap.get?_push_size _ (nf u l2))))
  have g1 : (zm5 t u s.heap l1 l2).get? s.heap.objs.size = some (itO t l1) :=
    Heap.get?_push_of_some _ (Heap.get?_push_of_some _ (Heap.get?_push_of_some _ (Heap.get?_push_of_some _ (Heap.get?_push_size _ (nf t l1)))))
  show _ ∧ _
  rw [n2, n3, n4] at g5
  rw [n1, n2] at g3
  rw [n3] at g4
  rw [n1] at g2
  rw [n4]
  refine ⟨⟨_, g5, rfl⟩, hq _ ⟨g5, g3, g4, si_new g1, si_new g2, ?_⟩⟩
  intro b o e
  exact Heap.get?_push_of_some _ (Heap.get?_push_of_some _ (Heap.get?_push_of_some _ (Heap.get?_push_of_some _ (Heap.get?_push_of_some _ e))))
end
/-- two sequences as they stand at each turn, the items in new pairs -/
def Itm (t u : Bool) (K : PySem.W.Frag) (a b : Addr) : It :=
  ⟨fun i H => ∃ (xs ys : List V) (x y : V), Sv t K H a xs ∧ Sv u K H b ys ∧ xs[i]? = some x ∧ ys[i]? = some y,
    fun i H v H' => ∃ N x y, v = .ref N ∧ H N = none ∧ H' = upd H N (.tup [x, y]) ∧ (∀ xs, Sv t K H a xs → xs[i]? = some x) ∧ ∀ ys, Sv u K H b ys → ys[i]? = some y,
    fun i H => ∃ xs ys : List V, Sv t K H a xs ∧ Sv u K H b ys ∧ (xs.length ≤ i ∨ ys.length ≤ i)⟩
theorem in5 {a b c d e x : Addr} (h : x ∈ [a, b, c, d, e]) : x = a ∨ x = b ∨ x = c ∨ x = d ∨ x = e := by simpa using h
theorem turn_zmix {P : Program} {w : World} {K : PySem.W.Frag} {t u : Bool} {elts : List Expr} {kk : Nat} {tpos : Pos} {a b z T1 T2 i1 i2 : Addr}
    (D : ZipApart z T1 T2 i1 i2 a b) : Turn P w K (.Tuple elts kk tpos) (Itm t u K a b) [z, T1, T2, i1, i2] z
      (fun i h => IsZip h z T1 T2 .none ∧ IsPair h T1 (.ref i1) (.ref i2) ∧ (∃ x y, IsPair h T2 x y) ∧ Si t h i1 a i ∧ Si u h i2 b i) := by
  refine ⟨by simp, ?_, ?_, ?_, ?_, ?_⟩
  · rintro i h ⟨hz, h1, ⟨x, y, h2⟩, a1, a2⟩ c hc
    rcases in5 hc with rfl | rfl | rfl | rfl | rfl
    · exact ⟨_, hz, fun v q => nomatch q⟩
    · exact ⟨_, h1, fun v q => nomatch q⟩
    · exact ⟨_, h2, fun v q => nomatch q⟩
    · exact a1.obj
    · exact a2.obj
  · rintro i h h' ⟨hz, h1, ⟨x, y, h2⟩, a1, a2⟩ k
    exact ⟨k z (by simp) _ hz, k T1 (by simp) _ h1, ⟨x, y, k T2 (by simp) _ h2⟩, a1.stay fun o q => k i1 (by simp) o q, a2.stay fun o q => k i2 (by simp) o q⟩
  · intro X hP hw hK hc i pins s σ H E I hf st hg
    subst hP hw hK
    obtain ⟨hz, h1, ⟨x0, y0, h2⟩, a1, a2⟩ := st
    obtain ⟨xs, ys, x, y, qx, qy, hx, hy⟩ := hg
    obtain ⟨its, rv, p, _⟩ := qx.real I
    obtain ⟨its2, rv2, p2, _⟩ := qy.real I
    obtain ⟨v1, hv1, r1⟩ := rv.get hx
    obtain ⟨v2, hv2, r2⟩ := rv2.get hy
    have zl : z < s.heap.objs.size := Heap.lt_size hz
    refine zmix_next D hz h1 h2 a1 a2 p p2 (x := v1) (y := v2) (by simpa using hv1) (by simpa using hv2) ?_
    intro g T
    refine ⟨_, rfl, wpAny_letOwnedTupleGo_zip (s := { s with heap := g }) T.zip ?_⟩
    intro g2 z2 sb
    have nN : s.heap.objs.size ≠ z := Nat.ne_of_gt zl
    have pN : g2.get? s.heap.objs.size = some { cls := .type "tuple", data := .seq #[v1, v2] } := (sb.2 _ nN).trans T.new
    have ok : ObjOk X.prog X.w (upd H s.heap.objs.size (.tup [x, y])) g2 s.heap.objs.size (.tup [x, y]) :=
      ⟨by show 2 ≤ sizeLine; decide, [v1, v2], .cons r1 (.cons r2 .nil), ⟨_, pN, rfl, _, rfl⟩⟩
    have J : Inv X pins σ (upd H s.heap.objs.size (.tup [x, y])) { s with heap := g2 } := by
      refine I.turnedNew (t' := s.toks) (ch := [z, T1, T2, i1, i2]) ?_ hf (Nat.le_refl _) ok
      intro c o hb q
      have n : c ≠ z ∧ c ≠ T2 ∧ c ≠ i1 ∧ c ≠ i2 := ⟨fun e => hb (by simp [e]), fun e => hb (by simp [e]), fun e => hb (by simp [e]), fun e => hb (by simp [e])⟩
      exact (sb.2 c n.1).trans (T.keep c o n.1 n.2.1 n.2.2.1 n.2.2.2 q)
    refine ⟨.ref s.heap.objs.size, _, J, rfl, ⟨_, x, y, rfl, I.hok.fresh (Nat.le_refl _), rfl, ?_, ?_⟩, ⟨z2, ?_, ⟨v1, v2, ?_⟩, ?_, ?_⟩, ?_⟩
    · intro l hl
      rw [hl.inj I qx]
      exact hx
    · intro l hl
      rw [hl.inj I qy]
      exact hy
    · exact (sb.2 _ D.TIz).trans (T.keep _ _ D.TIz D.TITO D.TIi1 D.TIi2 h1)
    · exact (sb.2 _ D.TOz).trans T.out
    · exact T.it1.stay fun o q => (sb.2 _ D.i1z).trans q
    · exact T.it2.stay fun o q => (sb.2 _ D.i2z).trans q
    · intro c hcm
      have lt : c < s.heap.objs.size := by
        rcases in5 hcm with rfl | rfl | rfl | rfl | rfl
        · exact zl
        · exact Heap.lt_size h1
        · exact Heap.lt_size h2
        · obtain ⟨_, e, _⟩ := a1.obj
          exact Heap.lt_size e
        · obtain ⟨_, e, _⟩ := a2.obj
          exact Heap.lt_size e
      rw [upd_ne (Nat.ne_of_lt lt)]
      exact (hf c hcm).1
  · intro X hP hw hK hc i pins s σ H E I hf st hg
    subst hP hw hK
    obtain ⟨hz, h1, ⟨x0, y0, h2⟩, a1, a2⟩ := st
    obtain ⟨xs, ys, qx, qy, hend⟩ := hg
    obtain ⟨its, rv, p, _⟩ := qx.real I
    obtain ⟨its2, rv2, p2, _⟩ := qy.real I
    have e1 := rv.length
    have e2 := rv2.length
    have he : its.toArray[i]? = none ∨ its2.toArray[i]? = none := by
      rcases hend with q | q
      · exact .inl (by simp; omega)
      · exact .inr (by simp; omega)
    refine zmix_stop (I.ok.hd hc) D hz h1 h2 a1 a2 p p2 he ?_
    intro g kp
    refine ⟨rfl, I.turnedL (t' := s.toks) (ch := [z, T1, T2, i1, i2]) ?_ hf⟩
    intro c o hb q
    exact kp c o (fun e => hb (by simp [e])) (fun e => hb (by simp [e])) (fun e => hb (by simp [e])) (fun e => hb (by simp [e])) q
  · intro A i s Q E st h
    exact wpAny_pyIter_zip st.1 h
/-- zip(e, e2): lists and tuples, in any mixture -/
def iZm (K : PySem.W.Frag) (ta : TA) : TI := fun σ H R => ta σ H fun vs H1 => ∃ (t u : Bool) (a b : Addr) (xs ys : List V), vs = [.ref a, .ref b] ∧
  Sv t K H1 a xs ∧ Sv u K H1 b ys ∧ R (Itm t u K a b) H1
theorem pi_zm {X : Cx} {K : PySem.W.Frag} {e e2 : Expr} {ta : TA} {p pos tpos : Pos} {elts : List Expr} {kk : Nat} (hg : Gl X "zip") (hm : X.mg "zip" = none) (ha : PA X [e, e2] ta) (hK : X.K = K := by rfl)
    (hs : starEach [e, e2] X.env = (false, eval e X.env) :: starEach [e2] X.env := by rfl) (hpl : (backTo pos (starEach [e2] X.env)).any (·.1) = false := by rfl) :
    PI X (.Tuple elts kk tpos) (.Call (.Name "zip" p) [e, e2] [] pos) (iZm K ta) := by
  subst hK
  constructor
  intro pins s σ H R I h
  refine Call_ (ld_blt I hg hm PyProof.Rows.boot_zip (PyProof.Rows.callWith_type1 (thn (ha.run pos pins s σ H _ I h) ?_) hs hpl))
  rintro us s1 ⟨vs, H1, I1, r1, t, u, a, b, xs, ys, rfl, qx, qy, q⟩
  obtain ⟨w1, w2, rfl, ra, rb⟩ := vals2 r1
  cases (show w1 = Value.ref a from ra)
  cases (show w2 = Value.ref b from rb)
  obtain ⟨its, rv, p1, lt1⟩ := qx.real I1
  obtain ⟨its2, rv2, p2, lt2⟩ := qy.real I1
  refine call_zmix p1 p2 ?_
  intro h' Z
  refine wpAny_pyIter_zip Z.zip ?_
  have I2 : Inv X pins σ H1 { s1 with heap := h' } := I1.kept (t' := s1.toks) Z.keep
  let n := s1.heap.objs.size
  refine ⟨n + 4, [n + 4, n + 2, n + 3, n, n + 1], _, _, H1, rfl, I2, turn_zmix (PySem.W.ktu_apart n a b lt1 lt2), ⟨Z.zip, Z.its, ⟨_, _, Z.out⟩, Z.it1, Z.it2⟩, ?_, q⟩
  intro c hc
  have le : n ≤ c := by
    show s1.heap.objs.size ≤ c
    rcases in5 hc with e | e | e | e | e
    · have e' : @Eq Nat c (s1.heap.objs.size + 4) := e
      omega
    · have e' : @Eq Nat c (s1.heap.objs.size + 2) := e
      omega
    · have e' : @Eq Nat c (s1.heap.objs.size + 3) := e
      omega
    · have e' : @Eq Nat c (s1.heap.objs.size) := e
      omega
    · have e' : @Eq Nat c (s1.heap.objs.size + 1) := e
      omega
  exact I1.fpOk le (I1.hok.fresh le)
/-- the walk -/
theorem walk_zm {t u : Bool} {K : PySem.W.Frag} {a b : Addr} {xs ys : List V} {n : Nat} (hn : n = min xs.length ys.length) :
    Walk (Itm t u K a b) n (fun H => Sv t K H a xs ∧ Sv u K H b ys) (YPair (fun i => xs[i]?) (fun i => ys[i]?)) := by
  subst hn
  refine ⟨?_, ?_, ?_⟩
  · intro i H hi q
    have h1 : i < xs.length := by omega
    have h2 : i < ys.length := by omega
    exact ⟨xs, ys, xs[i], ys[i], q.1, q.2, by simp [h1], by simp [h2]⟩
  · intro H q
    exact ⟨xs, ys, q.1, q.2, by omega⟩
  · rintro i H x H' _ q ⟨N, v, v', h1, h2, h3, h4, h5⟩
    exact ⟨N, v, v', h1, h2, h3, h4 xs q.1, h5 ys q.2⟩
end VB
/-! comprehensions that change nothing, of any values -/
namespace VB
open PySem PySem.Spec PyProof.Rows L2
theorem lc_pureVS {J : It} {G : Hp → Prop} {n j : Nat} {us : List V} {xs : List V} {te : TE} {vs : List Nat} {σ : L2.St} {H1 : Hp} {D : Addr} {Qd : Hp → Prop} (wk : Walk J n G (YAt xs)) (hG : ∀ H, Evl.Ex H1 H → G H)
    (hl : us.length = n) (hz : n ≤ 60000) (hD : H1 D = none) (hw : ∀ x, wipe ((wipe σ vs).set j x) vs = wipe σ vs)
    (hs : ∀ (i : Nat) (x : V) (u : V) (H : Hp) (Q : VK), xs[i]? = some x → us[i]? = some u → Evl.Ex H1 H → (∀ H' : Hp, Evl.Ex H H' → Q u H') → te ((wipe σ vs).set j (some x)) H Q)
    (hd : ∀ H, Evl.Ex H1 H → H D = some (.lst us) → Qd H) :
    ∃ W : Nat → Nat → Hp → Prop, (∃ m, W 0 m (upd H1 D (.lst []))) ∧ ∀ i m H, W i m H →
      (J.stop i H ∧ Qd H) ∨ (J.go i H ∧ ∃ Nx : Hp → Prop, (∀ H', Nx H' → ∃ m', m' < m ∧ W (i + 1) m' H') ∧ ∀ x H', J.yld i H x H' →
        gName j x (wipe σ vs) H' fun σ2 H2 => wipe σ2 vs = wipe σ vs ∧ tYes σ2 H2 fun b H3 =>
        if b = true then te σ2 H3 fun y H4 => ∃ acc, H4 D = some (.lst acc) ∧ acc.length < sizeLine ∧ Nx (upd H4 D (.lst (acc ++ [y]))) else Nx H3) := by
  refine lc_it wk (fun i H' => Evl.Ex H1 H' ∧ i ≤ n ∧ H' D = some (.lst (us.take i))) ⟨Evl.Ex.new hD, Nat.zero_le _, upd_same⟩ (fun i H _ h => hG H h.1) ?_ ?_
  · rintro i x H H' hi ⟨e1, hi2, h1⟩ ⟨rfl, hx⟩
    refine ⟨hw _, ?_⟩
    obtain ⟨u, hu⟩ : ∃ u, us[i]? = some u := ⟨us[i]'(by omega), by simp [show i < us.length by omega]⟩
    show te _ H' _
    refine hs i x u H' _ hx hu e1 fun H'' e2 => ⟨_, e2 D _ h1, ?_, Evl.Ex.mut (e1.trans e2) hD, by omega, ?_⟩
    · rw [List.length_take]
      exact Evl.sz_lt (by omega)
    · rw [upd_same, take_snoc hu]
  · rintro H ⟨e1, _, h1⟩
    refine hd H e1 ?_
    rw [h1, ← hl, List.take_length]
/-- .. over pairs -/
theorem lc_pureVZ {K : PySem.W.Frag} {J : It} {G : Hp → Prop} {n j1 j2 : Nat} {us : List V} {xs ys : Nat → Option V} {te : TE} {vs : List Nat} {σ : L2.St} {H1 : Hp} {D : Addr} {Qd : Hp → Prop} (wk : Walk J n G (YPair xs ys)) (hG : ∀ H, Evl.Ex H1 H → G H)
    (hl : us.length = n) (hz : n ≤ 60000) (hD : H1 D = none) (hw : ∀ x y, wipe (((wipe σ vs).set j1 x).set j2 y) vs = wipe σ vs)
    (hs : ∀ (i : Nat) (x y : V) (u : V) (H : Hp) (Q : VK), xs i = some x → ys i = some y → us[i]? = some u → Evl.Ex H1 H → (∀ H' : Hp, Evl.Ex H H' → Q u H') → te (((wipe σ vs).set j1 (some x)).set j2 (some y)) H Q)
    (hd : ∀ H, Evl.Ex H1 H → H D = some (.lst us) → Qd H) :
    ∃ W : Nat → Nat → Hp → Prop, (∃ m, W 0 m (upd H1 D (.lst []))) ∧ ∀ i m H, W i m H →
      (J.stop i H ∧ Qd H) ∨ (J.go i H ∧ ∃ Nx : Hp → Prop, (∀ H', Nx H' → ∃ m', m' < m ∧ W (i + 1) m' H') ∧ ∀ x H', J.yld i H x H' →
        gTup K 2 (gCons (gName j1) (gCons (gName j2) gNil)) x (wipe σ vs) H' fun σ2 H2 => wipe σ2 vs = wipe σ vs ∧ tYes σ2 H2 fun b H3 =>
        if b = true then te σ2 H3 fun y H4 => ∃ acc, H4 D = some (.lst acc) ∧ acc.length < sizeLine ∧ Nx (upd H4 D (.lst (acc ++ [y]))) else Nx H3) := by
  refine lc_it wk (fun i H' => Evl.Ex H1 H' ∧ i ≤ n ∧ H' D = some (.lst (us.take i))) ⟨Evl.Ex.new hD, Nat.zero_le _, upd_same⟩ (fun i H _ h => hG H h.1) ?_ ?_
  · rintro i v H H' hi ⟨e1, hi2, h1⟩ ⟨T, x, y, rfl, hT, rfl, hx, hy⟩
    have eT := Evl.Ex.new (o := .tup [x, y]) hT
    refine ⟨T, _, rfl, SqT.of upd_same, rfl, x, _, rfl, ⟨y, _, rfl, ?_⟩⟩
    refine ⟨rfl, hw _ _, ?_⟩
    obtain ⟨u, hu⟩ : ∃ u, us[i]? = some u := ⟨us[i]'(by omega), by simp [show i < us.length by omega]⟩
    show te _ _ _
    refine hs i x y u _ _ hx hy hu (e1.trans eT) fun H'' e2 => ⟨_, e2 D _ (eT D _ h1), ?_, Evl.Ex.mut ((e1.trans eT).trans e2) hD, by omega, ?_⟩
    · rw [List.length_take]
      exact Evl.sz_lt (by omega)
    · rw [upd_same, take_snoc hu]
  · rintro H ⟨e1, _, h1⟩
    refine hd H e1 ?_
    rw [h1, ← hl, List.take_length]
/-- a sequence's type -/
theorem Sv.ty {t : Bool} {K : PySem.W.Frag} {H : Hp} {a : Addr} {xs : List V} (h : Sv t K H a xs) : TyX K H (.ref a) (.type (if t then "tuple" else "list")) := by
  cases t with
  | false =>
    have h : SqL K H a xs := h
    rcases h with (h | ⟨o, h⟩) | ⟨o, its, n, h, c, _⟩
    · exact .base (.lst h)
    · exact .base (.frz h)
    · exact .kList h c
  | true =>
    have h : SqT K H a xs := h
    rcases h with (h | ⟨o, h⟩) | ⟨o, its, n, h, c, _⟩
    · exact .base (.tup h)
    · exact .fTuple h
    · exact .kTuple h c
theorem kit_seq (K : PySem.W.Frag) (t : Bool) : PySem.W.kitAny K (.type (if t then "tuple" else "list")) [.type "list", .type "tuple"] = some true := by
  cases t with
  | false => exact kitAny_cons (b := true) (kit_ty (by decide +kernel)) (fun z => nomatch z) (fun _ => rfl)
  | true => exact kitAny_cons (b := false) (kit_ty (by decide +kernel)) (fun _ => kitAny_cons (b := true) (kit_ty (by decide +kernel)) (fun z => nomatch z) (fun _ => rfl)) (fun z => nomatch z)
/-- an int of the module -/
theorem pe_globI {X : Cx} {x : Str} {i : Int} {pos : Pos} (hg : Gl X x) (h : ∃ t, X.mg x = some (.int i t)) (hd : (x == ("__debug__" : Str)) = false := by decide) : PE X (.Name x pos) (tC (.int i)) := by
  obtain ⟨t, h⟩ := h
  exact pe_glob hg h ⟨_, rfl⟩ hd
end VB
/-! what the laws share -/
namespace VB
open PySem PySem.Spec PyProof.Rows L2 BM
section
variable {P : Program} {w : World} {K : PySem.W.Frag} {mg : Str → Option Value} {base : Heap} {f : Addr} {fd : FuncData}
/-- at a: a box: what is left of the digits, whether they count, the seed, the draws so far (below n) -/
def Box (H : Hp) (a : Addr) (n : Int) : Prop := ∃ (d m c : Int) (b : Bool), H a = some (.lst [.int d, .bl b, .int m, .int c]) ∧ 0 ≤ d ∧ 0 ≤ m ∧ m < 2147483629 ∧ 0 ≤ c ∧ c ≤ n
/-- all but what stands at a is as it was -/
def Exb (a : Addr) (H H' : Hp) : Prop := ∀ b o, b ≠ a → H b = some o → H' b = some o
theorem Exb.upd {a : Addr} {H : Hp} {o : HO} : Exb a H (upd H a o) := fun b u n e => by rw [upd_ne n]; exact e
theorem Exb.trans {a : Addr} {H H1 H2 : Hp} (x : Exb a H H1) (y : Exb a H1 H2) : Exb a H H2 := fun b o n e => y b o n (x b o n e)
theorem Exb.of {a : Addr} {H H' : Hp} (x : Evl.Ex H H') : Exb a H H' := fun b o _ e => x b o e
theorem Exb.new {a p : Addr} {H : Hp} {o : HO} (h : H p = none) : Exb a H (L2.upd H p o) := Exb.of (Evl.Ex.new h)
theorem Box.ex {H H' : Hp} {a : Addr} {n : Int} (b : Box H a n) (e : Evl.Ex H H') : Box H' a n := by
  obtain ⟨d, m, c, k, h, r⟩ := b
  exact ⟨d, m, c, k, e _ _ h, r⟩
theorem Box.at {H : Hp} {a p : Addr} {n : Int} (b : Box H a n) (h : H p = none) : p ≠ a := by
  obtain ⟨d, m, c, k, e, r⟩ := b
  rintro rfl
  rw [h] at e
  cases e
theorem Box.le {H : Hp} {a : Addr} {n m : Int} (b : Box H a n) (h : n ≤ m) : Box H a m := by
  obtain ⟨d, m', c, k, e, r1, r2, r3, r4, r5⟩ := b
  exact ⟨d, m', c, k, e, r1, r2, r3, r4, by omega⟩
abbrev ws8 : List Int := [128, 64, 32, 16, 8, 4, 2, 1]
theorem ws8_get {j : Nat} {u : Int} (h : ws8[j]? = some u) : 0 < u ∧ u ≤ 128 := by
  have m := List.mem_of_getElem? h
  simp only [ws8, List.mem_cons, List.not_mem_nil, or_false] at m
  omega
theorem bitsOf_ws (o : Int) : bitsOf o = ws8.map fun u => o / u % 2 := rfl
theorem octetsN_snoc : ∀ (n : Nat) (bs : List Int), octetsN (n + 1) bs = octetsN n bs ++ [octOf ((bs.drop (8 * n)).take 8)]
  | 0, bs => rfl
  | n + 1, bs => by
    show octOf (bs.take 8) :: octetsN (n + 1) (bs.drop 8) = octOf (bs.take 8) :: octetsN n (bs.drop 8) ++ _
    rw [octetsN_snoc n (bs.drop 8), List.drop_drop]
    have e : 8 + 8 * n = 8 * (n + 1) := by omega
    rw [e]
    rfl
theorem octetsN_len : ∀ (n : Nat) (bs : List Int), (octetsN n bs).length = n
  | 0, _ => rfl
  | n + 1, bs => by
    show (octetsN n (bs.drop 8)).length + 1 = _
    rw [octetsN_len n]
theorem cut8 (bs : List Int) (i : Nat) (hi : 8 * i ≤ bs.length) : cutV (IV bs) (some (0 + (i : Int) * 8)) (some (0 + (i : Int) * 8 + 8)) = IV ((bs.drop (8 * i)).take 8) := by
  have e1 : (0 : Int) + (i : Int) * 8 = ((8 * i : Nat) : Int) := by omega
  have e2 : ((8 * i : Nat) : Int) + 8 = ((8 * i + 8 : Nat) : Int) := by omega
  unfold cutV
  rw [e1, e2, HT.sIx_nat, HT.sIx_nat, iv_len, ← List.map_drop, ← List.map_take]
  have e3 : min (8 * i) bs.length = 8 * i := by omega
  rw [e3]
  congr 1
  rw [List.take_eq_take_iff, List.length_drop]
  omega
theorem octOf_snoc (bs : List Int) (b : Int) : octOf (bs ++ [b]) = 2 * octOf bs + b := by
  unfold octOf
  rw [List.foldl_append]
  rfl
theorem if_ne {x y : Int} {A B : Prop} (h1 : x ≠ y → A) (h2 : x = y → B) : if (!decide (V.int x = V.int y)) = true then A else B := by
  by_cases e : x = y
  · rw [decide_eq_true (congrArg V.int e)]
    exact iteF (h2 e)
  · rw [decide_eq_false (fun z => e (V.int.inj z))]
    exact iteT (h1 e)
theorem if_eq {x y : Int} {A B : Prop} (h1 : x = y → A) (h2 : x ≠ y → B) : if decide (V.int x = V.int y) = true then A else B := by
  by_cases e : x = y
  · rw [decide_eq_true (congrArg V.int e)]
    exact iteT (h1 e)
  · rw [decide_eq_false (fun z => e (V.int.inj z))]
    exact iteF (h2 e)
theorem drop_get {α : Type} {l : List α} {i : Nat} {x : α} (h : l[i]? = some x) : l.drop i = x :: l.drop (i + 1) := by
  obtain ⟨hi, e⟩ := List.getElem?_eq_some_iff.mp h
  rw [List.drop_eq_getElem_cons hi, e]
theorem get_lt {α : Type} {l : List α} {i : Nat} (h : i < l.length) : ∃ x, l[i]? = some x := ⟨l[i], by simp [h]⟩
theorem iv_set (pre post : List Int) (x y : Int) : (IV (pre ++ x :: post)).set pre.length (V.int y) = IV (pre ++ y :: post) := by
  rw [← List.map_set, List.set_append_right _ _ (Nat.le_refl _)]
  simp
theorem turned_cons (x y m : Int) (as bs : List Int) : turned (x :: as) (y :: bs) m = if x = y then x :: turned as bs m else (if m % 2 = 1 then y else x) :: turned as bs (m / 2) := by
  rw [turned]
/-- beyond all masks -/
def MM : Int := 2 ^ 4096
theorem MM_eq : (1 : Int) * 2 ^ (4096 : Int).toNat = MM := by
  have e : (4096 : Int).toNat = 4096 := rfl
  rw [e, Int.one_mul]
  rfl
theorem pow_nn (k : Nat) : (0 : Int) < 2 ^ k := Int.pow_pos (by decide)
theorem pow_mono {a b : Nat} (h : a ≤ b) : (2 : Int) ^ a ≤ 2 ^ b := by
  have q : (2 : Nat) ^ a ≤ 2 ^ b := Nat.pow_le_pow_right (by decide) h
  have q2 : (((2 : Nat) ^ a : Nat) : Int) ≤ ((2 ^ b : Nat) : Int) := Int.ofNat_le.mpr q
  simpa using q2
theorem MM_half {k : Nat} (h : k ≤ 4095) : 2 * (2 : Int) ^ k ≤ MM := by
  have q := pow_mono (a := k + 1) (b := 4096) (by omega)
  rw [Int.pow_succ] at q
  unfold MM
  omega
theorem lt_natAbs {x : Int} {n : Nat} (h0 : 0 ≤ x) (h : x < 2 ^ n) : x.natAbs < 2 ^ n := by
  have e : (x.natAbs : Int) = x := Int.natAbs_of_nonneg h0
  have q : (x.natAbs : Int) < ((2 ^ n : Nat) : Int) := by
    rw [e]
    simpa using h
  exact Int.ofNat_lt.mp q
theorem more_bits {x w : Int} {n : Nat} (h0 : 0 ≤ x) (h : x < 2 ^ n) (w0 : 0 ≤ w) (w1 : w < 2 ^ 48) : 0 ≤ x * 2 ^ 48 + w ∧ x * 2 ^ 48 + w < 2 ^ (n + 48) := by
  rw [Int.pow_add]
  have p : (0 : Int) < 2 ^ 48 := pow_nn 48
  have m : (x + 1) * 2 ^ 48 ≤ 2 ^ n * 2 ^ 48 := Int.mul_le_mul_of_nonneg_right (by omega) (Int.le_of_lt p)
  rw [Int.add_mul, Int.one_mul] at m
  have m0 : 0 ≤ x * 2 ^ 48 := Int.mul_nonneg h0 (Int.le_of_lt p)
  omega
theorem oct_snoc {xs : List Int} {r : Int} (h : Oct xs) (h0 : 0 ≤ r) (h1 : r ≤ 255) : Oct (xs ++ [r]) := by
  intro o ho
  rcases List.mem_append.mp ho with q | q
  · exact h o q
  · have e : o = r := by simpa using q
    omega
theorem zip_get {xs ys : List Int} {p : Int × Int} (h : p ∈ xs.zip ys) : ∃ i : Nat, xs[i]? = some p.1 ∧ ys[i]? = some p.2 := by
  obtain ⟨i, hi⟩ := List.mem_iff_getElem?.mp h
  obtain ⟨q1, q2⟩ := List.getElem?_zip_eq_some.mp hi
  exact ⟨i, q1, q2⟩
theorem bitAnd_pp {x y : Int} (hx : 0 ≤ x) (hy : 0 ≤ y) : Builtin.bitAnd x y = ((x.toNat &&& y.toNat : Nat) : Int) := by
  obtain ⟨a, rfl⟩ := nat_of hx
  obtain ⟨b, rfl⟩ := nat_of hy
  rfl
/-- two lists of octets, item by item -/
def both (f : Int → Int → Int) (xs ys : List Int) : List Int := (xs.zip ys).map fun p => f p.1 p.2
theorem both_len {f : Int → Int → Int} {xs ys : List Int} (h : xs.length = ys.length) : (both f xs ys).length = xs.length := by
  unfold both
  rw [List.length_map, List.length_zip]
  omega
theorem both_get {f : Int → Int → Int} {xs ys : List Int} {i : Nat} {u : Int} (h : (both f xs ys)[i]? = some u) : ∃ x y, xs[i]? = some x ∧ ys[i]? = some y ∧ u = f x y := by
  unfold both at h
  rw [List.getElem?_map] at h
  cases e : (xs.zip ys)[i]? with
  | none => rw [e] at h; cases h
  | some p =>
    rw [e] at h
    obtain ⟨q1, q2⟩ := List.getElem?_zip_eq_some.mp e
    exact ⟨p.1, p.2, q1, q2, (Option.some.inj h).symm⟩
theorem both_oct {f : Int → Int → Int} {xs ys : List Int} (ox : Oct xs) (oy : Oct ys) (h : ∀ x y, 0 ≤ x ∧ x ≤ 255 → 0 ≤ y ∧ y ≤ 255 → 0 ≤ f x y ∧ f x y ≤ 255) : Oct (both f xs ys) := by
  intro o ho
  obtain ⟨i, hi⟩ := List.mem_iff_getElem?.mp ho
  obtain ⟨x, y, hx, hy, rfl⟩ := both_get hi
  exact h x y (ox x (List.mem_of_getElem? hx)) (oy y (List.mem_of_getElem? hy))
theorem oct_and {x y : Int} (hx : 0 ≤ x ∧ x ≤ 255) (hy : 0 ≤ y ∧ y ≤ 255) : (0 ≤ Builtin.bitAnd x y ∧ Builtin.bitAnd x y ≤ 255) ∧ Le (bitsOf (Builtin.bitAnd x y)) (bitsOf x) := by
  rw [bitAnd_pp hx.1 hy.1]
  have e : ((x.toNat : Nat) : Int) = x := by omega
  have h := and_oct (a := x.toNat) (b := y.toNat) (by omega)
  refine ⟨by omega, ?_⟩
  have q := and_le x.toNat y.toNat
  rw [e] at q
  exact q
theorem oct_or {x y : Int} (hx : 0 ≤ x ∧ x ≤ 255) (hy : 0 ≤ y ∧ y ≤ 255) : (0 ≤ Builtin.bitOr x y ∧ Builtin.bitOr x y ≤ 255) ∧ Le (bitsOf x) (bitsOf (Builtin.bitOr x y)) := by
  rw [Bits.bitOr_pp hx.1 hy.1]
  have e : ((x.toNat : Nat) : Int) = x := by omega
  have h := or_oct (a := x.toNat) (b := y.toNat) (by omega) (by omega)
  refine ⟨by omega, ?_⟩
  have q := le_or x.toNat y.toNat
  rw [e] at q
  exact q
theorem bitsL_le' {xs ys : List Int} (hl : xs.length = ys.length) (h : ∀ (i : Nat) x y, xs[i]? = some x → ys[i]? = some y → Le (bitsOf x) (bitsOf y)) : Le (bitsL xs) (bitsL ys) :=
  bitsL_le hl fun p hp => by
    obtain ⟨i, h1, h2⟩ := zip_get hp
    exact h i _ _ h1 h2
theorem oct_255 (c : Nat) : Oct (List.replicate c 255) := fun o ho => by
  have e := List.eq_of_mem_replicate ho
  omega
theorem iv_rep (c : Nat) (o : Int) : IV (List.replicate c o) = List.replicate c (V.int o) := List.map_replicate ..
/-- one more octet of a comprehension over a box -/
def Grown (a D : Addr) (H0 : Hp) (m : Int) (i : Nat) (H' : Hp) : Prop := Exb a H0 H' ∧ Box H' a (m + 3 * i) ∧ ∃ xs : List Int, xs.length = i ∧ Oct xs ∧ H' D = some (.lst (IV xs))
theorem Grown.start {a D : Addr} {H : Hp} {m : Int} (B : Box H a m) (hD : H D = none) : Grown a D H m 0 (upd H D (.lst [])) :=
  ⟨Exb.new hD, (B.ex (Evl.Ex.new hD)).le (by omega), [], rfl, fun _ h => (by cases h), upd_same⟩
theorem Grown.more {a D : Addr} {H0 H1 H2 : Hp} {m r : Int} {i : Nat} (g : Grown a D H0 m i H1) (hD : D ≠ a) (hn : H0 D = none) (hi : i ≤ 1000) (e : Exb a H1 H2) (B : Box H2 a (m + 3 * i + 3)) (r0 : 0 ≤ r) (r1 : r ≤ 255) :
    ∃ acc, H2 D = some (.lst acc) ∧ acc.length < sizeLine ∧ Grown a D H0 m (i + 1) (upd H2 D (.lst (acc ++ [V.int r]))) := by
  obtain ⟨e1, B1, xs, hl, ho, h⟩ := g
  have B2 : Box (upd H2 D (.lst (IV xs ++ [V.int r]))) a (m + 3 * i + 3) := by
    obtain ⟨d, m', c, k, hb, q⟩ := B
    exact ⟨d, m', c, k, by rw [upd_ne (Ne.symm hD)]; exact hb, q⟩
  refine ⟨IV xs, e D _ hD h, by rw [iv_len, hl]; exact Evl.sz_lt (by omega), ?_, B2.le (by omega), xs ++ [r], by simp [hl], oct_snoc ho r0 r1, by rw [upd_same, iv_snoc]⟩
  intro b o n q
  have hb : b ≠ D := by
    rintro rfl
    rw [hn] at q
    cases q
  rw [upd_ne hb]
  exact e b o n (e1 b o n q)
/-- keywords in other orders than the parameters' -/
abbrev g1 : List Value → List Value → List Value := fun _ ws => [ws.getD 0 .none]
abbrev g1V : List V → List V → List V := fun _ ws => [ws.getD 0 .non]
abbrev g21 : List Value → List Value → List Value := fun _ ws => [ws.getD 1 .none, ws.getD 0 .none]
abbrev g21V : List V → List V → List V := fun _ ws => [ws.getD 1 .non, ws.getD 0 .non]
abbrev g321 : List Value → List Value → List Value := fun _ ws => [ws.getD 2 .none, ws.getD 1 .none, ws.getD 0 .none]
abbrev g321V : List V → List V → List V := fun _ ws => [ws.getD 2 .non, ws.getD 1 .non, ws.getD 0 .non]
theorem same_ne {x : V} {A B : Prop} (h : B) : if (!decide (x = x)) = true then A else B := by
  rw [decide_eq_true rfl]
  exact iteF h
theorem same_int {x y : Int} {A B : Prop} (e : x = y) (h : B) : if (!decide (V.int x = V.int y)) = true then A else B := by
  subst e
  exact same_ne h
theorem same_bl {x y : Bool} {A B : Prop} (e : x = y) (h : B) : if (!decide (V.bl x = V.bl y)) = true then A else B := by
  subst e
  exact same_ne h
theorem if_dec {p : Prop} [Decidable p] {A B : Prop} (h1 : p → A) (h2 : ¬ p → B) : if decide p = true then A else B := by
  by_cases z : p
  · rw [decide_eq_true z]
    exact iteT (h1 z)
  · rw [decide_eq_false z]
    exact iteF (h2 z)
theorem two_ways {x y : Int} {ta tb : TE} {σ : L2.St} {H : Hp} {Q : VK} (S : V → Hp → Prop) (ha : x = y → ∀ Q' : VK, (∀ v H', S v H' → Q' v H') → ta σ H Q')
    (hb : x ≠ y → ∀ Q' : VK, (∀ v H', S v H' → Q' v H') → tb σ H Q') (hQ : ∀ v H', S v H' → Q v H') : if decide (V.int x = V.int y) = true then ta σ H Q else tb σ H Q :=
  if_eq (fun z => ha z Q hQ) (fun z => hb z Q hQ)
theorem sm_fallen (n : Nat) (as bs : List Int) : ∀ (k : Int), 0 ≤ k → k + (as.length : Int) ≤ 10000 → Sm (fallenL k as bs) := by
  induction as generalizing bs with
  | nil =>
    intro k _ _
    cases bs <;> exact fun n hn => by cases hn
  | cons a as ih =>
    intro k hk hl
    cases bs with
    | nil => exact fun n hn => by cases hn
    | cons b bs =>
      have r := ih bs (k + 1) (by omega) (by simp at hl; omega)
      rw [fallenL]
      split
      · intro n hn
        cases hn with
        | head => simp at hl; omega
        | tail _ hn => exact r n hn
      · exact r
theorem zip8 {f : Int → Int → Int} {a0 a1 a2 a3 a4 a5 a6 a7 b0 b1 b2 b3 b4 b5 b6 b7 : Int} : List.zipWith f [a7, a6, a5, a4, a3, a2, a1, a0] [b7, b6, b5, b4, b3, b2, b1, b0] = [f a7 b7, f a6 b6, f a5 b5, f a4 b4, f a3 b3, f a2 b2, f a1 b1, f a0 b0] := rfl
theorem xor_bits {x y : Int} (hx : 0 ≤ x ∧ x ≤ 255) (hy : 0 ≤ y ∧ y ≤ 255) : bitsOf (Builtin.bitXor x y) = List.zipWith (fun a b => if a = b then 0 else 1) (bitsOf x) (bitsOf y) := by
  obtain ⟨a, rfl⟩ := nat_of hx.1
  obtain ⟨b, rfl⟩ := nat_of hy.1
  rw [Bits.bitXor_pp hx.1 hy.1, Int.toNat_natCast, Int.toNat_natCast, bitsOf_tb, bitsOf_tb, bitsOf_tb, zip8]
  simp only [tb_xor]
theorem and_bits {x y : Int} (hx : 0 ≤ x ∧ x ≤ 255) (hy : 0 ≤ y ∧ y ≤ 255) : bitsOf (Builtin.bitAnd x y) = List.zipWith (fun a b => if a = 1 ∧ b = 1 then 1 else 0) (bitsOf x) (bitsOf y) := by
  obtain ⟨a, rfl⟩ := nat_of hx.1
  obtain ⟨b, rfl⟩ := nat_of hy.1
  rw [bitAnd_pp hx.1 hy.1, Int.toNat_natCast, Int.toNat_natCast, bitsOf_tb, bitsOf_tb, bitsOf_tb, zip8]
  simp only [tb_and]
theorem xor_range {x y : Int} (hx : 0 ≤ x ∧ x ≤ 255) (hy : 0 ≤ y ∧ y ≤ 255) : 0 ≤ Builtin.bitXor x y ∧ Builtin.bitXor x y ≤ 255 := by
  rw [Bits.bitXor_pp hx.1 hy.1]
  have h := xor_oct (a := x.toNat) (b := y.toNat) (by omega) (by omega)
  omega
/-- what falls, octet by octet -/
def fallO (x y : Int) : Int := Builtin.bitAnd x (Builtin.bitXor x y)
def riseO (x y : Int) : Int := Builtin.bitAnd y (Builtin.bitXor x y)
theorem fallO_range {x y : Int} (hx : 0 ≤ x ∧ x ≤ 255) (hy : 0 ≤ y ∧ y ≤ 255) : 0 ≤ fallO x y ∧ fallO x y ≤ 255 := (oct_and hx (xor_range hx hy)).1
theorem riseO_range {x y : Int} (hx : 0 ≤ x ∧ x ≤ 255) (hy : 0 ≤ y ∧ y ≤ 255) : 0 ≤ riseO x y ∧ riseO x y ≤ 255 := (oct_and hy (xor_range hx hy)).1
theorem zw_self {f g : Int → Int → Int} (h : ∀ a b : Int, f a (g a b) = (fun a b => f a (g a b)) a b) : ∀ as bs : List Int, List.zipWith f as (List.zipWith g as bs) = List.zipWith (fun a b => f a (g a b)) as bs
  | [], _ => by simp
  | _ :: _, [] => by simp
  | a :: as, b :: bs => by simp [zw_self h as bs]
theorem zw_other {f g : Int → Int → Int} : ∀ as bs : List Int, List.zipWith f bs (List.zipWith g as bs) = List.zipWith (fun a b => f b (g a b)) as bs
  | [], _ => by simp
  | _ :: _, [] => by simp
  | a :: as, b :: bs => by simp [zw_other as bs]
theorem ones_fall {xs ys : List Int} (ox : Oct xs) (oy : Oct ys) (hl : xs.length = ys.length) : onesL 0 (bitsL (both fallO xs ys)) = fallenL 0 (bitsL xs) (bitsL ys) := by
  have e : bitsL (both fallO xs ys) = List.zipWith (fun a b => if a = 1 ∧ (if a = b then (0 : Int) else 1) = 1 then (1 : Int) else 0) (bitsL xs) (bitsL ys) := by
    refine bitsL_both (fun x y hx hy => ?_) xs ys ox oy
    unfold fallO
    rw [and_bits hx (xor_range hx hy), xor_bits hx hy, zw_self fun _ _ => rfl]
  rw [e]
  refine ones_of (fun as bs k => fallenL k as bs) (fun a b => a = 1 ∧ b = 0) (fun _ => by simp [fallenL]) (fun a as b bs k => by rw [fallenL]) ?_ _ _ 0 (by rw [bitsL_len, bitsL_len, hl]) (bitsL_bit xs) (bitsL_bit ys)
  intro a b ha hb
  rcases ha with rfl | rfl <;> rcases hb with rfl | rfl <;> decide
theorem fallen_swap : ∀ (as bs : List Int) (k : Int) , fallenL k bs as = (fun (as bs : List Int) (k : Int) => fallenL k bs as) as bs k := fun _ _ _ => rfl
theorem ones_rise {xs ys : List Int} (ox : Oct xs) (oy : Oct ys) (hl : xs.length = ys.length) : onesL 0 (bitsL (both riseO xs ys)) = fallenL 0 (bitsL ys) (bitsL xs) := by
  have e : bitsL (both riseO xs ys) = List.zipWith (fun a b => if b = 1 ∧ (if a = b then (0 : Int) else 1) = 1 then (1 : Int) else 0) (bitsL xs) (bitsL ys) := by
    refine bitsL_both (fun x y hx hy => ?_) xs ys ox oy
    unfold riseO
    rw [and_bits hy (xor_range hx hy), xor_bits hx hy, zw_other]
  rw [e]
  refine ones_of (fun as bs k => fallenL k bs as) (fun a b => b = 1 ∧ a = 0) (fun _ => by simp [fallenL]) (fun a as b bs k => by rw [fallenL]) ?_ _ _ 0 (by rw [bitsL_len, bitsL_len, hl]) (bitsL_bit xs) (bitsL_bit ys)
  intro a b ha hb
  rcases ha with rfl | rfl <;> rcases hb with rfl | rfl <;> decide
theorem ones_diff {xs ys : List Int} (ox : Oct xs) (oy : Oct ys) (hl : xs.length = ys.length) : onesL 0 (bitsL (both Builtin.bitXor xs ys)) = diffL 0 (bitsL xs) (bitsL ys) := by
  have e : bitsL (both Builtin.bitXor xs ys) = List.zipWith (fun a b => if a = b then (0 : Int) else 1) (bitsL xs) (bitsL ys) :=
    bitsL_both (fun x y hx hy => xor_bits hx hy) xs ys ox oy
  rw [e]
  refine ones_of (fun as bs k => diffL k as bs) (fun a b => ¬ a = b) (fun _ => by simp [diffL]) (fun a as b bs k => ?_) ?_ _ _ 0 (by rw [bitsL_len, bitsL_len, hl]) (bitsL_bit xs) (bitsL_bit ys)
  · rw [diffL]
    by_cases z : a = b <;> simp [z]
  · intro a b ha hb
    rcases ha with rfl | rfl <;> rcases hb with rfl | rfl <;> decide
/-- the zeros of an octet -/
def zO (n : Nat) : Int := 8 - (([n / 128 % 2, n / 64 % 2, n / 32 % 2, n / 16 % 2, n / 8 % 2, n / 4 % 2, n / 2 % 2, n / 1 % 2].count 1 : Nat) : Int)
theorem zO_eq : ∀ n : Nat, n < 256 → zO n = (((bitsOf (n : Int)).count 0 : Nat) : Int) := by decide +kernel
theorem zO_sum : ∀ os : List Int, Oct os → (os.map fun o => zO o.toNat).sum = zc (bitsL os)
  | [], _ => rfl
  | o :: os, h => by
    have r := zO_sum os fun x hx => h x (List.mem_cons_of_mem _ hx)
    have ho := h o (List.mem_cons_self ..)
    obtain ⟨n, rfl⟩ := nat_of ho.1
    rw [List.map_cons, List.sum_cons, r, Int.toNat_natCast, zO_eq n (by omega), bitsL_cons]
    unfold zc
    rw [List.count_append]
    omega
theorem ty_int (K : PySem.W.Frag) (H : Hp) (i : Int) : TyX K H (.int i) (.type "int") := .base (.int i)
theorem bitAnd_nn (a b : Nat) : Builtin.bitAnd (a : Int) (b : Int) = ((a &&& b : Nat) : Int) := by
  rw [bitAnd_pp (by omega) (by omega)]
  rfl
theorem worth_nat (j : Nat) : (128 : Int) / 2 ^ j = ((128 / 2 ^ j : Nat) : Int) := by
  simp
/-- at bit n of octets -/
theorem at_bit {xs : List Int} {n : Nat} (ox : Oct xs) (h : n < 8 * xs.length) : ∃ o : Nat, o < 256 ∧ xs[n / 8]? = some (o : Int) ∧ (bitsL xs)[n]? = (bitsOf (o : Int))[n % 8]? := by
  obtain ⟨x, hx⟩ := get_lt (l := xs) (i := n / 8) (by omega)
  have hm := ox x (List.mem_of_getElem? hx)
  obtain ⟨o, rfl⟩ := nat_of hm.1
  refine ⟨o, by omega, hx, ?_⟩
  have e := bitsL_get xs (n / 8) (n % 8) (by omega)
  rw [hx] at e
  have e2 : 8 * (n / 8) + n % 8 = n := by omega
  rw [e2] at e
  exact e
theorem both_at {g : Int → Int → Int} {xs ys : List Int} {i : Nat} {x y u : V} (hx : (IV xs)[i]? = some x) (hy : (IV ys)[i]? = some y) (hu : (IV (both g xs ys))[i]? = some u) : ∃ m n : Int, x = .int m ∧ y = .int n ∧ u = .int (g m n) := by
  obtain ⟨m, hm, rfl⟩ := iv_get hx
  obtain ⟨n, hn, rfl⟩ := iv_get hy
  obtain ⟨k, hk, rfl⟩ := iv_get hu
  obtain ⟨m', n', hm', hn', rfl⟩ := both_get hk
  rw [hm] at hm'
  rw [hn] at hn'
  cases hm'
  cases hn'
  exact ⟨_, _, rfl, rfl, rfl⟩
theorem bitXor_nn (a b : Nat) : Builtin.bitXor (a : Int) (b : Int) = ((a ^^^ b : Nat) : Int) := by
  rw [Bits.bitXor_pp (by omega) (by omega)]
  rfl
/-- one unlike bit on -/
theorem one_turn {os done as' bs' U : List Int} {m : Int} {i : Nat} {p : Int} {rest : List Int} (ho : Oct os) (hb : bitsL os = done ++ as') (bb : Bit bs') (hl : as'.length = bs'.length) (hu : diffL (done.length : Int) as' bs' = p :: rest) :
    ∃ (n o : Nat) (x y : Int) (pre as2 bs2 : List Int), p = (n : Int) ∧ o < 256 ∧ os[n / 8]? = some (o : Int) ∧ n / 8 < os.length ∧ as'.length = pre.length + 1 + as2.length ∧ as2.length = bs2.length ∧ Bit bs2 ∧
      (∀ m, turned as' bs' m = pre ++ (if m % 2 = 1 then y else x) :: turned as2 bs2 (m / 2)) ∧ rest = diffL ((done.length + pre.length + 1 : Nat) : Int) as2 bs2 ∧ bitsL os = (done ++ pre ++ [x]) ++ as2 ∧
      Oct (os.set (n / 8) ((o ^^^ (128 / 2 ^ (n % 8)) : Nat) : Int)) ∧ bitsL (os.set (n / 8) ((o ^^^ (128 / 2 ^ (n % 8)) : Nat) : Int)) = (done ++ pre ++ [y]) ++ as2 := by
  obtain ⟨pre, x, y, as2, bs2, h1, h2, h3, h4, h5, h6, h7⟩ := diff_at as' bs' _ p rest hl hu
  have lb := bitsL_len os
  have hn : done.length + pre.length < 8 * os.length := by
    rw [← lb, hb, h1]
    simp
  obtain ⟨o, o1, o2, o3⟩ := at_bit ho hn
  have bx : (bitsL os)[done.length + pre.length]? = some x := by
    rw [hb, h1, List.getElem?_append_right (by omega), Nat.add_sub_cancel_left, List.getElem?_append_right (by omega)]
    simp
  have bx2 : (bitsOf (o : Int))[(done.length + pre.length) % 8]? = some x := by rw [← o3]; exact bx
  have hx : x = 0 ∨ x = 1 := bitsL_bit os x (List.mem_of_getElem? bx)
  have hy : y = 0 ∨ y = 1 := bb y (by rw [h2]; simp)
  have yx : y = 1 - x := by omega
  obtain ⟨t1, t2⟩ := bit_turn o o1 ((done.length + pre.length) % 8) (by omega)
  have gd : (bitsOf (o : Int)).getD ((done.length + pre.length) % 8) 0 = x := by rw [List.getD_eq_getElem?_getD, bx2]; rfl
  rw [gd, ← yx] at t2
  have st := bitsL_set os ((done.length + pre.length) / 8) ((done.length + pre.length) % 8) _ _ _ (by omega) o2 t2
  have e8 : 8 * ((done.length + pre.length) / 8) + (done.length + pre.length) % 8 = done.length + pre.length := by omega
  rw [e8] at st
  refine ⟨done.length + pre.length, o, x, y, pre, as2, bs2, by rw [h4]; simp, o1, o2, by omega, by rw [h1]; simp; omega, h6, fun b hbm => bb b (by rw [h2]; simp [hbm]), h7, by rw [h5, h4]; congr 1, ?_, ?_, ?_⟩
  · rw [hb, h1]
    simp
  · intro z hz
    rcases List.mem_or_eq_of_mem_set hz with z1 | z1
    · exact ho z z1
    · omega
  · rw [st, hb, h1, List.append_assoc, List.append_assoc, List.set_append_right _ _ (by omega), Nat.add_sub_cancel_left]
    congr 1
    rw [List.set_append_right _ _ (Nat.le_refl _), Nat.sub_self]
    rfl
theorem Sv.tupOf {H : Hp} {a : Addr} {xs : List V} {t : Bool} {Q : VK} (S : Sv t K H a xs) (q : ∀ p H', Evl.Ex H H' → SqT K H' p xs → Q (.ref p) H') : rTupI K [.ref a] H Q := by
  unfold rTupI
  cases t with
  | false => exact ⟨a, xs, rfl, .inl ⟨S, fun l hl => q l _ (Evl.Ex.new hl) (SqT.of upd_same)⟩⟩
  | true => exact ⟨a, xs, rfl, .inr ⟨S, q a H (Evl.Ex.refl _) S⟩⟩
theorem Sv.listOf {H : Hp} {a : Addr} {xs : List V} {t : Bool} {Q : VK} (S : Sv t K H a xs) (q : ∀ p, H p = none → Q (.ref p) (upd H p (.lst xs))) : rListI K [.ref a] H Q := by
  unfold rListI
  exact ⟨a, xs, rfl, S.either, q⟩
theorem test_false {c : TT} {t u : TS} {D : Ends} {σ : L2.St} {H : Hp} (hc : ∀ Q' : Bool → Hp → Prop, (∀ H1, Evl.Ex H H1 → Q' false H1) → c σ H Q') (hu : ∀ H1, Evl.Ex H H1 → u D σ H1) : tIfI c t u D σ H := by
  unfold tIfI
  exact hc _ fun H1 e => iteF (hu H1 e)
theorem mem3 {w p q r : Int} {A B : Prop} (h1 : (w = p ∨ w = q ∨ w = r) → A) (h2 : B) : if (if false = true then !inV (V.int w) [.int p, .int q, .int r] else inV (V.int w) [.int p, .int q, .int r]) = true then A else B := by
  have e : (if false = true then !inV (V.int w) [.int p, .int q, .int r] else inV (V.int w) [.int p, .int q, .int r]) = decide (w = p ∨ w = q ∨ w = r) := by
    simp [inV, eqV, Bool.beq_eq_decide_eq, eq_comm]
  rw [e]
  exact if_dec h1 fun _ => h2
theorem in3 (w p q r : Int) : inV (.int w) [.int p, .int q, .int r] = decide (w = p ∨ w = q ∨ w = r) := by
  simp [inV, eqV, Bool.beq_eq_decide_eq, eq_comm]
abbrev tn (xs ys : List Int) (m : Int) : List Int := octetsL (turned (bitsL xs) (bitsL ys) m)
theorem tn_spec {xs ys : List Int} (m : Int) (hl : xs.length = ys.length) : bitsL (tn xs ys m) = turned (bitsL xs) (bitsL ys) m ∧ Oct (tn xs ys m) ∧ (tn xs ys m).length = xs.length := by
  have lx := bitsL_len xs
  have ly := bitsL_len ys
  have l := turned_len (bitsL xs) (bitsL ys) m (by omega)
  exact octetsL_spec (by omega) (turned_bit _ _ m (bitsL_bit xs) (bitsL_bit ys))
theorem sm_oct {xs : List Int} (h : Oct xs) : Sm xs := fun n hn => by
  have := h n hn
  omega
theorem ex_b {a : Addr} {H0 H H' : Hp} (e : Evl.Ex H0 H) (h : H0 a = none) (x : Exb a H H') : Evl.Ex H0 H' := fun b o q => x b o (fun z => by rw [z, h] at q; cases q) (e b o q)
theorem same_eq {x : V} {A B : Prop} (h : A) : if decide (x = x) = true then A else B := by
  rw [decide_eq_true rfl]
  exact iteT h
theorem ones_ok {k : Nat} (h : k ≤ 4096) : 0 ≤ (2 : Int) ^ k - 1 ∧ (2 : Int) ^ k - 1 < MM := by
  have p := pow_nn k
  have q : (2 : Int) ^ k ≤ MM := pow_mono h
  omega
theorem same_v {x y : V} {A B : Prop} (e : x = y) (h : B) : if (!decide (x = y)) = true then A else B := by
  subst e
  exact same_ne h
theorem bits_rep (o b : Int) (h : bitsOf o = List.replicate 8 b) : ∀ c : Nat, bitsL (List.replicate c o) = List.replicate (8 * c) b
  | 0 => rfl
  | c + 1 => by
    rw [List.replicate_succ, bitsL_cons, bits_rep o b h c, h, List.replicate_append_replicate]
    congr 1
    omega
theorem bits_ones (c : Nat) : bitsL (List.replicate c 255) = List.replicate (8 * c) 1 := bits_rep 255 1 (by decide) c
theorem bits_none (c : Nat) : bitsL (List.replicate c 0) = List.replicate (8 * c) 0 := bits_rep 0 0 (by decide) c
theorem oct_0 (c : Nat) : Oct (List.replicate c 0) := fun o h => by rw [List.eq_of_mem_replicate h]; omega
theorem zc_ones (n : Nat) : zc (List.replicate n 1) = 0 := by
  unfold zc
  rw [List.count_replicate]
  rfl
theorem zc_none (n : Nat) : zc (List.replicate n 0) = n := by
  unfold zc
  rw [List.count_replicate_self]
theorem le_rep : ∀ n : Nat, Le (List.replicate n 0) (List.replicate n 1)
  | 0 => Le.refl _
  | n + 1 => by
    rw [List.replicate_succ, List.replicate_succ]
    have := le_rep n
    simp [Le, this]
theorem fallen_rep : ∀ (n : Nat) (k : Int), fallenL k (List.replicate n 1) (List.replicate n 0) = (List.range n).map fun (i : Nat) => k + (i : Int)
  | 0, k => rfl
  | n + 1, k => by
    rw [List.replicate_succ, List.replicate_succ, fallenL, if_pos ⟨rfl, rfl⟩, fallen_rep n (k + 1), List.range_succ_eq_map, List.map_cons, List.map_map]
    congr 1
    · simp
    · apply List.map_congr_left
      intro i _
      simp
      omega
theorem due_long {c n : Nat} {dd : List Int} (hn : n = 512) (h : n ≤ c) (hd : dd = List.replicate n 0 ++ List.replicate (c - n) 255) : octetsL (turned (bitsL (List.replicate c 255)) (bitsL (List.replicate c 0)) (2 ^ 4096 - 1)) = dd := by
  subst hd
  have n8 : 4096 = 8 * n := by omega
  rw [n8]
  clear n8 hn
  have e : 8 * c = 8 * n + 8 * (c - n) := by omega
  rw [bits_ones, bits_none, e, turned_first]
  have e2 : List.replicate (8 * n) (0 : Int) ++ List.replicate (8 * (c - n)) 1 = bitsL (List.replicate n 0 ++ List.replicate (c - n) 255) := by
    rw [bitsL_append, bits_none, bits_ones]
  rw [e2, octetsL_bitsL]
  intro o ho
  rcases List.mem_append.mp ho with z | z
  · exact oct_0 _ o z
  · exact oct_255 _ o z
theorem rep_flat (k : Nat) (o : Int) : (List.replicate k [V.int o]).flatten = IV (List.replicate k o) := by
  rw [iv_rep]
  simp
/-- (o,) * k -/
theorem mulT1 {H : Hp} {t : Addr} {k o : Int} {Q : VK} (S : SqT K H t [V.int o]) (h1 : 1 ≤ k) (h2 : k ≤ 1000) (q : ∀ (n : Nat) p H', (n : Int) = k → Evl.Ex H H' → SqT K H' p (IV (List.replicate n o)) → Q (.ref p) H') : rMulU1 K (.ref t) (.int k) H Q := by
  unfold rMulU1
  by_cases e : k = 1
  · subst e
    exact .inr ⟨t, _, rfl, rfl, S, q 1 t H rfl (Evl.Ex.refl _) S⟩
  · refine .inl (.inr (.inr ⟨t, k, _, rfl, rfl, S, by simp, by omega, h2, by simp, fun p hp => q k.toNat p _ (by omega) (Evl.Ex.new hp) ?_⟩))
    rw [rep_flat]
    exact SqT.of upd_same
theorem mulL1 {H : Hp} {t : Addr} {k o : Int} {Q : VK} (S : H t = some (.lst [V.int o])) (h1 : 1 ≤ k) (h2 : k ≤ 1000) (q : ∀ (n : Nat) p H', (n : Int) = k → H p = none → Evl.Ex H H' → H' p = some (.lst (IV (List.replicate n o))) → Q (.ref p) H') : rMulU1 K (.ref t) (.int k) H Q := by
  unfold rMulU1
  refine .inl (.inr (.inl ⟨t, _, _, rfl, rfl, S, by omega, by omega, ?_, fun p hp => q k.toNat p _ (by omega) hp (Evl.Ex.new hp) ?_⟩))
  · exact Evl.sz_of (by simp; omega)
  · rw [upd_same, rep_flat]
theorem mulI1 {H : Hp} {i j : Int} {Q : VK} (c : CMulX i j) (q : Q (.int (i * j)) H) : rMulU1 K (.int i) (.int j) H Q := by
  unfold rMulU1
  exact .inl (.inl ⟨i, j, rfl, rfl, c, q⟩)
theorem rg_iv (n : Nat) : rgV 0 (n : Int) = IV ((List.range n).map fun (i : Nat) => (0 : Int) + (i : Int)) := by
  have e : ((n : Int) - 0).toNat = n := by omega
  have e2 : ∀ l : List Int, IV l = l.map V.int := fun _ => rfl
  unfold rgV
  rw [e, e2, List.map_map]
  rfl
end
end VB
namespace K09
open PySem PySem.Spec PyProof.Rows L2 VB
def top (i : Nat) : Stmt := PySem.Challenge.pw_onewaybits_k09_rests.main.body.getD i (.Pass ⟨0, 0, 0, 0⟩)
def mtop (i j : Nat) : Stmt := match top i with | .ClassDef _ _ _ b _ _ _ _ _ _ _ => b.getD j (.Pass ⟨0, 0, 0, 0⟩) | _ => .Pass ⟨0, 0, 0, 0⟩
abbrev s_is_list : Stmt := top 7
theorem sc_is_list : FnScope ["value"] ["value"] (defScope s_is_list) := ⟨rfl, rfl, rfl, by decide +kernel, rfl, by decide +kernel, by decide +kernel⟩
abbrev s_is_octets : Stmt := top 8
theorem sc_is_octets : FnScope ["value", "octet"] ["value"] (defScope s_is_octets) := ⟨rfl, rfl, rfl, by decide +kernel, rfl, by decide +kernel, by decide +kernel⟩
abbrev s_is_octets_of : Stmt := top 9
theorem sc_is_octets_of : FnScope ["value", "count"] ["value", "count"] (defScope s_is_octets_of) := ⟨rfl, rfl, rfl, by decide +kernel, rfl, by decide +kernel, by decide +kernel⟩
abbrev s_zero_bits : Stmt := top 12
theorem sc_zero_bits : FnScope ["octets", "octet"] ["octets"] (defScope s_zero_bits) := ⟨rfl, rfl, rfl, by decide +kernel, rfl, by decide +kernel, by decide +kernel⟩
abbrev s_sealed : Stmt := top 15
theorem sc_sealed : FnScope ["data"] ["data"] (defScope s_sealed) := ⟨rfl, rfl, rfl, by decide +kernel, rfl, by decide +kernel, by decide +kernel⟩
abbrev s_is_clean : Stmt := top 16
theorem sc_is_clean : FnScope ["value"] ["value"] (defScope s_is_clean) := ⟨rfl, rfl, rfl, by decide +kernel, rfl, by decide +kernel, by decide +kernel⟩
abbrev s_is_whole : Stmt := top 17
theorem sc_is_whole : FnScope ["value"] ["value"] (defScope s_is_whole) := ⟨rfl, rfl, rfl, by decide +kernel, rfl, by decide +kernel, by decide +kernel⟩
abbrev s_is_torn : Stmt := top 18
theorem sc_is_torn : FnScope ["value"] ["value"] (defScope s_is_torn) := ⟨rfl, rfl, rfl, by decide +kernel, rfl, by decide +kernel, by decide +kernel⟩
abbrev s_data_of : Stmt := top 19
theorem sc_data_of : FnScope ["octets"] ["octets"] (defScope s_data_of) := ⟨rfl, rfl, rfl, by decide +kernel, rfl, by decide +kernel, by decide +kernel⟩
abbrev s_data_told_by : Stmt := top 20
theorem sc_data_told_by : FnScope ["page", "data", "check"] ["page"] (defScope s_data_told_by) := ⟨rfl, rfl, rfl, by decide +kernel, rfl, by decide +kernel, by decide +kernel⟩
abbrev s_surplus : Stmt := top 21
theorem sc_surplus : FnScope ["octets"] ["octets"] (defScope s_surplus) := ⟨rfl, rfl, rfl, by decide +kernel, rfl, by decide +kernel, by decide +kernel⟩
abbrev s_is_rest : Stmt := top 22
theorem sc_is_rest : FnScope ["data", "value", "page", "octet", "due"] ["data", "value"] (defScope s_is_rest) := ⟨rfl, rfl, rfl, by decide +kernel, rfl, by decide +kernel, by decide +kernel⟩
abbrev s__is_page : Stmt := top 23
theorem sc__is_page : FnScope ["value"] ["value"] (defScope s__is_page) := ⟨rfl, rfl, rfl, by decide +kernel, rfl, by decide +kernel, by decide +kernel⟩
abbrev s__law_cell : Stmt := top 25
theorem sc__law_cell : FnScope ["_law_script", "_law_k"] ["_law_script", "_law_k"] (defScope s__law_cell) := ⟨rfl, rfl, rfl, by decide +kernel, rfl, by decide +kernel, by decide +kernel⟩
abbrev s__law_box : Stmt := top 26
theorem sc__law_box : FnScope ["_law_great"] ["_law_great"] (defScope s__law_box) := ⟨rfl, rfl, rfl, by decide +kernel, rfl, by decide +kernel, by decide +kernel⟩
abbrev s__law_take : Stmt := top 27
theorem sc__law_take : FnScope ["_law_box_here", "_law_many", "_law_digit", "_law_mixed"] ["_law_box_here", "_law_many"] (defScope s__law_take) := ⟨rfl, rfl, rfl, by decide +kernel, rfl, by decide +kernel, by decide +kernel⟩
abbrev s__law_zeros : Stmt := top 28
theorem sc__law_zeros : FnScope ["_law_octets", "_law_found", "_law_octet", "_law_worth"] ["_law_octets"] (defScope s__law_zeros) := ⟨rfl, rfl, rfl, by decide +kernel, rfl, by decide +kernel, by decide +kernel⟩
abbrev s__law_drawn : Stmt := top 29
theorem sc__law_drawn : FnScope ["_law_box_here", "_law_count", "_law_k"] ["_law_box_here", "_law_count"] (defScope s__law_drawn) := ⟨rfl, rfl, rfl, by decide +kernel, rfl, by decide +kernel, by decide +kernel⟩
abbrev s__law_one_bit : Stmt := top 30
theorem sc__law_one_bit : FnScope ["_law_at", "_law_worth"] ["_law_at", "_law_worth"] (defScope s__law_one_bit) := ⟨rfl, rfl, rfl, by decide +kernel, rfl, by decide +kernel, by decide +kernel⟩
abbrev s__law_mask : Stmt := top 31
theorem sc__law_mask : FnScope ["_law_box_here", "_law_way", "_law_one", "_law_two", "_law_at"] ["_law_box_here"] (defScope s__law_mask) := ⟨rfl, rfl, rfl, by decide +kernel, rfl, by decide +kernel, by decide +kernel⟩
abbrev s__law_moved : Stmt := top 32
theorem sc__law_moved : FnScope ["_law_page_here", "_law_mask_here", "_law_aim", "_law_at", "_law_octet"] ["_law_page_here", "_law_mask_here", "_law_aim"] (defScope s__law_moved) := ⟨rfl, rfl, rfl, by decide +kernel, rfl, by decide +kernel, by decide +kernel⟩
abbrev s__law_data : Stmt := top 33
theorem sc__law_data : FnScope ["_law_box_here", "_law_way", "_law_found", "_law_k"] ["_law_box_here"] (defScope s__law_data) := ⟨rfl, rfl, rfl, by decide +kernel, rfl, by decide +kernel, by decide +kernel⟩
abbrev s__law_page : Stmt := top 34
theorem sc__law_page : FnScope ["_law_data_here"] ["_law_data_here"] (defScope s__law_page) := ⟨rfl, rfl, rfl, by decide +kernel, rfl, by decide +kernel, by decide +kernel⟩
abbrev s__law_other : Stmt := top 35
theorem sc__law_other : FnScope ["_law_box_here", "_law_data_here", "_law_found", "_law_at"] ["_law_box_here", "_law_data_here"] (defScope s__law_other) := ⟨rfl, rfl, rfl, by decide +kernel, rfl, by decide +kernel, by decide +kernel⟩
abbrev s__law_is_rest : Stmt := top 36
theorem sc__law_is_rest : FnScope ["_law_data_here", "_law_page_here", "_law_whole", "_law_at"] ["_law_data_here", "_law_page_here"] (defScope s__law_is_rest) := ⟨rfl, rfl, rfl, by decide +kernel, rfl, by decide +kernel, by decide +kernel⟩
abbrev s__law_spoilt : Stmt := top 37
theorem sc__law_spoilt : FnScope ["_law_box_here", "_law_whole", "_law_page_here", "_law_places", "_law_worths", "_law_at", "_law_worth"] ["_law_box_here", "_law_whole", "_law_page_here"] (defScope s__law_spoilt) := ⟨rfl, rfl, rfl, by decide +kernel, rfl, by decide +kernel, by decide +kernel⟩
abbrev s__law_handed : Stmt := top 38
theorem sc__law_handed : FnScope ["_law_box_here", "_law_octets"] ["_law_box_here", "_law_octets"] (defScope s__law_handed) := ⟨rfl, rfl, rfl, by decide +kernel, rfl, by decide +kernel, by decide +kernel⟩
abbrev s__law_rest_right : Stmt := top 39
theorem sc__law_rest_right : FnScope ["_law_box_here", "_law_data_here", "_law_page_here", "_law_due", "_law_one", "_law_two", "_law_kept"] ["_law_box_here", "_law_data_here", "_law_page_here"] (defScope s__law_rest_right) := ⟨rfl, rfl, rfl, by decide +kernel, rfl, by decide +kernel, by decide +kernel⟩
abbrev s__law_kind_right : Stmt := top 40
theorem sc__law_kind_right : FnScope ["_law_data_here", "_law_page_here", "_law_over", "_law_whole", "_law_told", "_law_plain"] ["_law_data_here", "_law_page_here"] (defScope s__law_kind_right) := ⟨rfl, rfl, rfl, by decide +kernel, rfl, by decide +kernel, by decide +kernel⟩
abbrev s__law_rests_right : Stmt := top 41
theorem sc__law_rests_right : FnScope ["_law_box_here", "_law_data_here", "_law_other_here", "_law_whole", "_law_page_here", "_law_k"] ["_law_box_here", "_law_data_here", "_law_other_here"] (defScope s__law_rests_right) := ⟨rfl, rfl, rfl, by decide +kernel, rfl, by decide +kernel, by decide +kernel⟩
abbrev s__law_unlike_right : Stmt := top 42
theorem sc__law_unlike_right : FnScope ["_law_box_here", "_law_data_here", "_law_other_here"] ["_law_box_here", "_law_data_here", "_law_other_here"] (defScope s__law_unlike_right) := ⟨rfl, rfl, rfl, by decide +kernel, rfl, by decide +kernel, by decide +kernel⟩
abbrev s__law_steps_right : Stmt := top 43
theorem sc__law_steps_right : FnScope ["_law_box_here", "_law_page_here", "_law_aim", "_law_here", "_law_k", "_law_there", "_law_lost", "_law_told"] ["_law_box_here", "_law_page_here", "_law_aim"] (defScope s__law_steps_right) := ⟨rfl, rfl, rfl, by decide +kernel, rfl, by decide +kernel, by decide +kernel⟩
abbrev s_law : Stmt := top 44
theorem sc_law : FnScope ["_law_script", "_law_k", "_law_box_here", "_law_data_here", "_law_other_here"] ["_law_script"] (defScope s_law) := ⟨rfl, rfl, rfl, by decide +kernel, rfl, by decide +kernel, by decide +kernel⟩
abbrev FnP (K : PySem.W.Frag) (x : Str) (st : Stmt) (f : Addr) (fd : FuncData) : Prop := FunD K x x (defArgs st) (defBody st) (defScope st) [] [] f fd
abbrev FnM (K : PySem.W.Frag) (m q : Str) (st : Stmt) (f : Addr) (fd : FuncData) : Prop := FunD K m q (defArgs st) (defBody st) (defScope st) [] [] f fd
structure Txt (K : PySem.W.Frag) (mg : Str → Option Value) : Prop where
  f_abs : mg "abs" = none
  f_all : mg "all" = none
  f_bool : mg "bool" = none
  f_enumerate : mg "enumerate" = none
  f_int : mg "int" = none
  f_isinstance : mg "isinstance" = none
  f_len : mg "len" = none
  f_list : mg "list" = none
  f_max : mg "max" = none
  f_min : mg "min" = none
  f_range : mg "range" = none
  f_repr : mg "repr" = none
  f_sum : mg "sum" = none
  f_tuple : mg "tuple" = none
  f_zip : mg "zip" = none
  g_DATA_OCTETS : ∃ t, mg "DATA_OCTETS" = some (.int 30 t)
  g_MOST_ZEROS : ∃ t, mg "MOST_ZEROS" = some (.int 240 t)
  g_PAGE_OCTETS : ∃ t, mg "PAGE_OCTETS" = some (.int 31 t)
  t_ZEROS_OF_HALF : ∀ H : Hp, SqT K H (He.ga K "ZEROS_OF_HALF") (List.map V.int [4, 3, 3, 2, 3, 2, 2, 1, 3, 2, 2, 1, 2, 1, 1, 0])
  g_ZEROS_OF_HALF : mg "ZEROS_OF_HALF" = some (.ref (He.ga K "ZEROS_OF_HALF"))
end K09
namespace K09
open PySem PySem.Spec PyProof.Rows L2 VB BM
section
variable {P : Program} {w : World} {K : PySem.W.Frag} {mg : Str → Option Value} {base : Heap} {f : Addr} {fd : FuncData}
def spTake : Sp := fun vs H Q _ => ∃ (a : Addr) (many n : Int), vs = [.ref a, .int many] ∧ Box H a n ∧ 0 < many ∧ many < 1000000 ∧ n < 100000000 ∧
  ∀ (r : Int) (H' : Hp), 0 ≤ r → r < many → Exb a H H' → Box H' a (n + 1) → Q (.int r) H'
theorem ok_take (T : Txt K mg) (F : FnP K "_law_take" s__law_take f fd) : Fg P w K mg base CX0 1 f fd ["_law_box_here", "_law_many"] spTake := by
  refine fg_of F sc__law_take (fun vs H Q E h => ?_) (fun cdv A outer s H vs Q E hr h => ⟨_, (PSs.nox (pss_cons (ps_if (PW.pt (pw_and (pt_tru (K := K) (pe_ix (u_ix (K := K)) (pv 0) pe_int (fun _ _ => rfl)) (by intro _; rfl)) (pw_and1 (pt_cmpR op_gt (pe_ix (u_ix (K := K)) (pv 0) pe_int (fun _ _ => rfl)) pe_int (nomark _)))))
  (pss_cons (ps_set (i := 2) sc__law_take.nd rfl (by first | exact Or.inl rfl | exact Or.inr rfl) (pe_op u_mod (pe_callTy call_int1 (by rfl) T.f_int (by decide +kernel) (pa_cons (pe_ix (u_ix (K := K)) (pv 0) pe_int (fun _ _ => rfl)) pa_nil)) (pv 1)))
  (pss_cons (ps_asg (pe_op u_fdiv (pe_ix (u_ix (K := K)) (pv 0) pe_int (fun _ _ => rfl)) (pv 1)) (pg_sub (pv 0) pe_int set_list))
  (pss_one (ps_ret (pv 2))))) pss_nil)
  (pss_cons (ps_asg (pe_op (u_add (K := K)) (pe_ix (u_ix (K := K)) (pv 0) pe_int (fun _ _ => rfl)) pe_int) (pg_sub (pv 0) pe_int set_list))
  (pss_cons (ps_set (i := 3) sc__law_take.nd rfl (by first | exact Or.inl rfl | exact Or.inr rfl) (pe_op u_mod (pe_callTy call_int1 (by rfl) T.f_int (by decide +kernel) (pa_cons (pe_op op_pow (pe_op (u_add (K := K)) (pe_op (u_add (K := K)) (pe_ix (u_ix (K := K)) (pv 0) pe_int (fun _ _ => rfl)) (pe_op (u_mul (K := K)) pe_int (pe_ix (u_ix (K := K)) (pv 0) pe_int (fun _ _ => rfl)))) pe_int) pe_int) pa_nil)) pe_int))
  (pss_one (ps_ret (pe_op u_mod (pe_op u_fdiv (pe_op u_mod (pe_callTy call_int1 (by rfl) T.f_int (by decide +kernel) (pa_cons (pe_op op_pow (pe_op (u_add (K := K)) (pe_op (u_mul (K := K)) (pv 3) pe_int) (pe_op (u_mul (K := K)) pe_int (pe_ix (u_ix (K := K)) (pv 0) pe_int (fun _ _ => rfl)))) pe_int) pa_nil)) pe_int) pe_int) (pv 1)))))))), ?_⟩)
  · obtain ⟨a, many, n, rfl, _⟩ := h
    rfl
  · obtain ⟨a, many, n, rfl, ⟨d, m, c, b, hb, hd, hm, hm2, hc, hc2⟩, h1, h2, hn, q⟩ := h
    have S : SqL K H a [.int d, .bl b, .int m, .int c] := SqL.of hb
    -- the digits' way
    have A1 : b = true → 0 < d → Q (.int (d % many)) (upd H a (.lst [.int (d / many), .bl b, .int m, .int c])) := by
      intro _ _
      refine q _ _ (Int.emod_nonneg _ (by omega)) (Int.emod_lt_of_pos _ h1) Exb.upd ⟨d / many, m, c, b, upd_same, Int.ediv_nonneg hd (by omega), hm, hm2, hc, by omega⟩
    -- the mixed way
    have A2 : ∀ z : Int, Q (.int (z % many)) (upd H a (.lst [.int d, .bl b, .int m, .int (c + 1)])) := by
      intro z
      exact q _ _ (Int.emod_nonneg _ (by omega)) (Int.emod_lt_of_pos _ h1) Exb.upd ⟨d, m, c + 1, b, upd_same, hd, hm, hm2, by omega, by omega⟩
    have S1 : SqL K (upd H a (.lst [.int d, .bl b, .int m, .int (c + 1)])) a [.int d, .bl b, .int m, .int (c + 1)] := SqL.of upd_same
    have k1 : CMulX 15485867 (c + 1) := mulx_ok (a := 30) (b := 30) (by decide) (by show _ < 1073741824; omega) (by decide)
    have k2 : ∀ x : Int, 0 ≤ x → x < 2147483647 → CMulX x 48271 := fun x _ _ => mulx_ok (a := 32) (b := 20) (by show _ < 4294967296; omega) (by decide) (by decide)
    have k3 : CMulX 7919 (c + 1) := mulx_ok (a := 30) (b := 30) (by decide) (by show _ < 1073741824; omega) (by decide)
    have p1 : CPow (m + 15485867 * (c + 1) + 179425033) 5 := ⟨by decide, by decide, by show _ < 18446744073709551616; omega⟩
    have p2 : ∀ x : Int, 0 ≤ x → x < 2147483647 → CPow (x * 48271 + 7919 * (c + 1)) 3 := fun x _ _ => ⟨by decide, by decide, by show _ < 18446744073709551616; omega⟩
    have nz1 : (0 : Int) < 2147483647 := by decide
    have nz2 : (0 : Int) < 2147483587 := by decide
    have cd64 : (0 : Int) < 64 ∧ (64 : Int) < 1073741824 := by decide
    have hx0 : ∀ z : Int, 0 ≤ z % 2147483647 ∧ z % 2147483647 < 2147483647 := by
      intro z
      exact ⟨Int.emod_nonneg _ (by decide), Int.emod_lt_of_pos _ (by decide)⟩
    refine ⟨_, rfl, .inl ⟨a, _, 1, _, rfl, rfl, S, rfl, b, rfl, ?_⟩⟩
    by_cases hbd : b = true ∧ 0 < d
    · obtain ⟨rfl, hd0⟩ := hbd
      refine iteT ⟨_, rfl, .inl ⟨a, _, 0, _, rfl, rfl, S, rfl, _, _, rfl, rfl, _, rfl, ?_⟩⟩
      rw [decide_eq_true hd0]
      refine iteT ⟨_, rfl, .inl ⟨a, _, 0, _, rfl, rfl, S, rfl, .inl ⟨_, rfl, _, rfl, _, _, rfl, rfl, h1, ?_⟩⟩⟩
      refine ⟨_, rfl, .inl ⟨a, _, 0, _, rfl, rfl, S, rfl, _, rfl, _, _, rfl, rfl, ⟨h1, by omega⟩, _, rfl, a, _, _, _, rfl, rfl, hb, rfl, ?_⟩⟩
      exact ⟨_, rfl, A1 rfl hd0⟩
    · apply once
      · intro rest
        cases b with
        | false => exact iteF (iteF rest)
        | true =>
          refine iteT ⟨_, rfl, .inl ⟨a, _, 0, _, rfl, rfl, S, rfl, _, _, rfl, rfl, _, rfl, ?_⟩⟩
          rw [decide_eq_false (fun z => hbd ⟨rfl, z⟩)]
          exact iteF rest
      refine ⟨_, rfl, .inl ⟨a, _, 3, _, rfl, rfl, S, rfl, .inl ⟨_, _, rfl, rfl, _, rfl, a, _, _, _, rfl, rfl, hb, rfl, ?_⟩⟩⟩
      refine ⟨_, rfl, .inl ⟨a, _, 2, _, rfl, rfl, S1, rfl, ?_⟩⟩
      refine ⟨_, rfl, .inl ⟨a, _, 3, _, rfl, rfl, S1, rfl, .inl ⟨_, _, rfl, rfl, k1, .inl ⟨_, _, rfl, rfl, .inl ⟨_, _, rfl, rfl, _, _, rfl, rfl, p1, .inl ⟨_, rfl, _, _, rfl, rfl, nz1, ?_⟩⟩⟩⟩⟩⟩
      refine ⟨_, rfl, .inl ⟨_, _, rfl, rfl, k2 _ (hx0 _).1 (hx0 _).2, ?_⟩⟩
      refine ⟨_, rfl, .inl ⟨a, _, 3, _, rfl, rfl, S1, rfl, .inl ⟨_, _, rfl, rfl, k3, .inl ⟨_, _, rfl, rfl, _, _, rfl, rfl, p2 _ (hx0 _).1 (hx0 _).2, .inl ⟨_, rfl, _, _, rfl, rfl, nz2, ?_⟩⟩⟩⟩⟩
      refine ⟨_, _, rfl, rfl, cd64, _, rfl, _, _, rfl, rfl, h1, ?_⟩
      exact A2 _
/-! ### cells and boxes -/
def spBox : Sp := fun vs H Q _ => ∃ g : Int, vs = [.int g] ∧ ∀ (p : Addr) (H' : Hp), H p = none → Evl.Ex H H' → Box H' p 0 → Q (.ref p) H'
theorem ok_box (T : Txt K mg) (F : FnP K "_law_box" s__law_box f fd) : Fg P w K mg base CX0 1 f fd ["_law_great"] spBox := by
  refine fg_of F sc__law_box (fun vs H Q E h => ?_) (fun cdv A outer s H vs Q E hr h => ⟨_, (PSs.nox (pss_one (ps_ret (pe_lst (pa_cons (pe_callB call_abs (by rfl) T.f_abs (by decide +kernel) (pa_cons (pv 0) pa_nil)) (pa_cons (pe_cmpR op_ge (pe_callB call_abs (by rfl) T.f_abs (by decide +kernel) (pa_cons (pv 0) pa_nil)) (pe_op op_pow pe_int pe_int) (nomark _)) (pa_cons (pe_op u_mod (pe_callTy call_int1 (by rfl) T.f_int (by decide +kernel) (pa_cons (pe_callB call_abs (by rfl) T.f_abs (by decide +kernel) (pa_cons (pv 0) pa_nil)) pa_nil)) pe_int) (pa_cons pe_int pa_nil)))))))), ?_⟩)
  · obtain ⟨g, rfl, _⟩ := h
    rfl
  · obtain ⟨g, rfl, q⟩ := h
    have nz : (0 : Int) < 2147483629 := by decide
    have hp : CPow 10 18 := ⟨by decide, by decide, by decide⟩
    refine ⟨_, rfl, _, rfl, _, rfl, _, rfl, _, _, rfl, rfl, hp, _, _, rfl, rfl, _, rfl, _, rfl, .inl ⟨_, rfl, _, _, rfl, rfl, nz, ?_⟩⟩
    refine ⟨by show 4 ≤ sizeLine; decide, fun p hp => q p _ hp (Evl.Ex.new hp) ⟨_, _, _, _, upd_same, ?_, ?_, ?_, by omega, by omega⟩⟩
    · split <;> omega
    · exact Int.emod_nonneg _ (by decide)
    · exact Int.emod_lt_of_pos _ (by decide)
def spCell (K : PySem.W.Frag) : Sp := fun vs H Q _ => ∃ (a : Addr) (ns : List Int) (k : Int), vs = [.ref a, .int k] ∧ SqL K H a (ns.map V.int) ∧ 0 ≤ k ∧ k ≤ 100 ∧ ns.length ≤ 1000 ∧
  ∀ (g : Int) (H' : Hp), Evl.Ex H H' → Q (.int g) H'
theorem ok_cell (T : Txt K mg) (F : FnP K "_law_cell" s__law_cell f fd) : Fg P w K mg base CX0 1 f fd ["_law_script", "_law_k"] (spCell K) := by
  refine fg_of F sc__law_cell (fun vs H Q E h => ?_) (fun cdv A outer s H vs Q E hr h => ⟨_, (PSs.nox (pss_one (ps_ret (pe_ifExp (pt_cmpR op_lt (pv 1) (pe_callB (u_len (K := K)) (by rfl) T.f_len (by decide +kernel) (pa_cons (pv 0) pa_nil)) (nomark _)) (pe_ix (u_ix (K := K)) (pv 0) (pv 1) (fun _ _ => rfl)) (pe_op (u_add (K := K)) (pe_op (u_mul (K := K)) pe_int (pv 1)) (pe_op u_mod (pe_callTy call_int1 (by rfl) T.f_int (by decide +kernel) (pa_cons (pe_callB (u_sum (K := K) rfl) (by rfl) T.f_sum (by decide +kernel) (pa_cons (pe_slice (u_sl (K := K)) (pv 0) po_none (po_some pe_int)) pa_nil)) pa_nil)) pe_int)))))), ?_⟩)
  · obtain ⟨a, ns, k, rfl, _⟩ := h
    rfl
  · obtain ⟨a, ns, k, rfl, S, k0, k1, hl, q⟩ := h
    have nz : (0 : Int) < 1000003 := by decide
    refine ⟨_, rfl, _, rfl, _, _, rfl, .inl ⟨_, S, rfl⟩, _, _, rfl, rfl, _, rfl, ?_⟩
    rw [List.length_map]
    refine ite2 (fun h => ?_) (fun h => ?_)
    · have h' : k < (ns.length : Int) := by simpa using h
      obtain ⟨j, rfl⟩ : ∃ j : Nat, k = j := ⟨k.toNat, by omega⟩
      have hj : j < ns.length := by omega
      refine ⟨_, rfl, _, rfl, .inl ⟨a, _, _, .int ns[j], rfl, rfl, S, ?_, q _ _ (Evl.Ex.refl _)⟩⟩
      rw [atI_nat]
      simp [hj]
    · have km : CMulX 7919 k := mulx_ok (a := 30) (b := 30) (by decide) (by show _ < 1073741824; omega) (by decide)
      have cut : ∃ ms : List Int, cutV (ns.map V.int) none (some 1) = ms.map V.int := ⟨(ns.drop _).take _, by unfold cutV; rw [← List.map_drop, ← List.map_take]⟩
      obtain ⟨ms, hms⟩ := cut
      refine ⟨_, rfl, .inl ⟨_, _, rfl, rfl, km, _, rfl, _, rfl, .inl ⟨a, _, rfl, S, fun p hp => ⟨p, ms, rfl, ?_, .inl ⟨_, rfl, _, _, rfl, rfl, nz, .inl ⟨_, _, rfl, rfl, q _ _ (Evl.Ex.new hp)⟩⟩⟩⟩⟩⟩
      rw [hms]
      exact SqL.of upd_same

end
end K09
namespace K09
open PySem PySem.Spec PyProof.Rows L2 VB BM
theorem zc_snoc_take (o u : Int) (j : Nat) (h : ws8[j]? = some u) : zc ((ws8.map fun u => o / u % 2).take (j + 1)) = zc ((ws8.map fun u => o / u % 2).take j) + (1 - o / u % 2) := by
  have e : ((ws8.map fun u => o / u % 2).take (j + 1)) = ((ws8.map fun u => o / u % 2).take j) ++ [o / u % 2] := by
    refine take_snoc ?_
    rw [List.getElem?_map, h]
    rfl
  rw [e]
  unfold zc
  rw [List.count_append]
  rcases Int.emod_two_eq (o / u) with z | z <;> rw [z] <;> simp
theorem zc_app (a b : List Int) : zc (a ++ b) = zc a + zc b := by
  unfold zc
  rw [List.count_append]
  omega
/-- a list as new, of octets -/
abbrev NewL (a : Addr) (n : Int) (H : Hp) (Q : VK) (ok : List Int → Prop) : Prop := ∀ (p : Addr) (H' : Hp) (xs : List Int), Oct xs → ok xs → p ≠ a → H p = none → Exb a H H' → Box H' a n → H' p = some (.lst (IV xs)) → Q (.ref p) H'
theorem oct_set {os : List Int} {i : Nat} {v : Int} (h : Oct os) (h0 : 0 ≤ v ∧ v ≤ 255) : Oct (os.set i v) := by
  intro z hz
  rcases List.mem_or_eq_of_mem_set hz with z1 | z1
  · exact h z z1
  · omega
theorem oct_app {a b : List Int} (h1 : Oct a) (h2 : Oct b) : Oct (a ++ b) := by
  intro o ho
  rcases List.mem_append.mp ho with z | z
  · exact h1 o z
  · exact h2 o z
theorem oct_rep {c : Nat} {o : Int} (h : 0 ≤ o ∧ o ≤ 255) : Oct (List.replicate c o) := fun z hz => by
  rw [List.eq_of_mem_replicate hz]
  exact h
theorem bit_up : ∀ o : Nat, o < 256 → ∀ j : Nat, j < 8 → (o / (128 / 2 ^ j) % 2 = 0 → o + 128 / 2 ^ j < 256) ∧ (o / (128 / 2 ^ j) % 2 = 1 → 128 / 2 ^ j ≤ o) := by decide +kernel
theorem ws8_at (j : Nat) (h : j < 8) : ws8[j]? = some ((128 / 2 ^ j : Nat) : Int) := by
  rcases j with _ | _ | _ | _ | _ | _ | _ | _ | j
  all_goals first | rfl | omega
section
variable {P : Program} {w : World} {K : PySem.W.Frag} {mg : Str → Option Value} {base : Heap} {f : Addr} {fd : FuncData}
/-- one value many times -/
theorem rep_l {H : Hp} {t : Addr} {k : Int} {o : Int} {Q : VK} (S : H t = some (.lst [V.int o])) (h1 : 0 ≤ k) (h2 : k ≤ 1000) (q : ∀ p, H p = none → Q (.ref p) (upd H p (.lst (IV (List.replicate k.toNat o))))) : rMulU K (.ref t) (.int k) H Q := by
  refine .inr (.inl ⟨t, k, _, rfl, rfl, S, by omega, by omega, ?_, fun p hp => ?_⟩)
  · exact Evl.sz_of (by simp; omega)
  · rw [rep_flat]
    exact q p hp
/-- two lists, one behind the other -/
theorem cat_l {H : Hp} {p r : Addr} {xs ys : List Int} {Q : VK} (h1 : H p = some (.lst (IV xs))) (h2 : H r = some (.lst (IV ys))) (hl : xs.length + ys.length ≤ 10000) (q : ∀ t, H t = none → Q (.ref t) (upd H t (.lst (IV (xs ++ ys))))) : rAddU K (.ref p) (.ref r) H Q := by
  refine .inr (.inl ⟨p, r, _, _, rfl, rfl, h1, h2, ?_, fun t ht => ?_⟩)
  · rw [iv_len, iv_len]
    exact Evl.sz_of (by omega)
  · have e : IV xs ++ IV ys = IV (xs ++ ys) := (List.map_append ..).symm
    rw [e]
    exact q t ht
def spLZ (K : PySem.W.Frag) : Sp := fun vs H Q _ => ∃ (a : Addr) (os : List Int) (t : Bool), vs = [.ref a] ∧ Sv t K H a (IV os) ∧ os.length ≤ 100 ∧ RV (.int (zc (bitsL os))) H Q
theorem ok_lzeros (T : Txt K mg) (F : FnP K "_law_zeros" s__law_zeros f fd) : Fg P w K mg base CX0 1 f fd ["_law_octets"] (spLZ K) := by
  refine fg_of F sc__law_zeros (fun vs H Q E h => ?_) (fun cdv A outer s H vs Q E hr h => ⟨_, (PSs.nox (pss_cons (ps_set (i := 1) sc__law_zeros.nd rfl (by first | exact Or.inl rfl | exact Or.inr rfl) pe_int)
  (pss_cons (ps_for PassesOwn.never rfl (pi_seq (K := K) (pv 0)) (pg_name (i := 2) sc__law_zeros.nd rfl (by first | exact Or.inl rfl | exact Or.inr rfl))
  (pss_one (ps_for PassesOwn.never rfl (pi_seq (K := K) (pe_lst (pa_cons pe_int (pa_cons pe_int (pa_cons pe_int (pa_cons pe_int (pa_cons pe_int (pa_cons pe_int (pa_cons pe_int (pa_cons pe_int pa_nil)))))))))) (pg_name (i := 3) sc__law_zeros.nd rfl (by first | exact Or.inl rfl | exact Or.inr rfl))
  (pss_one (ps_set (i := 1) sc__law_zeros.nd rfl (by first | exact Or.inl rfl | exact Or.inr rfl) (pe_op op_sub (pe_op (u_add (K := K)) (pv 1) pe_int) (pe_op u_mod (pe_op u_fdiv (pe_callTy call_int1 (by rfl) T.f_int (by decide +kernel) (pa_cons (pv 2) pa_nil)) (pv 3)) pe_int)))))))
  (pss_one (ps_ret (pv 1)))))), ?_⟩)
  · obtain ⟨a, os, t, rfl, _⟩ := h
    rfl
  · obtain ⟨a, os, t, rfl, S, hl, q⟩ := h
    have nz : (0 : Int) < 2 := by decide
    refine seq_var (t := t) rfl S fun J wk => ?_
    rw [iv_len] at wk
    refine for_it wk (fun i σ H' => ∃ v2 v3 : Option V, σ = [some (.ref a), some (.int (zc (bitsL (os.take i)))), v2, v3] ∧ Evl.Ex H H') ⟨_, _, rfl, Evl.Ex.refl _⟩ (fun i σ H' _ h => S.ex h.choose_spec.choose_spec.2) ?_ ?_
    · rintro i x σ H1 H2 hi ⟨v2, v3, rfl, e1⟩ ⟨rfl, hx⟩
      obtain ⟨o, ho, rfl⟩ := iv_get hx
      refine .inl ⟨by show 8 ≤ sizeLine; decide, fun p hp => ⟨p, rfl, ⟨_, SqL.of upd_same⟩, ?_⟩⟩
      refine for_it (walk_list (K := K) (a := p) (xs := IV ws8)) (fun j σ H' => ∃ v3 : Option V, σ = [some (.ref a), some (.int (zc (bitsL (os.take i)) + zc ((ws8.map fun u => o / u % 2).take j))), some (.int o), v3] ∧ Evl.Ex H H' ∧ H' p = some (.lst (IV ws8))) ⟨v3, ?_, e1.trans (Evl.Ex.new hp), upd_same⟩ (fun j σ H' _ h => SqL.of h.choose_spec.2.2) ?_ ?_
      · rw [List.take_zero, zc_nil, Int.add_zero]
        rfl
      · rintro j x σ H1' H2' hj ⟨v3', rfl, e2, hp2⟩ ⟨rfl, hx2⟩
        obtain ⟨u, hu, rfl⟩ := iv_get hx2
        obtain ⟨u1, u2⟩ := ws8_get hu
        refine ⟨_, rfl, .inl ⟨_, _, rfl, rfl, _, rfl, .inl ⟨_, rfl, _, rfl, _, _, rfl, rfl, ⟨by omega, by omega⟩, _, _, rfl, rfl, nz, _, _, rfl, rfl, ?_⟩⟩⟩
        refine ⟨some (.int u), ?_, e2, hp2⟩
        rw [zc_snoc_take o u j hu]
        have e : zc (bitsL (os.take i)) + zc ((ws8.map fun u => o / u % 2).take j) + 1 - o / u % 2 = zc (bitsL (os.take i)) + (zc ((ws8.map fun u => o / u % 2).take j) + (1 - o / u % 2)) := by omega
        rw [← e]
        rfl
      · rintro σ H3 ⟨v3', rfl, e3, hp3⟩
        refine ⟨some (.int o), v3', ?_, e3⟩
        have e8 : (ws8.map fun u => o / u % 2).take (IV ws8).length = bitsOf o := rfl
        rw [e8, take_snoc ho, bitsL_append, zc_app, bitsL_cons, bitsL_nil, List.append_nil]
    · rintro σ H' ⟨v2, v3, rfl, e1⟩
      rw [List.take_length]
      exact ⟨_, rfl, q H' e1⟩
/-! ### drawn octets -/
def spLD : Sp := fun vs H Q _ => ∃ (a : Addr) (c : Nat) (n : Int), vs = [.ref a, .int (c : Int)] ∧ Box H a n ∧ c ≤ 31 ∧ n < 90000000 ∧ NewL a (n + 31) H Q (fun xs => xs.length = c)
theorem ok_ldrawn (T : Txt K mg) (F : FnP K "_law_drawn" s__law_drawn f fd) (C__law_take : Cal P w K mg base CX0 1 "_law_take" ["_law_box_here", "_law_many"] spTake) : Fg P w K mg base CX0 2 f fd ["_law_box_here", "_law_count"] spLD := by
  refine fg_of F sc__law_drawn (fun vs H Q E h => ?_) (fun cdv A outer s H vs Q E hr h => ⟨_, (PSs.nox (pss_one (ps_ret (pe_lc (own := [("_law_k", 2)]) rfl sc__law_drawn.nd (pi_range1 rfl T.f_range (pa_cons (pv 1) pa_nil)) (blkOk_by (own := [("_law_k", 2)]) (N := ["_law_box_here", "_law_count", "_law_k"]) (sc := defScope s__law_drawn) (by decide +kernel)) (fun _ _ _ _ _ => (pg_name (i := 2) sc__law_drawn.nd rfl (by first | exact Or.inl rfl | exact Or.inr rfl))) (fun _ _ _ _ _ => pts_nil) (fun _ _ _ _ _ => (pe_cal C__law_take hr.le pass0 (pa_cons (pv 0) (pa_cons pe_int pa_nil)))))))), ?_⟩)
  · obtain ⟨a, c, n, rfl, _⟩ := h
    rfl
  · obtain ⟨a, c, n, rfl, B, hc, hn, q⟩ := h
    refine ⟨_, rfl, (c : Int), rfl, by omega, by omega, fun D hD => ?_⟩
    have nn : ((c : Int)).toNat = c := by omega
    have nD := B.at hD
    rw [nn]
    refine lc_range (lo := 0) (n := c) (fun i H' => i ≤ c ∧ Exb a H H' ∧ Box H' a (n + i) ∧ ∃ xs : List Int, xs.length = i ∧ Oct xs ∧ H' D = some (.lst (IV xs))) ⟨by omega, Exb.new hD, (B.ex (Evl.Ex.new hD)).le (by omega), [], rfl, fun _ h => (by cases h), upd_same⟩ ?_ ?_
    · rintro i H1 hi ⟨_, e1, B1, xs, lx, ox, hx⟩
      refine ⟨rfl, _, rfl, a, 256, n + i, rfl, B1, by omega, by omega, by omega, fun r H2 r0 r1 e2 B2 => ⟨_, e2 D _ nD hx, by rw [iv_len, lx]; exact Evl.sz_lt (by omega), by omega, ?_, ?_, xs ++ [r], by simp [lx], oct_snoc ox r0 (by omega), by rw [upd_same, iv_snoc]⟩⟩
      · intro b o nb z
        have hb : b ≠ D := by
          rintro rfl
          rw [hD] at z
          cases z
        rw [upd_ne hb]
        exact e2 b o nb (e1 b o nb z)
      · obtain ⟨d, m', c', k, hb, r⟩ := B2
        exact ⟨d, m', c', k, by rw [upd_ne (Ne.symm nD)]; exact hb, r.1, r.2.1, r.2.2.1, r.2.2.2.1, by omega⟩
    · rintro H1 ⟨_, e1, B1, xs, lx, ox, hx⟩
      exact q D H1 xs ox lx nD hD e1 (B1.le (by omega)) hx
end
end K09
namespace K09
open PySem PySem.Spec PyProof.Rows L2 VB BM
theorem Box.mut {H : Hp} {a D : Addr} {n : Int} {o : HO} (B : Box H a n) (h : D ≠ a) : Box (upd H D o) a n := by
  obtain ⟨d, m, c, k, hb, r⟩ := B
  exact ⟨d, m, c, k, by rw [upd_ne (Ne.symm h)]; exact hb, r⟩
theorem Exb.mut {H0 H : Hp} {a D : Addr} {o : HO} (e : Exb a H0 H) (h : H0 D = none) : Exb a H0 (upd H D o) := by
  intro b u nb z
  have hb : b ≠ D := by
    rintro rfl
    rw [h] at z
    cases z
  rw [upd_ne hb]
  exact e b u nb z
theorem Exb.fresh {H H' : Hp} {a p : Addr} (e : Exb a H H') (h : H' p = none) (n : p ≠ a) : H p = none := by
  cases z : H p with
  | none => rfl
  | some o =>
    have := e p o n z
    rw [h] at this
    cases this
theorem Exb.refl (a : Addr) (H : Hp) : Exb a H H := fun _ _ _ e => e
theorem pick {xs : List Int} (h : Oct xs) {r : Int} (r0 : 0 ≤ r) (r1 : r < (xs.length : Int)) : ∃ v, 0 ≤ v ∧ v ≤ 255 ∧ atI (IV xs) r = some (.int v) := by
  obtain ⟨j, rfl⟩ : ∃ j : Nat, r = j := ⟨r.toNat, by omega⟩
  obtain ⟨v, hv⟩ := get_lt (l := xs) (i := j) (by omega)
  have := h v (List.mem_of_getElem? hv)
  exact ⟨v, this.1, this.2, iv_at hv⟩
theorem octs {xs : List Int} (h : (xs.all fun o => decide (0 ≤ o ∧ o ≤ 255)) = true) : Oct xs := fun o ho => by
  have := List.all_eq_true.mp h o ho
  simpa using this
section
variable {P : Program} {w : World} {K : PySem.W.Frag} {mg : Str → Option Value} {base : Heap} {f : Addr} {fd : FuncData}
def spDa : Sp := fun vs H Q _ => ∃ (a : Addr) (n : Int), vs = [.ref a] ∧ Box H a n ∧ n < 80000000 ∧ NewL a (n + 60) H Q (fun xs => xs.length = 30)
theorem ok_ldata (T : Txt K mg) (F : FnP K "_law_data" s__law_data f fd) (C__law_take : Cal P w K mg base CX0 1 "_law_take" ["_law_box_here", "_law_many"] spTake) (C__law_drawn : Cal P w K mg base CX0 2 "_law_drawn" ["_law_box_here", "_law_count"] spLD) : Fg P w K mg base CX0 3 f fd ["_law_box_here"] spDa := by
  refine fg_of F sc__law_data (fun vs H Q E h => ?_) (fun cdv A outer s H vs Q E hr h => ⟨_, (PSs.nox (pss_cons (ps_set (i := 1) sc__law_data.nd rfl (by first | exact Or.inl rfl | exact Or.inr rfl) (pe_cal C__law_take hr.le pass0 (pa_cons (pv 0) (pa_cons pe_int pa_nil))))
  (pss_cons (ps_if (pt_cmpR op_lt (pv 1) pe_int (nomark _))
  (pss_one (ps_ret (pe_ix (u_ix (K := K)) (pe_lst (pa_cons (pe_op (u_mul (K := K)) (pe_lst (pa_cons pe_int pa_nil)) pe_int) (pa_cons (pe_op (u_mul (K := K)) (pe_lst (pa_cons pe_int pa_nil)) pe_int) pa_nil))) (pv 1) (fun _ _ => rfl)))) pss_nil)
  (pss_cons (ps_if (pt_cmpR (u_eq (K := K) hr) (pv 1) pe_int (nomark _))
  (pss_one (ps_ret (pe_cal C__law_drawn hr.le pass0 (pa_cons (pv 0) (pa_cons pe_int pa_nil))))) pss_nil)
  (pss_cons (ps_if (pt_cmpR (u_eq (K := K) hr) (pv 1) pe_int (nomark _))
  (pss_one (ps_ret (pe_op (u_add (K := K)) (pe_lc (own := [("_law_k", 3)]) rfl sc__law_data.nd (pi_range1 rfl T.f_range (pa_cons pe_int pa_nil)) (blkOk_by (own := [("_law_k", 3)]) (N := ["_law_box_here", "_law_way", "_law_found", "_law_k"]) (sc := defScope s__law_data) (by decide +kernel)) (fun _ _ _ _ _ => (pg_name (i := 3) sc__law_data.nd rfl (by first | exact Or.inl rfl | exact Or.inr rfl))) (fun _ _ _ _ _ => pts_nil) (fun _ _ _ _ _ => (pe_cal C__law_take hr.le pass0 (pa_cons (pv 0) (pa_cons pe_int pa_nil))))) (pe_op (u_mul (K := K)) (pe_lst (pa_cons pe_int pa_nil)) pe_int)))) pss_nil)
  (pss_cons (ps_set (i := 2) sc__law_data.nd rfl (by first | exact Or.inl rfl | exact Or.inr rfl) (pe_op (u_mul (K := K)) (pe_lst (pa_cons pe_int pa_nil)) pe_int))
  (pss_cons (ps_for PassesOwn.never rfl (pi_range1 rfl T.f_range (pa_cons (pe_op (u_add (K := K)) pe_int (pe_cal C__law_take hr.le pass0 (pa_cons (pv 0) (pa_cons pe_int pa_nil)))) pa_nil)) (pg_name (i := 3) sc__law_data.nd rfl (by first | exact Or.inl rfl | exact Or.inr rfl))
  (pss_one (ps_asg (pe_ix (u_ix (K := K)) (pe_lst (pa_cons pe_int (pa_cons pe_int (pa_cons pe_int (pa_cons pe_int (pa_cons (pe_cal C__law_take hr.le pass0 (pa_cons (pv 0) (pa_cons pe_int pa_nil))) pa_nil)))))) (pe_cal C__law_take hr.le pass0 (pa_cons (pv 0) (pa_cons pe_int pa_nil))) (fun _ _ => rfl)) (pg_sub (pv 2) (pe_cal C__law_take hr.le pass0 (pa_cons (pv 0) (pa_cons pe_int pa_nil))) set_list))))
  (pss_one (ps_ret (pv 2)))))))))), ?_⟩)
  · obtain ⟨a, n, rfl, _⟩ := h
    rfl
  · obtain ⟨a, n, rfl, B, hn, q⟩ := h
    have r30 : ∀ o : Int, (List.replicate (30 : Int).toNat o).length = 30 := fun o => by rw [List.length_replicate]; rfl
    refine ⟨_, rfl, a, 7, n, rfl, B, by omega, by omega, by omega, fun way H1 p1 p2 e1 B1 => ?_⟩
    refine ⟨_, rfl, _, _, rfl, rfl, _, rfl, if_dec (fun h2 => ?_) (fun h2 => ?_)⟩
    · refine ⟨by show 1 ≤ sizeLine; decide, fun l0 n0 => rep_l (k := 30) upd_same (by omega) (by omega) fun l1 n1 => ?_⟩
      refine ⟨by show 1 ≤ sizeLine; decide, fun l2 n2 => rep_l (k := 30) upd_same (by omega) (by omega) fun l3 n3 => ?_⟩
      refine ⟨by show 2 ≤ sizeLine; decide, fun l4 n4 => ⟨_, rfl, ?_⟩⟩
      have x0 := Evl.Ex.new (o := .lst [V.int 255]) n0
      have x1 := Evl.Ex.new (o := .lst (IV (List.replicate (30 : Int).toNat 255))) n1
      have x2 := Evl.Ex.new (o := .lst [V.int 0]) n2
      have x3 := Evl.Ex.new (o := .lst (IV (List.replicate (30 : Int).toNat 0))) n3
      have x4 := Evl.Ex.new (o := .lst [V.ref l1, V.ref l3]) n4
      have h1 := x4 _ _ (x3 _ _ (x2 _ _ (upd_same (H := upd H1 l0 (.lst [V.int 255])) (a := l1) (o := .lst (IV (List.replicate (30 : Int).toNat 255))))))
      have h3 := x4 _ _ (upd_same (H := upd (upd (upd H1 l0 (.lst [V.int 255])) l1 (.lst (IV (List.replicate (30 : Int).toNat 255)))) l2 (.lst [V.int 0])) (a := l3) (o := .lst (IV (List.replicate (30 : Int).toNat 0))))
      have X := (((x0.trans x1).trans x2).trans x3).trans x4
      have m1 := Evl.fresh_back x0 n1
      have m3 := Evl.fresh_back ((x0.trans x1).trans x2) n3
      have c : way = 0 ∨ way = 1 := by omega
      rcases c with rfl | rfl
      · exact .inl ⟨l4, _, _, _, rfl, rfl, SqL.of upd_same, rfl, q l1 _ _ (oct_rep (by omega)) (r30 _) (B1.at m1) (Exb.fresh e1 m1 (B1.at m1)) (e1.trans (Exb.of X)) ((B1.ex X).le (by omega)) h1⟩
      · exact .inl ⟨l4, _, _, _, rfl, rfl, SqL.of upd_same, rfl, q l3 _ _ (oct_rep (by omega)) (r30 _) (B1.at m3) (Exb.fresh e1 m3 (B1.at m3)) (e1.trans (Exb.of X)) ((B1.ex X).le (by omega)) h3⟩
    refine ⟨_, rfl, .inl ⟨rfl, _, rfl, if_eq (fun h3 => ?_) (fun h3 => ?_)⟩⟩
    · refine ⟨_, rfl, a, 30, n + 1, rfl, B1, by omega, by omega, fun p H2 xs ox lx na np e2 B2 hp => ?_⟩
      exact q p H2 xs ox lx na (Exb.fresh e1 np na) (e1.trans e2) (B2.le (by omega)) hp
    refine ⟨_, rfl, .inl ⟨rfl, _, rfl, if_eq (fun h4 => ?_) (fun h4 => ?_)⟩⟩
    · refine ⟨12, rfl, by omega, by omega, fun D hD => ?_⟩
      have nD := B1.at hD
      refine lc_range (lo := 0) (n := 12) (fun i H' => i ≤ 12 ∧ Exb a H1 H' ∧ Box H' a (n + 1 + i) ∧ ∃ xs : List Int, xs.length = i ∧ Oct xs ∧ H' D = some (.lst (IV xs))) ⟨by omega, Exb.new hD, (B1.ex (Evl.Ex.new hD)).le (by omega), [], rfl, fun _ h => (by cases h), upd_same⟩ ?_ ?_
      · rintro i H2 hi ⟨_, e2, B2, xs, lx, ox, hx⟩
        exact ⟨rfl, _, rfl, a, 7, n + 1 + i, rfl, B2, by omega, by omega, by omega, fun r H3 r0 r1 e3 B3 => ⟨_, e3 D _ nD hx, by rw [iv_len, lx]; exact Evl.sz_lt (by omega), by omega, Exb.mut (e2.trans e3) hD, Box.mut (B3.le (by omega)) nD, xs ++ [r], by simp [lx], oct_snoc ox r0 (by omega), by rw [upd_same, iv_snoc]⟩⟩
      · rintro H2 ⟨_, e2, B2, xs, lx, ox, hx⟩
        refine ⟨by show 1 ≤ sizeLine; decide, fun l0 n0 => rep_l (k := 18) upd_same (by omega) (by omega) fun l1 n1 => ?_⟩
        have x0 := Evl.Ex.new (o := .lst [V.int 0]) n0
        have x1 := Evl.Ex.new (o := .lst (IV (List.replicate (18 : Int).toNat 0))) n1
        refine cat_l (x1 _ _ (x0 _ _ hx)) upd_same (by rw [lx, List.length_replicate]; decide) fun t nt => ?_
        have x2 := Evl.Ex.new (o := .lst (IV (xs ++ List.replicate (18 : Int).toNat 0))) nt
        have X := (x0.trans x1).trans x2
        have mt := Evl.fresh_back (x0.trans x1) nt
        have na := B2.at mt
        exact q t _ _ (oct_app ox (oct_rep (by omega))) (by show (xs ++ List.replicate (18 : Int).toNat 0).length = 30; rw [List.length_append, lx, List.length_replicate]; rfl) na (Exb.fresh (e1.trans e2) mt na) ((e1.trans e2).trans (Exb.of X)) ((B2.ex X).le (by omega)) upd_same
    -- mostly 255s
    refine ⟨by show 1 ≤ sizeLine; decide, fun l0 n0 => rep_l (k := 30) upd_same (by omega) (by omega) fun l n1 => ?_⟩
    have x0 := Evl.Ex.new (o := .lst [V.int 255]) n0
    have x1 := Evl.Ex.new (o := .lst (IV (List.replicate (30 : Int).toNat 255))) n1
    have nl := Evl.fresh_back x0 n1
    have na := B1.at nl
    have nH := Exb.fresh e1 nl na
    refine ⟨_, rfl, a, 5, n + 1, rfl, (B1.ex (x0.trans x1)), by omega, by omega, by omega, fun c H2 c0 c1 e2 B2 => .inl ⟨_, _, rfl, rfl, _, rfl, by omega, by omega, ?_⟩⟩
    have hl2 := e2 l _ na (upd_same (H := upd H1 l0 (.lst [V.int 255])) (a := l) (o := .lst (IV (List.replicate (30 : Int).toNat 255))))
    have E2 := (e1.trans (Exb.of (x0.trans x1))).trans e2
    refine for_range (lo := 0) (n := (1 + c).toNat) (fun i σ H' => ∃ (v : Option V) (xs : List Int), σ = [some (.ref a), some (.int way), some (.ref l), v] ∧ Exb a H H' ∧ Box H' a (n + 2 + 3 * i) ∧ i ≤ 5 ∧ H' l = some (.lst (IV xs)) ∧ Oct xs ∧ xs.length = 30)
      ⟨_, _, rfl, E2, B2.le (by omega), by omega, hl2, oct_rep (by omega), r30 _⟩ ?_ ?_
    · rintro i σ H3 hi ⟨v, xs, rfl, e3, B3, hi5, hl3, ox, lx⟩
      refine ⟨_, rfl, a, 256, n + 2 + 3 * i, rfl, B3, by omega, by omega, by omega, fun r1 H4 q1 q2 e4 B4 => ⟨by show 5 ≤ sizeLine; decide, fun p np => ?_⟩⟩
      have hp := Evl.Ex.new (o := .lst [V.int 254, .int 127, .int 0, .int 239, .int r1]) np
      have npa := B4.at np
      refine ⟨_, rfl, a, 5, n + 2 + 3 * i + 1, rfl, B4.ex hp, by omega, by omega, by omega, fun r2 H5 q3 q4 e5 B5 => ?_⟩
      have oo : Oct [254, 127, 0, 239, r1] := by
        intro o ho
        simp only [List.mem_cons, List.not_mem_nil, or_false] at ho
        omega
      obtain ⟨u, u0, u1, hu⟩ := pick oo q3 (by simpa using q4)
      refine .inl ⟨p, _, _, _, rfl, rfl, SqL.of (e5 p _ npa upd_same), hu, ?_⟩
      refine ⟨_, rfl, _, rfl, a, 30, n + 2 + 3 * i + 1 + 1, rfl, B5, by omega, by omega, by omega, fun r3 H6 q5 q6 e6 B6 => ?_⟩
      have hl6 := e6 l _ na (e5 l _ na (hp l _ (e4 l _ na hl3)))
      have E6 := (((e3.trans e4).trans (Exb.of hp)).trans e5).trans e6
      have h30 : r3.toNat < 30 := by omega
      have eix : ixN (IV xs).length r3 = some r3.toNat := by
        have := Evl.ixN_nat (n := (IV xs).length) (j := r3.toNat) (by rw [iv_len, lx]; exact h30)
        have e3' : ((r3.toNat : Nat) : Int) = r3 := by omega
        rw [e3'] at this
        exact this
      refine ⟨l, _, _, r3.toNat, rfl, rfl, hl6, eix, ?_⟩
      exact ⟨_, xs.set r3.toNat u, rfl, Exb.mut E6 nH, Box.mut (B6.le (by omega)) na, by omega, by rw [upd_same, ← List.map_set], oct_set ox ⟨u0, u1⟩, by rw [List.length_set]; exact lx⟩
    · rintro σ H3 ⟨v, xs, rfl, e3, B3, hi5, hl3, ox, lx⟩
      exact ⟨_, rfl, q l H3 xs ox lx na nH e3 (B3.le (by omega)) hl3⟩
end
end K09
namespace K09
open PySem PySem.Spec PyProof.Rows L2 VB BM
/-! ### bits within bits -/
def inO (o p : Nat) : Bool := o &&& p == o
theorem inO_ok : ∀ o : Nat, o < 256 → ∀ p : Nat, p < 256 → inO o p = true → o ≤ p ∧ zO p ≤ zO o ∧ (zO p = zO o → p = o) := by decide +kernel
end K09
namespace K09
open PySem PySem.Spec PyProof.Rows L2 VB BM
def oneB (n : Nat) (u : Int) : List Int := List.replicate n 0 ++ [u] ++ List.replicate (30 - n) 0
theorem oneB_len {n : Nat} {u : Int} (h : n ≤ 30) : (oneB n u).length = 31 := by
  unfold oneB
  simp
  omega
section
variable {P : Program} {w : World} {K : PySem.W.Frag} {mg : Str → Option Value} {base : Heap} {f : Addr} {fd : FuncData}
def spOB : Sp := fun vs H Q _ => ∃ (n : Nat) (u : Int), vs = [.int (n : Int), .int u] ∧ n ≤ 30 ∧ RL (IV (oneB n u)) H Q
theorem ok_onebit (T : Txt K mg) (F : FnP K "_law_one_bit" s__law_one_bit f fd) : Fg P w K mg base CX0 1 f fd ["_law_at", "_law_worth"] spOB := by
  refine fg_of F sc__law_one_bit (fun vs H Q E h => ?_) (fun cdv A outer s H vs Q E hr h => ⟨_, (PSs.nox (pss_one (ps_ret (pe_op (u_add (K := K)) (pe_op (u_add (K := K)) (pe_op (u_mul (K := K)) (pe_lst (pa_cons pe_int pa_nil)) (pv 0)) (pe_lst (pa_cons (pv 1) pa_nil))) (pe_op (u_mul (K := K)) (pe_lst (pa_cons pe_int pa_nil)) (pe_op op_sub pe_int (pv 0))))))), ?_⟩)
  · obtain ⟨n, u, rfl, _⟩ := h
    rfl
  · obtain ⟨n, u, rfl, hn, q⟩ := h
    refine ⟨by show 1 ≤ sizeLine; decide, fun l0 n0 => ⟨_, rfl, rep_l (k := n) upd_same (by omega) (by omega) fun l1 n1 => ?_⟩⟩
    have x0 := Evl.Ex.new (o := .lst [V.int 0]) n0
    have x1 := Evl.Ex.new (o := .lst (IV (List.replicate (n : Int).toNat 0))) n1
    have h1 := upd_same (H := upd H l0 (.lst [V.int 0])) (a := l1) (o := .lst (IV (List.replicate (n : Int).toNat 0)))
    refine ⟨_, rfl, by show 1 ≤ sizeLine; decide, fun l2 n2 => ?_⟩
    have x2 := Evl.Ex.new (o := .lst [V.int u]) n2
    have en : ((n : Int)).toNat = n := by omega
    rw [en] at x1 h1 x2 n2 ⊢
    refine cat_l (xs := List.replicate n 0) (ys := [u]) (x2 _ _ h1) upd_same (by simp; omega) fun l3 n3 => ?_
    have x3 := Evl.Ex.new (o := .lst (IV (List.replicate n 0 ++ [u]))) n3
    have h3 := upd_same (H := upd (upd (upd H l0 (.lst [V.int 0])) l1 (.lst (IV (List.replicate n 0)))) l2 (.lst [V.int u])) (a := l3) (o := .lst (IV (List.replicate n 0 ++ [u])))
    refine ⟨by show 1 ≤ sizeLine; decide, fun l4 n4 => ⟨_, rfl, _, _, rfl, rfl, rep_l (k := 30 - n) upd_same (by omega) (by omega) fun l5 n5 => ?_⟩⟩
    have x4 := Evl.Ex.new (o := .lst [V.int 0]) n4
    have x5 := Evl.Ex.new (o := .lst (IV (List.replicate (30 - (n : Int)).toNat 0))) n5
    refine cat_l (xs := List.replicate n 0 ++ [u]) (ys := List.replicate (30 - (n : Int)).toNat 0) (x5 _ _ (x4 _ _ h3)) upd_same (by simp; omega) fun l6 n6 => ?_
    have x6 := Evl.Ex.new (o := .lst (IV (List.replicate n 0 ++ [u] ++ List.replicate (30 - (n : Int)).toNat 0))) n6
    have X := ((((x0.trans x1).trans x2).trans x3).trans x4).trans x5
    have e : List.replicate n 0 ++ [u] ++ List.replicate (30 - (n : Int)).toNat 0 = oneB n u := by
      have : (30 - (n : Int)).toNat = 30 - n := by omega
      rw [this]
      rfl
    rw [← e] at q
    exact q l6 _ (Evl.fresh_back X n6) (X.trans x6) upd_same
def mvO (o m aim : Int) : Int := if aim = 1 then Builtin.bitOr o m else Builtin.bitAnd o (255 - m)
def mvL (os ms : List Int) (aim : Int) : List Int := both (fun o m => mvO o m aim) os ms
def spMv (K : PySem.W.Frag) : Sp := fun vs H Q _ => ∃ (a b : Addr) (os ms : List Int) (aim : Int), vs = [.ref a, .ref b, .int aim] ∧ SqL K H a (IV os) ∧ SqL K H b (IV ms) ∧ Oct os ∧ Oct ms ∧ os.length = 31 ∧ ms.length = 31 ∧ RL (IV (mvL os ms aim)) H Q
theorem ok_moved (T : Txt K mg) (F : FnP K "_law_moved" s__law_moved f fd) : Fg P w K mg base CX0 1 f fd ["_law_page_here", "_law_mask_here", "_law_aim"] (spMv K) := by
  refine fg_of F sc__law_moved (fun vs H Q E h => ?_) (fun cdv A outer s H vs Q E hr h => ⟨_, (PSs.nox (pss_one (ps_ret (pe_lc (own := [("_law_at", 3), ("_law_octet", 4)]) rfl sc__law_moved.nd (pi_enu (K := K) rfl T.f_enumerate (pa_cons (pv 0) pa_nil)) (blkOk_by (own := [("_law_at", 3), ("_law_octet", 4)]) (N := ["_law_page_here", "_law_mask_here", "_law_aim", "_law_at", "_law_octet"]) (sc := defScope s__law_moved) (by decide +kernel)) (fun _ _ _ _ _ => (pg_tupU (K := K) (n := 2) rfl (pgs_cons (pg_name (i := 3) sc__law_moved.nd rfl (by first | exact Or.inl rfl | exact Or.inr rfl)) (pgs_cons (pg_name (i := 4) sc__law_moved.nd rfl (by first | exact Or.inl rfl | exact Or.inr rfl)) pgs_nil)))) (fun _ _ _ _ _ => pts_nil) (fun _ _ _ _ _ => (pe_ifExp (pt_cmpR (u_eq (K := K) hr) (pv 2) pe_int (nomark _)) (pe_op op_or (pv 4) (pe_ix (u_ix (K := K)) (pv 1) (pv 3) (fun _ _ => rfl))) (pe_op op_and (pv 4) (pe_op op_sub pe_int (pe_ix (u_ix (K := K)) (pv 1) (pv 3) (fun _ _ => rfl)))))))))), ?_⟩)
  · obtain ⟨a, b, os, ms, aim, rfl, _⟩ := h
    rfl
  · obtain ⟨a, b, os, ms, aim, rfl, S, M, oo, om, lo, lm, q⟩ := h
    have L : (mvL os ms aim).length = 31 := by rw [← lo]; exact both_len (by omega)
    refine ⟨_, rfl, a, _, rfl, S, fun D hD => ?_⟩
    have wk := walk_enum (K := K) (a := a) (xs := IV os)
    rw [iv_len, lo] at wk
    refine lc_pureVZ (us := IV (mvL os ms aim)) wk (fun H' ex => Evl.ex_l ex S) (by rw [iv_len]; exact L) (by omega) hD (fun _ _ => rfl) ?_ ?_
    · intro i x y v H' Q' hx hy hv ex k
      cases hx
      obtain ⟨o, ho, rfl⟩ := iv_get hy
      obtain ⟨z, hz, rfl⟩ := iv_get hv
      obtain ⟨o', m, ho', hm, rfl⟩ := both_get hz
      rw [ho] at ho'
      cases ho'
      refine ⟨_, rfl, .inl ⟨rfl, _, rfl, if_eq (fun ha => ?_) (fun ha => ?_)⟩⟩
      · have e : mvO o m aim = Builtin.bitOr o m := if_pos ha
        rw [e] at k
        exact ⟨_, rfl, _, rfl, _, rfl, .inl ⟨b, _, _, _, rfl, rfl, Evl.ex_l ex M, iv_at hm, _, _, rfl, rfl, k _ (Evl.Ex.refl _)⟩⟩
      · have e : mvO o m aim = Builtin.bitAnd o (255 - m) := if_neg ha
        rw [e] at k
        exact ⟨_, rfl, _, rfl, _, rfl, .inl ⟨b, _, _, _, rfl, rfl, Evl.ex_l ex M, iv_at hm, _, _, rfl, rfl, _, _, rfl, rfl, k _ (Evl.Ex.refl _)⟩⟩
    · intro H' ex h3
      exact q D H' hD ex h3
def spPg (K : PySem.W.Frag) : Sp := fun vs H Q _ => ∃ (a : Addr) (os : List Int) (t : Bool), vs = [.ref a] ∧ Sv t K H a (IV os) ∧ os.length ≤ 40 ∧ RL (IV (os ++ [zc (bitsL os)])) H Q
theorem ok_page (T : Txt K mg) (F : FnP K "_law_page" s__law_page f fd) (C__law_zeros : Cal P w K mg base CX0 1 "_law_zeros" ["_law_octets"] (spLZ K)) : Fg P w K mg base CX0 2 f fd ["_law_data_here"] (spPg K) := by
  refine fg_of F sc__law_page (fun vs H Q E h => ?_) (fun cdv A outer s H vs Q E hr h => ⟨_, (PSs.nox (pss_one (ps_ret (pe_op (u_add (K := K)) (pe_callTy (u_list (K := K)) (by rfl) T.f_list (by decide +kernel) (pa_cons (pv 0) pa_nil)) (pe_lst (pa_cons (pe_cal C__law_zeros hr.le pass0 (pa_cons (pv 0) pa_nil)) pa_nil)))))), ?_⟩)
  · obtain ⟨a, os, t, rfl, _⟩ := h
    rfl
  · obtain ⟨a, os, t, rfl, S, hl, q⟩ := h
    refine ⟨_, rfl, a, _, rfl, S.either, fun l nl => ⟨_, rfl, a, os, t, rfl, S.ex (Evl.Ex.new nl), by omega, fun H1 e1 => ⟨by show 1 ≤ sizeLine; decide, fun l1 n1 => ?_⟩⟩⟩
    have e0 := Evl.Ex.new (o := .lst (IV os)) nl
    have e2 := Evl.Ex.new (o := .lst [V.int (zc (bitsL os))]) n1
    refine cat_l (xs := os) (ys := [zc (bitsL os)]) (e2 _ _ (e1 _ _ upd_same)) upd_same (by simp; omega) fun t nt => ?_
    have e3 := Evl.Ex.new (o := .lst (IV (os ++ [zc (bitsL os)]))) nt
    exact q t _ (Evl.fresh_back ((e0.trans e1).trans e2) nt) (((e0.trans e1).trans e2).trans e3) upd_same
def spHd (K : PySem.W.Frag) : Sp := fun vs H Q _ => ∃ (a b : Addr) (os : List Int) (n : Int), vs = [.ref a, .ref b] ∧ Box H a n ∧ b ≠ a ∧ H b = some (.lst (IV os)) ∧ n < 90000000 ∧ os.length ≤ 100 ∧
  ∀ (p : Addr) (t : Bool) (H' : Hp), p ≠ a → Exb a H H' → Box H' a (n + 1) → H' p = some (if t then .tup (IV os) else .lst (IV os)) → Q (.ref p) H'
theorem ok_handed (T : Txt K mg) (F : FnP K "_law_handed" s__law_handed f fd) (C__law_take : Cal P w K mg base CX0 1 "_law_take" ["_law_box_here", "_law_many"] spTake) : Fg P w K mg base CX0 2 f fd ["_law_box_here", "_law_octets"] (spHd K) := by
  refine fg_of F sc__law_handed (fun vs H Q E h => ?_) (fun cdv A outer s H vs Q E hr h => ⟨_, (PSs.nox (pss_one (ps_ret (pe_ifExp (pt_cmpR (u_eq (K := K) hr) (pe_cal C__law_take hr.le pass0 (pa_cons (pv 0) (pa_cons pe_int pa_nil))) pe_int (nomark _)) (pe_callTy (u_list (K := K)) (by rfl) T.f_list (by decide +kernel) (pa_cons (pv 1) pa_nil)) (pe_callTy (u_tup (K := K)) (by rfl) T.f_tuple (by decide +kernel) (pa_cons (pv 1) pa_nil)))))), ?_⟩)
  · obtain ⟨a, b, os, n, rfl, _⟩ := h
    rfl
  · obtain ⟨a, b, os, n, rfl, B, nb, hb, hn, hl, q⟩ := h
    refine ⟨_, rfl, a, 2, n, rfl, B, by omega, by omega, by omega, fun r H2 r0 r1 e2 B2 => .inl ⟨rfl, _, rfl, ?_⟩⟩
    have h2 := e2 b _ nb hb
    refine if_eq (fun _ => ?_) (fun _ => ?_)
    · exact ⟨_, rfl, b, _, rfl, .inl (SqL.of h2), fun z nz => q z false _ (B2.at nz) (e2.trans (Exb.new nz)) (B2.ex (Evl.Ex.new nz)) upd_same⟩
    · exact ⟨_, rfl, b, _, rfl, .inl ⟨SqL.of h2, fun z nz => q z true _ (B2.at nz) (e2.trans (Exb.new nz)) (B2.ex (Evl.Ex.new nz)) upd_same⟩⟩
end
end K09
namespace K09
open PySem PySem.Spec PyProof.Rows L2 VB BM
theorem zc_bound (bs : List Int) : 0 ≤ zc bs ∧ zc bs ≤ (bs.length : Int) := by
  have h : bs.count 0 ≤ bs.length := List.count_le_length
  unfold zc
  omega
theorem oct_oneB {n : Nat} {u : Int} (h : 0 ≤ u ∧ u ≤ 255) : Oct (oneB n u) :=
  oct_app (oct_app (oct_rep (by omega)) (fun z hz => by
    have : z = u := by simpa using hz
    omega)) (oct_rep (by omega))
theorem and_oct {x y : Int} (hx : 0 ≤ x ∧ x ≤ 255) (hy : 0 ≤ y ∧ y ≤ 255) : 0 ≤ Builtin.bitAnd x y ∧ Builtin.bitAnd x y ≤ 255 := by
  obtain ⟨a, rfl⟩ := nat_of hx.1
  obtain ⟨b, rfl⟩ := nat_of hy.1
  rw [VB.bitAnd_nn]
  have := Nat.and_le_left (n := a) (m := b)
  omega
theorem or_nn (a b : Nat) : Builtin.bitOr (a : Int) (b : Int) = ((a ||| b : Nat) : Int) := by
  rw [Bits.bitOr_pp (by omega) (by omega)]
  rfl
theorem or_oct {x y : Int} (hx : 0 ≤ x ∧ x ≤ 255) (hy : 0 ≤ y ∧ y ≤ 255) : 0 ≤ Builtin.bitOr x y ∧ Builtin.bitOr x y ≤ 255 := by
  obtain ⟨a, rfl⟩ := nat_of hx.1
  obtain ⟨b, rfl⟩ := nat_of hy.1
  rw [or_nn]
  have := Nat.or_lt_two_pow (n := 8) (x := a) (y := b) (by omega) (by omega)
  omega
theorem xor_oct {x y : Int} (hx : 0 ≤ x ∧ x ≤ 255) (hy : 0 ≤ y ∧ y ≤ 255) : 0 ≤ Builtin.bitXor x y ∧ Builtin.bitXor x y ≤ 255 := by
  obtain ⟨a, rfl⟩ := nat_of hx.1
  obtain ⟨b, rfl⟩ := nat_of hy.1
  rw [VB.bitXor_nn]
  have := Nat.xor_lt_two_pow (n := 8) (x := a) (y := b) (by omega) (by omega)
  omega
theorem oct_three {x y : Int} (hx : 0 ≤ x ∧ x ≤ 255) (hy : 0 ≤ y ∧ y ≤ 255) : Oct [x, Builtin.bitAnd x y, Builtin.bitOr x y] := by
  have h1 := and_oct hx hy
  have h2 := or_oct hx hy
  intro o ho
  simp only [List.mem_cons, List.not_mem_nil, or_false] at ho
  rcases ho with rfl | rfl | rfl
  · exact hx
  · exact h1
  · exact h2
theorem mvO_oct {aim x y : Int} (hx : 0 ≤ x ∧ x ≤ 255) (hy : 0 ≤ y ∧ y ≤ 255) : 0 ≤ mvO x y aim ∧ mvO x y aim ≤ 255 := by
  unfold mvO
  split
  · exact or_oct hx hy
  · exact and_oct hx (by omega)
theorem mvL_oct {aim : Int} {os ms : List Int} (ox : Oct os) (om : Oct ms) : Oct (mvL os ms aim) := both_oct ox om fun _ _ => mvO_oct
section
variable {P : Program} {w : World} {K : PySem.W.Frag} {mg : Str → Option Value} {base : Heap} {f : Addr} {fd : FuncData}
def spMk : Sp := fun vs H Q _ => ∃ (a : Addr) (n : Int), vs = [.ref a] ∧ Box H a n ∧ n < 80000000 ∧ NewL a (n + 70) H Q (fun xs => xs.length = 31)
theorem ok_mask (T : Txt K mg) (F : FnP K "_law_mask" s__law_mask f fd) (C__law_take : Cal P w K mg base CX0 1 "_law_take" ["_law_box_here", "_law_many"] spTake) (C__law_one_bit : Cal P w K mg base CX0 1 "_law_one_bit" ["_law_at", "_law_worth"] spOB)
    (C__law_drawn : Cal P w K mg base CX0 2 "_law_drawn" ["_law_box_here", "_law_count"] spLD) : Fg P w K mg base CX0 3 f fd ["_law_box_here"] spMk := by
  refine fg_of F sc__law_mask (fun vs H Q E h => ?_) (fun cdv A outer s H vs Q E hr h => ⟨_, (PSs.nox (pss_cons (ps_set (i := 1) sc__law_mask.nd rfl (by first | exact Or.inl rfl | exact Or.inr rfl) (pe_cal C__law_take hr.le pass0 (pa_cons (pv 0) (pa_cons pe_int pa_nil))))
  (pss_cons (ps_if (pt_cmpR (u_eq (K := K) hr) (pv 1) pe_int (nomark _))
  (pss_one (ps_ret (pe_op (u_mul (K := K)) (pe_lst (pa_cons pe_int pa_nil)) pe_int))) pss_nil)
  (pss_cons (ps_if (pt_cmpR (u_eq (K := K) hr) (pv 1) pe_int (nomark _))
  (pss_one (ps_ret (pe_cal C__law_one_bit hr.le pass0 (pa_cons (pe_cal C__law_take hr.le pass0 (pa_cons (pv 0) (pa_cons pe_int pa_nil))) (pa_cons (pe_ix (u_ix (K := K)) (pe_lst (pa_cons pe_int (pa_cons pe_int (pa_cons pe_int (pa_cons pe_int (pa_cons pe_int (pa_cons pe_int (pa_cons pe_int (pa_cons pe_int pa_nil))))))))) (pe_cal C__law_take hr.le pass0 (pa_cons (pv 0) (pa_cons pe_int pa_nil))) (fun _ _ => rfl)) pa_nil))))) pss_nil)
  (pss_cons (ps_asg (pe_tup (pa_cons (pe_cal C__law_drawn hr.le pass0 (pa_cons (pv 0) (pa_cons pe_int pa_nil))) (pa_cons (pe_cal C__law_drawn hr.le pass0 (pa_cons (pv 0) (pa_cons pe_int pa_nil))) pa_nil))) (pg_tupU (K := K) (n := 2) rfl (pgs_cons (pg_name (i := 2) sc__law_mask.nd rfl (by first | exact Or.inl rfl | exact Or.inr rfl)) (pgs_cons (pg_name (i := 3) sc__law_mask.nd rfl (by first | exact Or.inl rfl | exact Or.inr rfl)) pgs_nil))))
  (pss_one (ps_ret (pe_lc (own := [("_law_at", 4)]) rfl sc__law_mask.nd (pi_range1 rfl T.f_range (pa_cons pe_int pa_nil)) (blkOk_by (own := [("_law_at", 4)]) (N := ["_law_box_here", "_law_way", "_law_one", "_law_two", "_law_at"]) (sc := defScope s__law_mask) (by decide +kernel)) (fun _ _ _ _ _ => (pg_name (i := 4) sc__law_mask.nd rfl (by first | exact Or.inl rfl | exact Or.inr rfl))) (fun _ _ _ _ _ => pts_nil) (fun _ _ _ _ _ => (pe_ix (u_ix (K := K)) (pe_lst (pa_cons (pe_ix (u_ix (K := K)) (pv 2) (pv 4) (fun _ _ => rfl)) (pa_cons (pe_op op_and (pe_ix (u_ix (K := K)) (pv 2) (pv 4) (fun _ _ => rfl)) (pe_ix (u_ix (K := K)) (pv 3) (pv 4) (fun _ _ => rfl))) (pa_cons (pe_op op_or (pe_ix (u_ix (K := K)) (pv 2) (pv 4) (fun _ _ => rfl)) (pe_ix (u_ix (K := K)) (pv 3) (pv 4) (fun _ _ => rfl))) pa_nil)))) (pe_op op_sub (pv 1) pe_int) (fun _ _ => rfl))))))))))), ?_⟩)
  · obtain ⟨a, n, rfl, _⟩ := h
    rfl
  · obtain ⟨a, n, rfl, B, hn, q⟩ := h
    refine ⟨_, rfl, a, 5, n, rfl, B, by omega, by omega, by omega, fun way H1 p1 p2 e1 B1 => ?_⟩
    refine ⟨_, rfl, .inl ⟨rfl, _, rfl, if_eq (fun h => ?_) (fun h => ?_)⟩⟩
    · refine ⟨by show 1 ≤ sizeLine; decide, fun l0 n0 => rep_l (k := 31) upd_same (by omega) (by omega) fun l1 n1 => ?_⟩
      have x0 := Evl.Ex.new (o := .lst [V.int 255]) n0
      have x1 := Evl.Ex.new (o := .lst (IV (List.replicate (31 : Int).toNat 255))) n1
      have f1 := Evl.fresh_back x0 n1
      exact q l1 _ _ (oct_rep (by omega)) (by show (List.replicate (31 : Int).toNat (255 : Int)).length = 31; rw [List.length_replicate]; rfl) (B1.at f1) (Exb.fresh e1 f1 (B1.at f1)) (e1.trans (Exb.of (x0.trans x1))) ((B1.ex (x0.trans x1)).le (by omega)) upd_same
    refine ⟨_, rfl, .inl ⟨rfl, _, rfl, if_eq (fun h2 => ?_) (fun h2 => ?_)⟩⟩
    · refine ⟨_, rfl, a, 31, n + 1, rfl, B1, by omega, by omega, by omega, fun r H2 r0 r1 e2 B2 => ⟨by show 8 ≤ sizeLine; decide, fun p np => ?_⟩⟩
      obtain ⟨k, rfl⟩ : ∃ k : Nat, r = k := ⟨r.toNat, by omega⟩
      have xp := Evl.Ex.new (o := .lst (IV ws8)) np
      have npa := B2.at np
      refine ⟨_, rfl, a, 8, n + 2, rfl, (B2.ex xp).le (by omega), by omega, by omega, by omega, fun r2 H3 q0 q1 e3 B3 => ?_⟩
      obtain ⟨u, u0, u1, hu⟩ := pick (xs := ws8) (octs (by decide)) q0 (by simpa using q1)
      refine .inl ⟨p, _, _, _, rfl, rfl, SqL.of (e3 p _ npa upd_same), hu, k, u, rfl, by omega, fun p2 H4 np2 e4 hp2 => ?_⟩
      have E := ((e1.trans e2).trans (Exb.of xp)).trans e3
      exact q p2 H4 _ (oct_oneB ⟨u0, u1⟩) (oneB_len (by omega)) (B3.at np2) (Exb.fresh E np2 (B3.at np2)) (E.trans (Exb.of e4)) ((B3.ex e4).le (by omega)) hp2
    refine ⟨_, rfl, a, 31, n + 1, rfl, B1, by omega, by omega, fun p H2 xs ox lx na np e2 B2 hp => ⟨_, rfl, a, 31, n + 1 + 31, rfl, B2, by omega, by omega, fun p' H3 ys oy ly na' np' e3 B3 hp' => ⟨by show 2 ≤ sizeLine; decide, fun tp nt => ?_⟩⟩⟩
    have xt := Evl.Ex.new (o := .tup [V.ref p, .ref p']) nt
    have hx4 := xt _ _ (e3 _ _ na hp)
    have hy4 := xt _ _ hp'
    have E := ((e1.trans e2).trans e3).trans (Exb.of xt)
    have B4 := B3.ex xt
    refine ⟨tp, _, rfl, SqT.of upd_same, rfl, _, _, rfl, _, _, rfl, rfl, ?_⟩
    generalize upd H3 tp (.tup [V.ref p, .ref p']) = H4 at hx4 hy4 E B4 ⊢
    refine ⟨31, rfl, by omega, by omega, fun D hD => ?_⟩
    refine lc_range (lo := 0) (n := 31) (fun i H' => i ≤ 31 ∧ Evl.Ex H4 H' ∧ ∃ zs : List Int, zs.length = i ∧ Oct zs ∧ H' D = some (.lst (IV zs))) ⟨by omega, Evl.Ex.new hD, [], rfl, fun _ h => (by cases h), upd_same⟩ ?_ ?_
    · rintro i H5 hi ⟨_, e5, zs, lz, oz, hz⟩
      have lx' : xs.length = 31 := lx
      have ly' : ys.length = 31 := ly
      obtain ⟨x, hx⟩ := get_lt (l := xs) (i := i) (by omega)
      obtain ⟨y, hy⟩ := get_lt (l := ys) (i := i) (by omega)
      have bx := ox x (List.mem_of_getElem? hx)
      have by_ := oy y (List.mem_of_getElem? hy)
      obtain ⟨v, v0, v1, hv⟩ := pick (xs := [x, Builtin.bitAnd x y, Builtin.bitOr x y]) (oct_three bx by_) (r := way - 2) (by omega) (by show way - 2 < 3; omega)
      have e0 : (0 : Int) + (i : Int) = (i : Int) := Int.zero_add _
      rw [e0]
      refine ⟨rfl, ?_⟩
      have X : rIx K (.ref p) (.int (i : Int)) H5 = rIx K (.ref p) (.int (i : Int)) H5 := rfl
      refine ⟨_, rfl, _, rfl, .inl ⟨p, _, _, _, rfl, rfl, SqL.of (e5 _ _ hx4), iv_at hx, ?_⟩⟩
      refine ⟨_, rfl, _, rfl, .inl ⟨p, _, _, _, rfl, rfl, SqL.of (e5 _ _ hx4), iv_at hx, _, rfl, _, rfl, .inl ⟨p', _, _, _, rfl, rfl, SqL.of (e5 _ _ hy4), iv_at hy, _, _, rfl, rfl, ?_⟩⟩⟩
      refine ⟨_, rfl, _, rfl, .inl ⟨p, _, _, _, rfl, rfl, SqL.of (e5 _ _ hx4), iv_at hx, _, rfl, _, rfl, .inl ⟨p', _, _, _, rfl, rfl, SqL.of (e5 _ _ hy4), iv_at hy, _, _, rfl, rfl, ?_⟩⟩⟩
      refine ⟨by show 3 ≤ sizeLine; decide, fun t nt => ⟨_, rfl, _, _, rfl, rfl, .inl ⟨t, _, _, _, rfl, rfl, SqL.of upd_same, hv, ?_⟩⟩⟩
      have xn := Evl.Ex.new (o := .lst [V.int x, .int (Builtin.bitAnd x y), .int (Builtin.bitOr x y)]) nt
      refine ⟨_, xn D _ hz, by rw [iv_len, lz]; exact Evl.sz_lt (by omega), by omega, Evl.Ex.mut (e5.trans xn) hD, zs ++ [v], by simp [lz], oct_snoc oz v0 v1, by rw [upd_same, iv_snoc]⟩
    · rintro H5 ⟨_, e5, zs, lz, oz, hz⟩
      have nD := B4.at hD
      exact q D H5 zs oz lz nD (Exb.fresh E hD nD) (E.trans (Exb.of e5)) ((B4.ex e5).le (by omega)) hz
def spOt : Sp := fun vs H Q _ => ∃ (a d : Addr) (os : List Int) (n : Int), vs = [.ref a, .ref d] ∧ Box H a n ∧ d ≠ a ∧ H d = some (.lst (IV os)) ∧ Oct os ∧ os.length = 30 ∧ n < 70000000 ∧ NewL a (n + 64) H Q (fun xs => xs.length = 30)
theorem ok_other (T : Txt K mg) (F : FnP K "_law_other" s__law_other f fd) (C__law_take : Cal P w K mg base CX0 1 "_law_take" ["_law_box_here", "_law_many"] spTake) (C__law_data : Cal P w K mg base CX0 3 "_law_data" ["_law_box_here"] spDa) : Fg P w K mg base CX0 4 f fd ["_law_box_here", "_law_data_here"] spOt := by
  refine fg_of F sc__law_other (fun vs H Q E h => ?_) (fun cdv A outer s H vs Q E hr h => ⟨_, (PSs.nox (pss_cons (ps_if (pt_cmpR (u_eq (K := K) hr) (pe_cal C__law_take hr.le pass0 (pa_cons (pv 0) (pa_cons pe_int pa_nil))) pe_int (nomark _))
  (pss_one (ps_ret (pe_cal C__law_data hr.le pass0 (pa_cons (pv 0) pa_nil)))) pss_nil)
  (pss_cons (ps_par (i := 2) (j := 3) rfl sc__law_other.nd rfl rfl (by decide) rfl rfl (pa_cons (pe_callTy (u_list (K := K)) (by rfl) T.f_list (by decide +kernel) (pa_cons (pv 1) pa_nil)) (pa_cons (pe_cal C__law_take hr.le pass0 (pa_cons (pv 0) (pa_cons pe_int pa_nil))) pa_nil)) (by rfl))
  (pss_cons (ps_asg (pe_op op_xor (pe_ix (u_ix (K := K)) (pv 2) (pv 3) (fun _ _ => rfl)) (pe_ix (u_ix (K := K)) (pe_lst (pa_cons pe_int (pa_cons pe_int (pa_cons pe_int (pa_cons pe_int (pa_cons pe_int (pa_cons pe_int (pa_cons pe_int (pa_cons pe_int pa_nil))))))))) (pe_cal C__law_take hr.le pass0 (pa_cons (pv 0) (pa_cons pe_int pa_nil))) (fun _ _ => rfl))) (pg_sub (pv 2) (pv 3) set_list))
  (pss_one (ps_ret (pv 2))))))), ?_⟩)
  · obtain ⟨a, d, os, n, rfl, _⟩ := h
    rfl
  · obtain ⟨a, d, os, n, rfl, B, nd, hd, oo, lo, hn, q⟩ := h
    refine ⟨_, rfl, a, 3, n, rfl, B, by omega, by omega, by omega, fun way H1 p1 p2 e1 B1 => ?_⟩
    refine .inl ⟨rfl, _, rfl, if_eq (fun _ => ?_) (fun _ => ?_)⟩
    · exact ⟨_, rfl, a, n + 1, rfl, B1, by omega, fun p H2 xs ox lx na np e2 B2 hp => q p H2 xs ox lx na (Exb.fresh e1 np na) (e1.trans e2) (B2.le (by omega)) hp⟩
    have hd1 := e1 d _ nd hd
    refine ⟨_, rfl, d, _, rfl, .inl (SqL.of hd1), fun l nl => ?_⟩
    have xl := Evl.Ex.new (o := .lst (IV os)) nl
    have nla := B1.at nl
    have hl := upd_same (H := H1) (a := l) (o := .lst (IV os))
    refine ⟨_, rfl, a, 30, n + 1, rfl, B1.ex xl, by omega, by omega, by omega, fun r H2 r0 r1 e2 B2 => ?_⟩
    obtain ⟨k, rfl⟩ : ∃ k : Nat, r = k := ⟨r.toNat, by omega⟩
    have hl2 := e2 l _ nla hl
    obtain ⟨o, ho⟩ := get_lt (l := os) (i := k) (by omega)
    have bo := oo o (List.mem_of_getElem? ho)
    refine ⟨_, _, rfl, _, rfl, _, rfl, .inl ⟨l, _, _, _, rfl, rfl, SqL.of hl2, iv_at ho, by show 8 ≤ sizeLine; decide, fun p np => ?_⟩⟩
    have xp := Evl.Ex.new (o := .lst (IV ws8)) np
    have npa := B2.at np
    refine ⟨_, rfl, a, 8, n + 2, rfl, (B2.ex xp).le (by omega), by omega, by omega, by omega, fun r2 H3 q0 q1 e3 B3 => ?_⟩
    obtain ⟨u, u0, u1, hu⟩ := pick (xs := ws8) (octs (by decide)) q0 (by simpa using q1)
    have E := (((e1.trans (Exb.of xl)).trans e2).trans (Exb.of xp)).trans e3
    have fl := Exb.fresh e1 nl nla
    have hl3 := e3 l _ nla (xp l _ hl2)
    refine .inl ⟨p, _, _, _, rfl, rfl, SqL.of (e3 p _ npa upd_same), hu, _, _, rfl, rfl, _, rfl, _, rfl, l, _, _, k, rfl, rfl, hl3, Evl.ixN_nat (by rw [iv_len]; omega), ?_⟩
    refine ⟨_, rfl, q l _ (os.set k (Builtin.bitXor o u)) (oct_set oo (xor_oct bo ⟨u0, u1⟩)) (by show (os.set k (Builtin.bitXor o u)).length = 30; rw [List.length_set]; exact lo) nla fl (Exb.mut E fl) (Box.mut (B3.le (by omega)) nla) ?_⟩
    rw [upd_same, ← List.map_set]
/-- whether ys is a rest of the page of os -/
def rest (os ys : List Int) : Bool := (List.range 31).all fun j => decide (Builtin.bitAnd ((os ++ [zc (bitsL os)]).getD j 0) (ys.getD j 0) = (os ++ [zc (bitsL os)]).getD j 0)
theorem rest_iff {os ys : List Int} : rest os ys = true ↔ ∀ j, j < 31 → Builtin.bitAnd ((os ++ [zc (bitsL os)]).getD j 0) (ys.getD j 0) = (os ++ [zc (bitsL os)]).getD j 0 := by
  unfold rest
  rw [List.all_eq_true]
  constructor
  · intro h j hj
    simpa using h j (List.mem_range.mpr hj)
  · intro h j hj
    simpa using h j (List.mem_range.mp hj)
theorem getD_get {xs : List Int} {i : Nat} (h : i < xs.length) : xs[i]? = some (xs.getD i 0) := by
  rw [List.getD_eq_getElem?_getD]
  simp [h]
theorem nonempty (os : List Int) (oo : Oct os) (lo : os.length = 30) : ∃ j, j < 31 ∧ 0 < (os ++ [zc (bitsL os)]).getD j 0 := by
  have n0 : (os ++ [zc (bitsL os)]).getD 30 0 = zc (bitsL os) := by
    rw [List.getD_eq_getElem?_getD, List.getElem?_append_right (by omega), lo]
    rfl
  cases os with
  | nil => cases lo
  | cons o os =>
    have ho := oo o (List.mem_cons_self ..)
    by_cases z : 0 < o
    · exact ⟨0, by omega, z⟩
    · have : o = 0 := by omega
      subst this
      refine ⟨30, by omega, ?_⟩
      rw [n0, bitsL_cons, zc_app]
      have h1 : zc (bitsOf 0) = 8 := by decide
      have h2 := (zc_bound (bitsL os)).1
      omega
theorem bit_in : ∀ o : Nat, o < 256 → 0 < o → ∃ j, j < 8 ∧ 0 < (o &&& (128 / 2 ^ j)) := by decide +kernel
def spIR (K : PySem.W.Frag) : Sp := fun vs H Q _ => ∃ (a b : Addr) (os ys : List Int), vs = [.ref a, .ref b] ∧ SqL K H a (IV os) ∧ SqL K H b (IV ys) ∧ Oct os ∧ Oct ys ∧ os.length = 30 ∧ ys.length = 31 ∧ RV (.bl (rest os ys)) H Q
theorem ok_isrest (T : Txt K mg) (F : FnP K "_law_is_rest" s__law_is_rest f fd) (C__law_page : Cal P w K mg base CX0 2 "_law_page" ["_law_data_here"] (spPg K)) : Fg P w K mg base CX0 3 f fd ["_law_data_here", "_law_page_here"] (spIR K) := by
  refine fg_of F sc__law_is_rest (fun vs H Q E h => ?_) (fun cdv A outer s H vs Q E hr h => ⟨_, (PSs.nox (pss_cons (ps_set (i := 2) sc__law_is_rest.nd rfl (by first | exact Or.inl rfl | exact Or.inr rfl) (pe_cal C__law_page hr.le pass0 (pa_cons (pv 0) pa_nil)))
  (pss_one (ps_ret (pe_cmpR (u_eq (K := K) hr) (pe_lc (own := [("_law_at", 3)]) rfl sc__law_is_rest.nd (pi_range1 rfl T.f_range (pa_cons pe_int pa_nil)) (blkOk_by (own := [("_law_at", 3)]) (N := ["_law_data_here", "_law_page_here", "_law_whole", "_law_at"]) (sc := defScope s__law_is_rest) (by decide +kernel)) (fun _ _ _ _ _ => (pg_name (i := 3) sc__law_is_rest.nd rfl (by first | exact Or.inl rfl | exact Or.inr rfl))) (fun _ _ _ _ _ => (pts_one (pt_cmpR (u_ne (K := K) hr) (pe_op op_and (pe_ix (u_ix (K := K)) (pv 2) (pv 3) (fun _ _ => rfl)) (pe_ix (u_ix (K := K)) (pv 1) (pv 3) (fun _ _ => rfl))) (pe_ix (u_ix (K := K)) (pv 2) (pv 3) (fun _ _ => rfl)) (nomark _)))) (fun _ _ _ _ _ => (pv 3))) (pe_lst pa_nil) (nomark _)))))), ?_⟩)
  · obtain ⟨a, b, os, ys, rfl, _⟩ := h
    rfl
  · obtain ⟨a, b, os, ys, rfl, S, Y, oo, oy, lo, ly, q⟩ := h
    refine ⟨_, rfl, a, os, false, rfl, S, by omega, fun g H1 ng e1 hg => ?_⟩
    have lw : (os ++ [zc (bitsL os)]).length = 31 := by simp [lo]
    have Y1 := Evl.ex_l e1 Y
    refine ⟨31, rfl, by omega, by omega, fun D hD => ?_⟩
    refine lc_range (lo := 0) (n := 31) (fun i H' => i ≤ 31 ∧ Evl.Ex H1 H' ∧ ∃ zs : List Int, zs.length ≤ i ∧ H' D = some (.lst (IV zs)) ∧ (zs = [] ↔ ∀ j, j < i → Builtin.bitAnd ((os ++ [zc (bitsL os)]).getD j 0) (ys.getD j 0) = (os ++ [zc (bitsL os)]).getD j 0)) ⟨by omega, Evl.Ex.new hD, [], Nat.le_refl _, upd_same, by simp⟩ ?_ ?_
    · rintro i H2 hi ⟨_, e2, zs, lz, hz, iz⟩
      have e0 : (0 : Int) + (i : Int) = (i : Int) := Int.zero_add _
      rw [e0]
      have hw := getD_get (xs := os ++ [zc (bitsL os)]) (i := i) (by omega)
      have hy := getD_get (xs := ys) (i := i) (by omega)
      have G := SqL.of (K := K) (e2 _ _ hg)
      have Y2 := Evl.ex_l e2 Y1
      have step : (∀ j, j < i + 1 → Builtin.bitAnd ((os ++ [zc (bitsL os)]).getD j 0) (ys.getD j 0) = (os ++ [zc (bitsL os)]).getD j 0) ↔ ((∀ j, j < i → Builtin.bitAnd ((os ++ [zc (bitsL os)]).getD j 0) (ys.getD j 0) = (os ++ [zc (bitsL os)]).getD j 0) ∧ Builtin.bitAnd ((os ++ [zc (bitsL os)]).getD i 0) (ys.getD i 0) = (os ++ [zc (bitsL os)]).getD i 0) := by
        constructor
        · intro h
          exact ⟨fun j hj => h j (by omega), h i (by omega)⟩
        · rintro ⟨h1, h2⟩ j hj
          by_cases e : j = i
          · subst e
            exact h2
          · exact h1 j (by omega)
      refine ⟨rfl, _, rfl, _, rfl, .inl ⟨g, _, _, _, rfl, rfl, G, iv_at hw, _, rfl, _, rfl, .inl ⟨b, _, _, _, rfl, rfl, Y2, iv_at hy, _, _, rfl, rfl, _, rfl, _, rfl, .inl ⟨g, _, _, _, rfl, rfl, G, iv_at hw, .inl ⟨rfl, _, rfl, ?_⟩⟩⟩⟩⟩
      rw [dec_int]
      by_cases he : Builtin.bitAnd ((os ++ [zc (bitsL os)]).getD i 0) (ys.getD i 0) = (os ++ [zc (bitsL os)]).getD i 0
      · rw [he]
        simp only [beq_self_eq_true, Bool.not_true]
        refine iteF ⟨by omega, e2, zs, by omega, hz, ?_⟩
        rw [iz, step]
        exact ⟨fun h => ⟨h, he⟩, fun h => h.1⟩
      · have : (!(Builtin.bitAnd ((os ++ [zc (bitsL os)]).getD i 0) (ys.getD i 0) == (os ++ [zc (bitsL os)]).getD i 0)) = true := by simpa using he
        rw [this]
        refine iteT ⟨_, rfl, _, hz, by rw [iv_len]; exact Evl.sz_lt (by omega), by omega, Evl.Ex.mut e2 hD, zs ++ [(i : Int)], by simp; omega, by rw [upd_same, iv_snoc], ?_⟩
        rw [step]
        exact ⟨fun h => absurd h (by simp), fun h => absurd h.2 he⟩
    · rintro H2 ⟨_, e2, zs, lz, hz, iz⟩
      refine ⟨by show 0 ≤ sizeLine; decide, fun t nt => ?_⟩
      have xt := Evl.Ex.new (o := .lst []) nt
      refine .inr (req_l (ns := zs) (ms := []) (SqL.of (xt _ _ hz)) (SqL.of upd_same) ?_)
      have e : decide (zs = []) = rest os ys := by
        rw [Bool.eq_iff_iff, rest_iff, decide_eq_true_iff]
        exact iz
      rw [e]
      exact q _ ((e1.trans e2).trans xt)
def spSp (K : PySem.W.Frag) : Sp := fun vs H Q _ => ∃ (a b c : Addr) (os ys : List Int) (n : Int), vs = [.ref a, .ref b, .ref c] ∧ Box H a n ∧ b ≠ a ∧ c ≠ a ∧ H b = some (.lst (IV (os ++ [zc (bitsL os)]))) ∧ H c = some (.lst (IV ys)) ∧ Oct os ∧ Oct ys ∧ os.length = 30 ∧ ys.length = 31 ∧ n < 80000000 ∧ NewL a (n + 2) H Q (fun xs => xs.length = 31)
theorem ok_spoilt (T : Txt K mg) (F : FnP K "_law_spoilt" s__law_spoilt f fd) (C__law_take : Cal P w K mg base CX0 1 "_law_take" ["_law_box_here", "_law_many"] spTake) (C__law_one_bit : Cal P w K mg base CX0 1 "_law_one_bit" ["_law_at", "_law_worth"] spOB)
    (C__law_moved : Cal P w K mg base CX0 1 "_law_moved" ["_law_page_here", "_law_mask_here", "_law_aim"] (spMv K)) : Fg P w K mg base CX0 2 f fd ["_law_box_here", "_law_whole", "_law_page_here"] (spSp K) := by
  refine fg_of F sc__law_spoilt (fun vs H Q E h => ?_) (fun cdv A outer s H vs Q E hr h => ⟨_, (PSs.nox (pss_cons (ps_setLc (i := 3) (own := [("_law_at", 5)]) rfl sc__law_spoilt.nd rfl rfl (sw_true rfl rfl rfl (by decide +kernel)) (pi_range1 rfl T.f_range (pa_cons pe_int pa_nil)) (blkOk_by (own := [("_law_at", 5)]) (N := ["_law_box_here", "_law_whole", "_law_page_here", "_law_places", "_law_worths", "_law_at", "_law_worth"]) (sc := defScope s__law_spoilt) (by decide +kernel)) (fun _ _ _ _ _ => (pg_name (i := 5) sc__law_spoilt.nd rfl (by first | exact Or.inl rfl | exact Or.inr rfl))) (fun _ _ _ _ _ => (pts_one (pt_cmpR op_gt (pe_ix (u_ix (K := K)) (pv 1) (pv 5) (fun _ _ => rfl)) pe_int (nomark _)))) (fun _ _ _ _ _ => (pv 5)))
  (pss_cons (ps_set (i := 5) sc__law_spoilt.nd rfl (by first | exact Or.inl rfl | exact Or.inr rfl) (pe_ix (u_ix (K := K)) (pv 3) (pe_cal C__law_take hr.le pass0 (pa_cons (pv 0) (pa_cons (pe_callB (u_len (K := K)) (by rfl) T.f_len (by decide +kernel) (pa_cons (pv 3) pa_nil)) pa_nil))) (fun _ _ => rfl)))
  (pss_cons (ps_setLc (i := 4) (own := [("_law_worth", 6)]) rfl sc__law_spoilt.nd rfl rfl (sw_true rfl rfl rfl (by decide +kernel)) (pi_seq (K := K) (pe_lst (pa_cons pe_int (pa_cons pe_int (pa_cons pe_int (pa_cons pe_int (pa_cons pe_int (pa_cons pe_int (pa_cons pe_int (pa_cons pe_int pa_nil)))))))))) (blkOk_by (own := [("_law_worth", 6)]) (N := ["_law_box_here", "_law_whole", "_law_page_here", "_law_places", "_law_worths", "_law_at", "_law_worth"]) (sc := defScope s__law_spoilt) (by decide +kernel)) (fun _ _ _ _ _ => (pg_name (i := 6) sc__law_spoilt.nd rfl (by first | exact Or.inl rfl | exact Or.inr rfl))) (fun _ _ _ _ _ => (pts_one (pt_cmpR op_gt (pe_op op_and (pe_ix (u_ix (K := K)) (pv 1) (pv 5) (fun _ _ => rfl)) (pv 6)) pe_int (nomark _)))) (fun _ _ _ _ _ => (pv 6)))
  (pss_one (ps_ret (pe_cal C__law_moved hr.le pass0 (pa_cons (pv 2) (pa_cons (pe_cal C__law_one_bit hr.le pass0 (pa_cons (pv 5) (pa_cons (pe_ix (u_ix (K := K)) (pv 4) (pe_cal C__law_take hr.le pass0 (pa_cons (pv 0) (pa_cons (pe_callB (u_len (K := K)) (by rfl) T.f_len (by decide +kernel) (pa_cons (pv 4) pa_nil)) pa_nil))) (fun _ _ => rfl)) pa_nil))) (pa_cons pe_int pa_nil)))))))))), ?_⟩)
  · obtain ⟨a, b, c, os, ys, n, rfl, _⟩ := h
    rfl
  · obtain ⟨a, b, c, os, ys, n, rfl, B, nb, nc, hb, hc, oo, oy, lo, ly, hn, q⟩ := h
    obtain ⟨j0, hj0, hp0⟩ := nonempty os oo lo
    have zb := zc_bound (bitsL os)
    rw [bitsL_len, lo] at zb
    have ow : Oct (os ++ [zc (bitsL os)]) := oct_snoc oo zb.1 (by omega)
    have lw : (os ++ [zc (bitsL os)]).length = 31 := by simp [lo]
    generalize os ++ [zc (bitsL os)] = W at hb hp0 ow lw
    refine ⟨31, rfl, by omega, by omega, fun D hD => ?_⟩
    have nD := B.at hD
    refine lc_range (lo := 0) (n := 31) (fun i H' => i ≤ 31 ∧ Evl.Ex H H' ∧ ∃ zs : List Int, zs.length ≤ i ∧ H' D = some (.lst (IV zs)) ∧ (∀ z ∈ zs, ∃ j : Nat, z = j ∧ j < 31 ∧ 0 < W.getD j 0) ∧ ∀ j, j < i → 0 < W.getD j 0 → zs ≠ []) ⟨by omega, Evl.Ex.new hD, [], Nat.le_refl _, upd_same, fun _ h => (by cases h), fun j h => absurd h (by omega)⟩ ?_ ?_
    · rintro i H2 hi ⟨_, e2, zs, lz, hz, az, iz⟩
      have e0 : (0 : Int) + (i : Int) = (i : Int) := Int.zero_add _
      rw [e0]
      have hw := getD_get (xs := W) (i := i) (by omega)
      refine ⟨rfl, _, rfl, _, rfl, .inl ⟨b, _, _, _, rfl, rfl, SqL.of (e2 _ _ hb), iv_at hw, _, _, rfl, rfl, _, rfl, ?_⟩⟩
      by_cases he : 0 < W.getD i 0
      · rw [decide_eq_true he]
        refine iteT ⟨_, rfl, _, hz, by rw [iv_len]; exact Evl.sz_lt (by omega), by omega, Evl.Ex.mut e2 hD, zs ++ [(i : Int)], by simp; omega, by rw [upd_same, iv_snoc], ?_, fun j _ _ => by simp⟩
        intro z hz
        rcases List.mem_append.mp hz with h | h
        · exact az z h
        · exact ⟨i, by simpa using h, hi, he⟩
      · rw [decide_eq_false he]
        refine iteF ⟨by omega, e2, zs, by omega, hz, az, fun j hj hp => ?_⟩
        by_cases e : j = i
        · subst e
          exact absurd hp he
        · exact iz j (by omega) hp
    rintro H2 ⟨_, e2, zs, lz, hz, az, iz⟩
    have zne := iz j0 hj0 hp0
    have zl : 0 < zs.length := List.length_pos_iff.mpr zne
    refine ⟨_, rfl, _, rfl, _, rfl, _, _, rfl, .inl ⟨_, SqL.of hz, rfl⟩, a, ((IV zs).length : Int), n, rfl, B.ex e2, by rw [iv_len]; omega, by rw [iv_len]; omega, by omega, fun r H3 r0 r1 e3 B3 => ?_⟩
    rw [iv_len] at r1
    obtain ⟨k, rfl⟩ : ∃ k : Nat, r = k := ⟨r.toNat, by omega⟩
    obtain ⟨z, hk⟩ := get_lt (l := zs) (i := k) (by omega)
    obtain ⟨j, rfl, hj, hp⟩ := az z (List.mem_of_getElem? hk)
    refine .inl ⟨D, _, _, _, rfl, rfl, SqL.of (e3 D _ nD hz), iv_at hk, ?_⟩
    have hb3 := e3 b _ nb (e2 _ _ hb)
    have hc3 := e3 c _ nc (e2 _ _ hc)
    have E3 := (Exb.of e2).trans e3 (a := a)
    clear hz az iz e2 e3
    refine .inl ⟨by show 8 ≤ sizeLine; decide, fun p np => ⟨p, rfl, ⟨_, SqL.of upd_same⟩, fun D2 hD2 => ?_⟩⟩
    have xp := Evl.Ex.new (o := .lst (IV ws8)) np
    have hws := upd_same (H := H3) (a := p) (o := .lst (IV ws8))
    have B4 := B3.ex xp
    have nD2 := B4.at hD2
    have hw := getD_get (xs := W) (i := j) (by omega)
    obtain ⟨o, ho⟩ := nat_of (o := W.getD j 0) (by omega)
    have bo := ow _ (List.mem_of_getElem? hw)
    obtain ⟨t0, ht0, hq0⟩ := bit_in o (by omega) (by omega)
    rw [ho] at hw
    change upd H3 p (.lst (IV ws8)) D2 = none at hD2
    refine lc_it (walk_list (K := K) (a := p) (xs := IV ws8)) (fun i H' => i ≤ 8 ∧ Evl.Ex (upd H3 p (.lst (IV ws8))) H' ∧ ∃ us : List Int, us.length ≤ i ∧ H' D2 = some (.lst (IV us)) ∧ Oct us ∧ ∀ t, t < i → 0 < (o &&& (128 / 2 ^ t)) → us ≠ []) ⟨by omega, Evl.Ex.new hD2, [], Nat.le_refl _, upd_same, fun _ h => (by cases h), fun t h => absurd h (by omega)⟩ (fun i H' _ h => SqL.of (h.2.1 _ _ hws)) ?_ ?_
    · rintro i x H5 H5' hi ⟨_, e5, us, lu, hu, ou, iu⟩ ⟨rfl, hx⟩
      have hi8 : i < 8 := hi
      have e8 := ws8_at i hi8
      obtain ⟨v, hv, rfl⟩ := iv_get hx
      rw [e8] at hv
      cases hv
      refine ⟨rfl, _, rfl, _, rfl, .inl ⟨b, _, _, _, rfl, rfl, SqL.of (e5 _ _ (xp _ _ hb3)), iv_at hw, _, rfl, _, _, rfl, rfl, _, _, rfl, rfl, _, rfl, ?_⟩⟩
      rw [VB.bitAnd_nn]
      by_cases he : 0 < (o &&& (128 / 2 ^ i))
      · rw [decide_eq_true (by omega)]
        refine iteT ⟨_, rfl, _, hu, by rw [iv_len]; exact Evl.sz_lt (by omega), by omega, Evl.Ex.mut e5 hD2, us ++ [((128 / 2 ^ i : Nat) : Int)], by simp; omega, by rw [upd_same, iv_snoc], oct_snoc ou (Int.natCast_nonneg _) ?_, fun t _ _ => by simp⟩
        have h128 : 128 / 2 ^ i ≤ 128 := Nat.div_le_self _ _
        exact Int.ofNat_le.mpr (Nat.le_trans h128 (by decide : (128 : Nat) ≤ 255))
      · rw [decide_eq_false (by omega)]
        refine iteF ⟨by omega, e5, us, by omega, hu, ou, fun t ht hq => ?_⟩
        by_cases e : t = i
        · subst e
          exact absurd hq he
        · exact iu t (by omega) hq
    rintro H5 ⟨_, e5, us, lu, hu, ou, iu⟩
    have une := iu t0 ht0 hq0
    have ul : 0 < us.length := List.length_pos_iff.mpr une
    have lu8 : us.length ≤ 8 := lu
    have E5 := E3.trans (Exb.of (xp.trans e5))
    have B5 := B4.ex e5
    have hc5 := e5 _ _ (xp _ _ hc3)
    refine ⟨_, rfl, _, rfl, _, rfl, _, rfl, _, rfl, _, _, rfl, .inl ⟨_, SqL.of hu, rfl⟩, a, ((IV us).length : Int), n + 1, rfl, B5, by rw [iv_len]; omega, by rw [iv_len]; omega, by omega, fun r2 H6 q0 q1 e6 B6 => ?_⟩
    rw [iv_len] at q1
    obtain ⟨u, u0, u1, hu2⟩ := pick ou q0 q1
    refine .inl ⟨D2, _, _, _, rfl, rfl, SqL.of (e6 D2 _ nD2 hu), hu2, j, u, rfl, by omega, fun p2 H7 np2 e7 hp2 => ?_⟩
    refine ⟨c, p2, ys, oneB j u, 0, rfl, SqL.of (e7 _ _ (e6 c _ nc hc5)), SqL.of hp2, oy, oct_oneB ⟨u0, u1⟩, ly, oneB_len (by omega), fun p3 H8 np3 e8 hp3 => ?_⟩
    have E7 := (E5.trans e6).trans (Exb.of e7)
    have B7 := B6.ex e7
    have na := B7.at np3
    exact q p3 H8 _ (mvL_oct oy (oct_oneB ⟨u0, u1⟩)) (by show (mvL ys (oneB j u) 0).length = 31; rw [← ly]; exact both_len (by rw [ly, oneB_len (by omega)])) na (Exb.fresh E7 np3 na) (E7.trans (Exb.of e8)) ((B7.ex e8).le (by omega)) hp3
end
end K09
/-! repr of data, of truths and of ints -/
namespace VB
open PySem PySem.Spec PyProof.Rows L2
section
variable {X : Cx}
theorem call_repr_bl : CallR X (.builtin "repr") (fun xs H Q => ∃ b : Bool, xs = [.bl b] ∧ Q (.str (if b then "True" else "False")) H) := by
  intro pins s σ H xs us Q I r h
  obtain ⟨b, rfl, q⟩ := h
  obtain ⟨u, rfl, ru⟩ := vals1 r
  cases (show u = Value.bool b from ru)
  exact PySem.P.repr_of_bool ⟨.str _, H, I.tok _, ⟨_, rfl⟩, q⟩
end
def rReprU (K : PySem.W.Frag) : List V → Hp → VK → Prop := fun xs H Q => rRepr K xs H Q ∨ ((∃ i, xs = [.int i] ∧ i.natAbs.log2 < 1920 ∧ Q (.str (toString i)) H) ∨ ∃ b : Bool, xs = [.bl b] ∧ Q (.str (if b then "True" else "False")) H)
section
variable {X : Cx} {K : PySem.W.Frag} {H : Hp} {Q : VK}
theorem u_reprU {k : Nat} (hr : Rm k X.A) (hK : X.K = K := by rfl) : CallR X (.builtin "repr") (rReprU K) := by
  subst hK
  exact (call_repr hr).or (CallR.or (SkE.call_repr_int (X := X)) (call_repr_bl (X := X)))
theorem rp_bl (b : Bool) (q : Q (.str (if b then "True" else "False")) H) : rReprU K [.bl b] H Q := .inr (.inr ⟨b, rfl, q⟩)
theorem rp_int {i : Int} (h : i.natAbs.log2 < 1920) (q : Q (.str (toString i)) H) : rReprU K [.int i] H Q := .inr (.inl ⟨i, rfl, h, q⟩)
end
end VB
namespace K09
open PySem PySem.Spec PyProof.Rows L2 VB BM
def ovr (os : List Int) : Int := os.getD 30 0 - zc (bitsL (os.take 30))
def pln (os : List Int) : Bool := decide (os = List.replicate 31 255)
theorem get30 {os : List Int} (h : os.length = 31) : os[30]? = some (os.getD 30 0) := by
  obtain ⟨x, hx⟩ := get_lt (l := os) (i := 30) (by omega)
  rw [List.getD_eq_getElem?_getD, hx]
  rfl
theorem ovr_bound {os : List Int} (o : Oct os) (h : os.length = 31) : -240 ≤ ovr os ∧ ovr os ≤ 255 := by
  have z := zc_bound (bitsL (os.take 30))
  have l := bitsL_len (os.take 30)
  rw [List.length_take] at l
  have c := o _ (List.mem_of_getElem? (get30 h))
  unfold ovr
  omega
theorem dec_int (x y : Int) : decide (V.int x = V.int y) = decide (x = y) := by
  by_cases h : x = y
  · subst h
    simp
  · rw [decide_eq_false h, decide_eq_false fun z => h (V.int.inj z)]
theorem shown_small : ∀ k : Nat, k < 512 → (PyData.int ((k : Int) - 256)).shown.length ≤ 4 := by decide +kernel
theorem sh_near {n : Int} (h : -256 ≤ n ∧ n < 256) : Sh (.int n) 0 4 := by
  have e : (((n + 256).toNat : Nat) : Int) - 256 = n := by omega
  have s := shown_small (n + 256).toNat (by omega)
  rw [e] at s
  refine ⟨?_, by simp only [PyData.depth]; exact Nat.le_refl _, s⟩
  simp only [PyData.showable, decide_eq_true_eq]
  by_cases z : n.natAbs = 0
  · rw [z]
    decide
  · exact (Nat.log2_lt z (k := 1920)).mpr (Nat.lt_of_lt_of_le (m := 2 ^ 14) (by omega) (Nat.pow_le_pow_right (by decide) (by decide)))
theorem sh_bool (b : Bool) : Sh (.bool b) 0 5 := by
  cases b <;> exact ⟨by decide, by decide, by decide⟩
theorem sh_none : Sh .none 0 4 := ⟨by decide, by decide, by decide⟩
theorem sm_take {xs : List Int} (h : Oct xs) (n : Nat) : Sm (xs.take n) := fun o ho => by
  have := h o (List.mem_of_mem_take ho)
  omega
section
variable {P : Program} {w : World} {K : PySem.W.Frag} {mg : Str → Option Value} {base : Heap} {f : Addr} {fd : FuncData}
/-- the first so many -/
theorem Sv.first {t : Bool} {H : Hp} {a : Addr} {os : List Int} {n : Nat} {Q : VK} (S : Sv t K H a (IV os)) (hn : n < os.length) (q : ∀ p H', H p = none → Evl.Ex H H' → Sv t K H' p (IV (os.take n)) → Q (.ref p) H') : rSlU K (.ref a) none (some (n : Int)) H Q := by
  have ec : cutV (IV os) none (some (n : Int)) = IV (os.take n) := by
    unfold cutV
    rw [HT.sIx_nat, iv_len]
    have e2 : HT.sIx os.length 0 none = 0 := rfl
    rw [e2, List.drop_zero, ← List.map_take]
    congr 2
    omega
  cases t with
  | false =>
    refine .inl ⟨a, _, rfl, S, fun p np => ?_⟩
    rw [ec]
    exact q p _ np (Evl.Ex.new np) (Sv.lst upd_same)
  | true =>
    refine .inr (.inl ⟨a, _, rfl, S, ?_, fun p np => ?_⟩)
    · rintro ⟨_, h⟩
      rw [HT.sIx_nat, iv_len] at h
      omega
    · rw [ec]
      exact q p _ np (Evl.Ex.new np) (Sv.tup upd_same)
theorem Dp.ex {H H' : Hp} (e : Evl.Ex H H') : ∀ (d : PyData) (v : V), Dp K H v d → Dp K H' v d := by
  intro d v h
  induction h using Dp.rec (motive_2 := fun vs ds _ => DpAll K H' vs ds) with
  | non => exact .non
  | bl b => exact .bl b
  | int i => exact .int i
  | str x => exact .str x
  | lst s _ ih => exact .lst (Evl.ex_l e s) ih
  | tup s _ ih => exact .tup (Evl.ex_t e s) ih
  | nil => exact .nil
  | cons _ _ h1 h2 => exact .cons h1 h2
theorem Sv.tupU {H : Hp} {a : Addr} {xs : List V} {t : Bool} {Q : VK} (S : Sv t K H a xs) (q : ∀ p H', Evl.Ex H H' → SqT K H' p xs → Q (.ref p) H') : rTupU K [.ref a] H Q := by
  cases t with
  | false => exact ⟨a, xs, rfl, .inl ⟨S, fun l hl => q l _ (Evl.Ex.new hl) (SqT.of upd_same)⟩⟩
  | true => exact ⟨a, xs, rfl, .inr ⟨S, q a H (Evl.Ex.refl _) S⟩⟩
theorem Sv.rpr {H : Hp} {a : Addr} {os : List Int} {t : Bool} {Q : VK} (S : Sv t K H a (IV os)) (h : Sm os) (hl : os.length ≤ 6000) (q : Q (.str (if t then DT os else DL os).shown) H) : rRepr K [.ref a] H Q := by
  cases t with
  | false => exact rp_l S h hl q
  | true => exact rp_t S h hl q
theorem Sv.dp {H : Hp} {a : Addr} {os : List Int} {t : Bool} (S : Sv t K H a (IV os)) : Dp K H (.ref a) (if t then DT os else DL os) := by
  cases t with
  | false => exact dp_l S
  | true => exact dp_t S
theorem sh_o {os : List Int} {t : Bool} (o : Oct os) (h : os.length ≤ 31) : Sh (if t then DT os else DL os) 1 40000 := by
  cases t with
  | false => exact sh_l (fun x hx => by have := o x hx; omega) (by omega)
  | true => exact sh_t (fun x hx => by have := o x hx; omega) (by omega)
theorem Sv.at {H : Hp} {p : Addr} {os : List Int} {t : Bool} (h : H p = some (if t then .tup (IV os) else .lst (IV os))) : Sv t K H p (IV os) := by
  cases t with
  | false => exact Sv.lst h
  | true => exact Sv.tup h
def spRest (K : PySem.W.Frag) : Sp := fun vs H Q _ => ∃ (a b : Addr) (os ys : List Int) (t u : Bool), vs = [.ref a, .ref b] ∧ Sv t K H a (IV os) ∧ Sv u K H b (IV ys) ∧ Oct os ∧ Oct ys ∧ os.length = 30 ∧ ys.length = 31 ∧ RV (.bl (rest os ys)) H Q
abbrev Dv (t : Bool) (os : List Int) : PyData := if t then DT os else DL os
theorem rp_pair {H : Hp} {l p r : Addr} {os ys : List Int} {t u : Bool} {Q : VK} (h : H l = some (.lst [.ref p, .ref r])) (S : Sv t K H p (IV os)) (R : Sv u K H r (IV ys)) (oo : Oct os) (oy : Oct ys) (lo : os.length ≤ 31) (ly : ys.length ≤ 31)
    (q : Q (.str (PyData.list [Dv t os, Dv u ys]).shown) H) : rReprU K [.ref l] H Q := by
  have sh : Sh (PyData.list [Dv t os, Dv u ys]) 2 80008 := (sh_list (n := 2) (h := 1) (b := 40000) (fun d hd => by
    simp only [List.mem_cons, List.not_mem_nil, or_false] at hd
    rcases hd with rfl | rfl
    · exact sh_o oo lo
    · exact sh_o oy ly) (by simp)).le
  exact .inl (rp (.lst (SqL.of h) (.cons (Sv.dp S) (.cons (Sv.dp R) .nil))) sh q)
def spRR (K : PySem.W.Frag) : Sp := fun vs H Q _ => ∃ (a b c : Addr) (os ys : List Int) (n : Int), vs = [.ref a, .ref b, .ref c] ∧ Box H a n ∧ b ≠ a ∧ c ≠ a ∧ H b = some (.lst (IV os)) ∧ H c = some (.lst (IV ys)) ∧ Oct os ∧ Oct ys ∧ os.length = 30 ∧ ys.length = 31 ∧ n < 80000000 ∧ ∀ H' : Hp, Exb a H H' → Box H' a (n + 2) → Q (.bl true) H'
theorem ok_lrr (T : Txt K mg) (F : FnP K "_law_rest_right" s__law_rest_right f fd) (C__law_is_rest : Cal P w K mg base CX0 3 "_law_is_rest" ["_law_data_here", "_law_page_here"] (spIR K)) (C__law_handed : Cal P w K mg base CX0 2 "_law_handed" ["_law_box_here", "_law_octets"] (spHd K))
    (C_is_rest : Cal P w K mg base CX0 8 "is_rest" ["data", "value"] (spRest K)) (CK_is_rest_0_value_data : CalK P w K mg base CX0 8 "is_rest" ["data", "value"] 0 ["value", "data"] g21 g21V (spRest K)) : Fg P w K mg base CX0 9 f fd ["_law_box_here", "_law_data_here", "_law_page_here"] (spRR K) := by
  refine fg_of F sc__law_rest_right (fun vs H Q E h => ?_) (fun cdv A outer s H vs Q E hr h => ⟨_, (PSs.nox (pss_cons (ps_set (i := 3) sc__law_rest_right.nd rfl (by first | exact Or.inl rfl | exact Or.inr rfl) (pe_callB (u_reprU (K := K) hr) (by rfl) T.f_repr (by decide +kernel) (pa_cons (pe_cal C__law_is_rest hr.le pass0 (pa_cons (pv 1) (pa_cons (pv 2) pa_nil))) pa_nil)))
  (pss_cons (ps_par (i := 4) (j := 5) rfl sc__law_rest_right.nd rfl rfl (by decide) rfl rfl (pa_cons (pe_cal C__law_handed hr.le pass0 (pa_cons (pv 0) (pa_cons (pv 1) pa_nil))) (pa_cons (pe_cal C__law_handed hr.le pass0 (pa_cons (pv 0) (pa_cons (pv 2) pa_nil))) pa_nil)) (by rfl))
  (pss_cons (ps_set (i := 6) sc__law_rest_right.nd rfl (by first | exact Or.inl rfl | exact Or.inr rfl) (pe_callB (u_reprU (K := K) hr) (by rfl) T.f_repr (by decide +kernel) (pa_cons (pe_lst (pa_cons (pv 4) (pa_cons (pv 5) pa_nil))) pa_nil)))
  (pss_cons (ps_if (PW.pt (pw_or (pt_cmpR (u_ne (K := K) hr) (pe_callB (u_reprU (K := K) hr) (by rfl) T.f_repr (by decide +kernel) (pa_cons (pe_cal C_is_rest hr.le pass0 (pa_cons (pv 4) (pa_cons (pv 5) pa_nil))) pa_nil)) (pv 3) (nomark _)) (pw_or1 (pt_cmpR (u_ne (K := K) hr) (pe_callB (u_reprU (K := K) hr) (by rfl) T.f_repr (by decide +kernel) (pa_cons (pe_calk CK_is_rest_0_value_data hr.le pass0 (pk_cons (pv 5) (pk_cons (pv 4) pk_nil))) pa_nil)) (pv 3) (nomark _)))))
  (pss_one (ps_ret pe_bl)) pss_nil)
  (pss_one (ps_ret (pe_cmpR (u_eq (K := K) hr) (pe_callB (u_reprU (K := K) hr) (by rfl) T.f_repr (by decide +kernel) (pa_cons (pe_lst (pa_cons (pv 4) (pa_cons (pv 5) pa_nil))) pa_nil)) (pv 6) (nomark _))))))))), ?_⟩)
  · obtain ⟨a, b, c, os, ys, n, rfl, _⟩ := h
    rfl
  · obtain ⟨a, b, c, os, ys, n, rfl, B, nb, nc, hb, hc, oo, oy, lo, ly, hn, q⟩ := h
    refine ⟨_, rfl, _, rfl, b, c, os, ys, rfl, SqL.of hb, SqL.of hc, oo, oy, lo, ly, fun H1 e1 => rp_bl _ ?_⟩
    refine ⟨_, rfl, _, rfl, a, b, os, n, rfl, B.ex e1, nb, e1 _ _ hb, by omega, by omega, fun p t H2 np e2 B2 hp => ?_⟩
    have hc2 := e2 c _ nc (e1 _ _ hc)
    refine ⟨_, rfl, _, rfl, a, c, ys, n + 1, rfl, B2, nc, hc2, by omega, by omega, fun r u H3 nr e3 B3 hr3 => ?_⟩
    have hp3 := e3 p _ np hp
    have E3 := ((Exb.of e1).trans e2 (a := a)).trans e3
    have P3 := Sv.at (K := K) hp3
    have R3 := Sv.at (K := K) hr3
    refine ⟨_, _, rfl, _, rfl, _, rfl, by show 2 ≤ sizeLine; decide, fun l nl => ?_⟩
    have x0 := Evl.Ex.new (o := .lst [V.ref p, .ref r]) nl
    have P4 := P3.ex x0
    have R4 := R3.ex x0
    have B4 := B3.ex x0
    refine rp_pair upd_same P4 R4 oo oy (by omega) (by omega) ?_
    refine ⟨_, rfl, _, rfl, p, r, os, ys, t, u, rfl, P4, R4, oo, oy, lo, ly, fun H5 e5 => rp_bl _ ⟨_, rfl, .inl ⟨rfl, _, rfl, same_ne ?_⟩⟩⟩
    refine ⟨_, rfl, _, rfl, rfl, rfl, p, r, os, ys, t, u, rfl, P4.ex e5, R4.ex e5, oo, oy, lo, ly, fun H6 e6 => rp_bl _ ⟨_, rfl, .inl ⟨rfl, _, rfl, same_ne ?_⟩⟩⟩
    refine ⟨_, rfl, _, rfl, by show 2 ≤ sizeLine; decide, fun l2 n2 => ?_⟩
    have x7 := Evl.Ex.new (o := .lst [V.ref p, .ref r]) n2
    have E := x0.trans ((e5.trans e6).trans x7)
    refine rp_pair upd_same (P3.ex E) (R3.ex E) oo oy (by omega) (by omega) ⟨_, rfl, .inl ⟨rfl, ?_⟩⟩
    rw [decide_eq_true rfl]
    exact q _ (E3.trans (Exb.of E)) ((B3.ex E).le (by omega))
end
end K09
namespace K09
open PySem PySem.Spec PyProof.Rows L2 VB BM
theorem in_oct {x y : Int} (hx : 0 ≤ x ∧ x ≤ 255) (hy : 0 ≤ y ∧ y ≤ 255) (h : Builtin.bitAnd x y = x) : x ≤ y ∧ zc (bitsOf y) ≤ zc (bitsOf x) ∧ (zc (bitsOf y) = zc (bitsOf x) → y = x) := by
  obtain ⟨a, rfl⟩ := nat_of hx.1
  obtain ⟨b, rfl⟩ := nat_of hy.1
  rw [VB.bitAnd_nn] at h
  have h' : inO a b = true := by
    unfold inO
    have : a &&& b = a := by omega
    rw [this]
    simp
  have r := inO_ok a (by omega) b (by omega) h'
  rw [zO_eq a (by omega), zO_eq b (by omega)] at r
  unfold zc
  refine ⟨by omega, by omega, fun e => ?_⟩
  have := r.2.2 e
  omega
/-- each bit of xs is one of ys -/
def Inn (xs ys : List Int) : Prop := ∀ j, j < xs.length → Builtin.bitAnd (xs.getD j 0) (ys.getD j 0) = xs.getD j 0
theorem zc_mono : ∀ xs ys : List Int, Oct xs → Oct ys → xs.length = ys.length → Inn xs ys → zc (bitsL ys) ≤ zc (bitsL xs) ∧ (zc (bitsL ys) = zc (bitsL xs) → ys = xs)
  | [], [], _, _, _, _ => ⟨Int.le_refl _, fun _ => rfl⟩
  | [], _ :: _, _, _, h, _ => by cases h
  | _ :: _, [], _, _, h, _ => by cases h
  | x :: xs, y :: ys, ox, oy, hl, h => by
    have r := zc_mono xs ys (fun z hz => ox z (List.mem_cons_of_mem _ hz)) (fun z hz => oy z (List.mem_cons_of_mem _ hz)) (by simpa using hl) fun j hj => h (j + 1) (Nat.succ_lt_succ hj)
    have q := in_oct (ox x (List.mem_cons_self ..)) (oy y (List.mem_cons_self ..)) (h 0 (Nat.zero_lt_succ _))
    rw [bitsL_cons, bitsL_cons, zc_app, zc_app]
    refine ⟨by omega, fun e => ?_⟩
    rw [q.2.2 (by omega), r.2 (by omega)]
theorem split31 {os : List Int} (h : os.length = 31) : os = os.take 30 ++ [os.getD 30 0] := by
  have e := List.take_append_drop 30 os
  have d : os.drop 30 = [os.getD 30 0] := by
    have l := List.length_drop (l := os) (i := 30)
    rw [h] at l
    obtain ⟨z, hz⟩ : ∃ z, os.drop 30 = [z] := List.length_eq_one_iff.mp l
    rw [hz]
    have g : (os.drop 30)[0]? = os[30]? := by rw [List.getElem?_drop]
    rw [hz, get30 h] at g
    exact congrArg (fun a => [a]) (Option.some.inj g)
  rw [d] at e
  exact e.symm
theorem ovr_mono {xs ys : List Int} (ox : Oct xs) (oy : Oct ys) (lx : xs.length = 31) (ly : ys.length = 31) (h : Inn xs ys) : ovr xs ≤ ovr ys ∧ (ovr xs = ovr ys → ys = xs) := by
  have t30 : ∀ (zs : List Int) (j : Nat), j < 30 → (zs.take 30).getD j 0 = zs.getD j 0 := by
    intro zs j hj
    rw [List.getD_eq_getElem?_getD, List.getD_eq_getElem?_getD, List.getElem?_take]
    rw [if_pos hj]
  have r := zc_mono (xs.take 30) (ys.take 30) (fun z hz => ox z (List.mem_of_mem_take hz)) (fun z hz => oy z (List.mem_of_mem_take hz)) (by rw [List.length_take, List.length_take, lx, ly]) (by
    intro j hj
    rw [List.length_take, lx] at hj
    have hj' : j < 30 := by omega
    rw [t30 xs j hj', t30 ys j hj']
    exact h j (by omega))
  have q := in_oct (ox _ (List.mem_of_getElem? (get30 lx))) (oy _ (List.mem_of_getElem? (get30 ly))) (h 30 (by omega))
  unfold ovr
  refine ⟨by omega, fun e => ?_⟩
  rw [split31 ly, split31 lx, r.2 (by omega)]
  congr 2
  omega
theorem ovr_whole {os : List Int} (lo : os.length = 30) : ovr (os ++ [zc (bitsL os)]) = 0 := by
  unfold ovr
  have e1 : (os ++ [zc (bitsL os)]).getD 30 0 = zc (bitsL os) := by
    rw [List.getD_eq_getElem?_getD, List.getElem?_append_right (by omega), lo]
    rfl
  have e2 : (os ++ [zc (bitsL os)]).take 30 = os := by rw [← lo, List.take_left]
  rw [e1, e2]
  omega
theorem oct_whole {os : List Int} (oo : Oct os) (lo : os.length = 30) : Oct (os ++ [zc (bitsL os)]) ∧ (os ++ [zc (bitsL os)]).length = 31 := by
  have zb := zc_bound (bitsL os)
  rw [bitsL_len, lo] at zb
  exact ⟨oct_snoc oo zb.1 (by omega), by simp [lo]⟩
theorem rest_inn {os ys : List Int} (lo : os.length = 30) : rest os ys = true ↔ Inn (os ++ [zc (bitsL os)]) ys := by
  rw [rest_iff]
  have l : (os ++ [zc (bitsL os)]).length = 31 := by simp [lo]
  unfold Inn
  rw [l]
theorem rest_facts {os ys : List Int} (oo : Oct os) (oy : Oct ys) (lo : os.length = 30) (ly : ys.length = 31) (h : rest os ys = true) : 0 ≤ ovr ys ∧ ovr ys ≤ 255 ∧ (ovr ys = 0 ↔ ys = os ++ [zc (bitsL os)]) := by
  obtain ⟨ow, lw⟩ := oct_whole oo lo
  have r := ovr_mono ow oy lw ly ((rest_inn lo).mp h)
  have b := ovr_bound oy ly
  rw [ovr_whole lo] at r
  refine ⟨r.1, b.2, fun e => r.2 e.symm, fun e => ?_⟩
  rw [e]
  exact ovr_whole lo
/-- what bits fallen or risen make of a page -/
theorem mv_up {os ms : List Int} (oo : Oct os) (om : Oct ms) (h : os.length = ms.length) : Inn os (mvL os ms 1) := by
  intro j hj
  have hw := getD_get (xs := os) (i := j) hj
  have hv := getD_get (xs := mvL os ms 1) (i := j) (by unfold mvL; rw [both_len h]; exact hj)
  obtain ⟨x, y, hx, hy, e⟩ := both_get hv
  rw [hw] at hx
  have ex := Option.some.inj hx
  rw [e, ← ex]
  have bx := oo _ (List.mem_of_getElem? hw)
  have by_ := om _ (List.mem_of_getElem? hy)
  show Builtin.bitAnd (os.getD j 0) (mvO (os.getD j 0) y 1) = os.getD j 0
  unfold mvO
  rw [if_pos rfl]
  generalize os.getD j 0 = o at bx ⊢
  obtain ⟨a, rfl⟩ := nat_of bx.1
  obtain ⟨b, rfl⟩ := nat_of by_.1
  rw [or_nn, VB.bitAnd_nn, Nat.and_or_distrib_left, Nat.and_self]
  congr 1
  apply Nat.eq_of_testBit_eq
  intro i
  simp only [Nat.testBit_or, Nat.testBit_and]
  cases a.testBit i <;> simp
theorem mv_down {os ms : List Int} {aim : Int} (ha : aim ≠ 1) (oo : Oct os) (om : Oct ms) (h : os.length = ms.length) : Inn (mvL os ms aim) os := by
  intro j hj
  have hj' : j < os.length := by
    have := hj
    unfold mvL at this
    rw [both_len h] at this
    exact this
  have hw := getD_get (xs := os) (i := j) hj'
  have hv := getD_get (xs := mvL os ms aim) (i := j) hj
  obtain ⟨x, y, hx, hy, e⟩ := both_get hv
  rw [hw] at hx
  have ex := Option.some.inj hx
  rw [e, ← ex]
  have bx := oo _ (List.mem_of_getElem? hw)
  have by_ := om _ (List.mem_of_getElem? hy)
  show Builtin.bitAnd (mvO (os.getD j 0) y aim) (os.getD j 0) = mvO (os.getD j 0) y aim
  unfold mvO
  rw [if_neg ha]
  generalize os.getD j 0 = o at bx ⊢
  obtain ⟨a, rfl⟩ := nat_of bx.1
  obtain ⟨b, hb⟩ := nat_of (o := 255 - y) (by omega)
  rw [hb, VB.bitAnd_nn, VB.bitAnd_nn]
  congr 1
  apply Nat.eq_of_testBit_eq
  intro i
  simp only [Nat.testBit_and]
  cases a.testBit i <;> simp
end K09
namespace K09
open PySem PySem.Spec PyProof.Rows L2 VB BM
section
variable {P : Program} {w : World} {K : PySem.W.Frag} {mg : Str → Option Value} {base : Heap} {f : Addr} {fd : FuncData}
def spClean (K : PySem.W.Frag) : Sp := fun vs H Q _ => ∃ (a : Addr) (os : List Int) (t : Bool), vs = [.ref a] ∧ Sv t K H a (IV os) ∧ Oct os ∧ os.length = 31 ∧ RV (.bl (pln os)) H Q
def spWhole (K : PySem.W.Frag) : Sp := fun vs H Q _ => ∃ (a : Addr) (os : List Int) (t : Bool), vs = [.ref a] ∧ Sv t K H a (IV os) ∧ Oct os ∧ os.length = 31 ∧ RV (.bl (decide (ovr os = 0))) H Q
def spTorn (K : PySem.W.Frag) : Sp := fun vs H Q _ => ∃ (a : Addr) (os : List Int) (t : Bool), vs = [.ref a] ∧ Sv t K H a (IV os) ∧ Oct os ∧ os.length = 31 ∧ RV (.bl (!decide (ovr os = 0) && !pln os)) H Q
def spSurplus (K : PySem.W.Frag) : Sp := fun vs H Q _ => ∃ (a : Addr) (os : List Int) (t : Bool), vs = [.ref a] ∧ Sv t K H a (IV os) ∧ Oct os ∧ os.length = 31 ∧ RV (.int (ovr os)) H Q
def spDataOf (K : PySem.W.Frag) : Sp := fun vs H Q _ => ∃ (a : Addr) (os : List Int) (t : Bool), vs = [.ref a] ∧ Sv t K H a (IV os) ∧ Oct os ∧ os.length = 31 ∧ ∀ (v : V) (H' : Hp), Evl.Ex H H' → Dp K H' v (if ovr os = 0 then DT (os.take 30) else .none) → Q v H'
def spSealed (K : PySem.W.Frag) : Sp := fun vs H Q _ => ∃ (a : Addr) (os : List Int) (t : Bool), vs = [.ref a] ∧ Sv t K H a (IV os) ∧ Oct os ∧ os.length = 30 ∧ ∀ (p : Addr) (H' : Hp), Evl.Ex H H' → SqT K H' p (IV (os ++ [zc (bitsL os)])) → Q (.ref p) H'
abbrev toldD (ys : List Int) : PyData := .list [if ovr ys = 0 then DT (ys.take 30) else .none, .bool (decide (ovr ys = 0)), .bool (pln ys), .bool (!decide (ovr ys = 0) && !pln ys)]
theorem sh_told {ys : List Int} (o : Oct ys) : Sh (toldD ys) 2 160012 := by
  refine (sh_list (n := 4) (h := 1) (b := 40000) (fun d hd => ?_) (by simp)).le
  simp only [List.mem_cons, List.not_mem_nil, or_false] at hd
  rcases hd with rfl | rfl | rfl | rfl
  · split
    · exact sh_t (sm_take o 30) (by rw [List.length_take]; omega)
    · exact sh_none.le
  · exact (sh_bool _).le
  · exact (sh_bool _).le
  · exact (sh_bool _).le
def spKR (K : PySem.W.Frag) : Sp := fun vs H Q _ => ∃ (b c : Addr) (os ys : List Int), vs = [.ref b, .ref c] ∧ H b = some (.lst (IV os)) ∧ H c = some (.lst (IV ys)) ∧ Oct os ∧ Oct ys ∧ os.length = 30 ∧ ys.length = 31 ∧ rest os ys = true ∧ RV (.bl true) H Q
theorem ok_lkr (T : Txt K mg) (F : FnP K "_law_kind_right" s__law_kind_right f fd) (C__law_page : Cal P w K mg base CX0 2 "_law_page" ["_law_data_here"] (spPg K)) (C__law_zeros : Cal P w K mg base CX0 1 "_law_zeros" ["_law_octets"] (spLZ K))
    (C_surplus : Cal P w K mg base CX0 8 "surplus" ["octets"] (spSurplus K)) (C_data_of : Cal P w K mg base CX0 8 "data_of" ["octets"] (spDataOf K)) (C_is_whole : Cal P w K mg base CX0 8 "is_whole" ["value"] (spWhole K))
    (C_is_clean : Cal P w K mg base CX0 8 "is_clean" ["value"] (spClean K)) (C_is_torn : Cal P w K mg base CX0 8 "is_torn" ["value"] (spTorn K)) : Fg P w K mg base CX0 9 f fd ["_law_data_here", "_law_page_here"] (spKR K) := by
  refine fg_of F sc__law_kind_right (fun vs H Q E h => ?_) (fun cdv A outer s H vs Q E hr h => ⟨_, (PSs.nox (pss_cons (ps_par (i := 2) (j := 3) rfl sc__law_kind_right.nd rfl rfl (by decide) rfl rfl (pa_cons (pe_cal C_surplus hr.le pass0 (pa_cons (pv 1) pa_nil)) (pa_cons (pe_cmpR (u_eq (K := K) hr) (pv 1) (pe_cal C__law_page hr.le pass0 (pa_cons (pv 0) pa_nil)) (nomark _)) pa_nil)) (by rfl))
  (pss_cons (ps_if (PW.pt (pw_or (pt_cmpR (u_ne (K := K) hr) (pe_callB (u_reprU (K := K) hr) (by rfl) T.f_repr (by decide +kernel) (pa_cons (pv 2) pa_nil)) (pe_callB (u_reprU (K := K) hr) (by rfl) T.f_repr (by decide +kernel) (pa_cons (pe_op op_sub (pe_ix (u_ix (K := K)) (pv 1) pe_int (fun _ _ => rfl)) (pe_cal C__law_zeros hr.le pass0 (pa_cons (pe_slice (u_sl (K := K)) (pv 1) po_none (po_some pe_int)) pa_nil))) pa_nil)) (nomark _)) (pw_or (pt_not (pt_chain op_le op_le pe_int (pv 2) pe_int)) (pw_or1 (pt_cmpR (u_ne (K := K) hr) (pe_cmpR (u_eq (K := K) hr) (pv 2) pe_int (nomark _)) (pv 3) (nomark _))))))
  (pss_one (ps_ret pe_bl)) pss_nil)
  (pss_cons (ps_par (i := 4) (j := 5) rfl sc__law_kind_right.nd rfl rfl (by decide) rfl rfl (pa_cons (pe_lst (pa_cons (pe_cal C_data_of hr.le pass0 (pa_cons (pv 1) pa_nil)) (pa_cons (pe_cal C_is_whole hr.le pass0 (pa_cons (pv 1) pa_nil)) (pa_cons (pe_cal C_is_clean hr.le pass0 (pa_cons (pv 1) pa_nil)) (pa_cons (pe_cal C_is_torn hr.le pass0 (pa_cons (pv 1) pa_nil)) pa_nil))))) (pa_cons (pe_cmpR (u_eq (K := K) hr) (pv 1) (pe_op (u_mul (K := K)) (pe_lst (pa_cons pe_int pa_nil)) pe_int) (nomark _)) pa_nil)) (by rfl))
  (pss_one (ps_ret (pe_cmpR (u_eq (K := K) hr) (pe_callB (u_reprU (K := K) hr) (by rfl) T.f_repr (by decide +kernel) (pa_cons (pv 4) pa_nil)) (pe_callB (u_reprU (K := K) hr) (by rfl) T.f_repr (by decide +kernel) (pa_cons (pe_lst (pa_cons (pe_ifExp (pt_tru (K := K) (pv 3) (by intro _; rfl)) (pe_callTy (u_tup (K := K)) (by rfl) T.f_tuple (by decide +kernel) (pa_cons (pv 0) pa_nil)) pe_non) (pa_cons (pv 3) (pa_cons (pv 5) (pa_cons (pe_and (pe_not (pv 3)) (pe_one (pe_not (pv 5)))) pa_nil))))) pa_nil)) (nomark _)))))))), ?_⟩)
  · obtain ⟨b, c, os, ys, rfl, _⟩ := h
    rfl
  · obtain ⟨b, c, os, ys, rfl, hb, hc, oo, oy, lo, ly, hr9, q⟩ := h
    obtain ⟨v0, v1, vw⟩ := rest_facts oo oy lo ly hr9
    refine ⟨_, rfl, c, ys, false, rfl, Sv.lst hc, oy, ly, fun H1 e1 => ?_⟩
    refine ⟨_, rfl, _, rfl, b, os, false, rfl, Sv.lst (e1 _ _ hb), by omega, fun g H2 ng e2 hg => ?_⟩
    have hc2 := e2 _ _ (e1 _ _ hc)
    have E2 := e1.trans e2
    have lg : (ovr ys).natAbs.log2 < 1920 := log_small v0 (by omega)
    refine .inr (req_l (SqL.of hc2) (SqL.of hg) ⟨_, _, rfl, ?_⟩)
    have S2 := Sv.lst (K := K) hc2
    refine ⟨_, rfl, rp_int lg ⟨_, rfl, Sv.ix (x := .non) S2 (i := 30) (iv_at (i := 30) (get30 ly)) ⟨_, rfl, 30, rfl, Sv.first S2 (n := 30) (by omega) fun p H3 np e3 S3 => ⟨p, _, false, rfl, S3, by rw [List.length_take]; omega, fun H4 e4 => ⟨_, _, rfl, rfl, rp_int lg (.inl ⟨rfl, _, rfl, same_v rfl ?_⟩)⟩⟩⟩⟩⟩
    have E4 := E2.trans (e3.trans e4)
    refine ⟨_, rfl, _, _, rfl, rfl, _, rfl, ?_⟩
    rw [decide_eq_true v0]
    refine iteT ⟨_, _, rfl, rfl, _, rfl, ?_⟩
    rw [decide_eq_true v1]
    refine iteF ⟨_, rfl, .inl ⟨rfl, _, rfl, .inl ⟨rfl, _, rfl, same_bl ?_ ?_⟩⟩⟩
    · rw [K09.dec_int]
      exact decide_eq_decide.mpr vw
    have S4 := S2.ex (e3.trans e4)
    refine ⟨_, rfl, c, ys, false, rfl, S4, oy, ly, fun v H5 e5 d5 => ⟨_, rfl, c, ys, false, rfl, S4.ex e5, oy, ly, fun H6 e6 => ?_⟩⟩
    have S6 := S4.ex (e5.trans e6)
    refine ⟨_, rfl, c, ys, false, rfl, S6, oy, ly, fun H7 e7 => ⟨_, rfl, c, ys, false, rfl, S6.ex e7, oy, ly, fun H8 e8 => ⟨by show 4 ≤ sizeLine; decide, fun l nl => ?_⟩⟩⟩
    have xl := Evl.Ex.new (o := .lst [v, .bl (decide (ovr ys = 0)), .bl (pln ys), .bl (!decide (ovr ys = 0) && !pln ys)]) nl
    have hl := upd_same (H := H8) (a := l) (o := .lst [v, .bl (decide (ovr ys = 0)), .bl (pln ys), .bl (!decide (ovr ys = 0) && !pln ys)])
    refine ⟨_, rfl, by show 1 ≤ sizeLine; decide, fun l0 n0 => rep_l (k := 31) upd_same (by omega) (by omega) fun l1 n1 => ?_⟩
    have x1 := Evl.Ex.new (o := .lst [V.int 255]) n0
    have x2 := Evl.Ex.new (o := .lst (IV (List.replicate (31 : Int).toNat 255))) n1
    have h1 := upd_same (H := upd (upd H8 l (.lst [v, .bl (decide (ovr ys = 0)), .bl (pln ys), .bl (!decide (ovr ys = 0) && !pln ys)])) l0 (.lst [V.int 255])) (a := l1) (o := .lst (IV (List.replicate (31 : Int).toNat 255)))
    have hl9 := x2 _ _ (x1 _ _ hl)
    have E9 := ((((e6.trans e7).trans e8).trans xl).trans x1).trans x2
    have S9 := S4.ex (e5.trans E9)
    have d9 := Dp.ex E9 _ _ d5
    have hb9 := E9 _ _ (e5 _ _ (E4 _ _ hb))
    have E0 := E4.trans (e5.trans E9)
    refine .inr (req_l (ns := ys) S9 (SqL.of h1) ⟨_, _, rfl, ?_⟩)
    have ep : decide (ys = List.replicate (31 : Int).toNat 255) = pln ys := rfl
    rw [ep]
    generalize upd (upd (upd H8 l (.lst [v, .bl (decide (ovr ys = 0)), .bl (pln ys), .bl (!decide (ovr ys = 0) && !pln ys)])) l0 (.lst [V.int 255])) l1 (.lst (IV (List.replicate (31 : Int).toNat 255))) = H9 at hl9 d9 hb9 E0 ⊢
    refine ⟨_, rfl, .inl (rp (.lst (SqL.of hl9) (.cons d9 (.cons (.bl _) (.cons (.bl _) (.cons (.bl _) .nil))))) (sh_told oy) ?_)⟩
    have ew : decide (ys = os ++ [zc (bitsL os)]) = decide (ovr ys = 0) := decide_eq_decide.mpr vw.symm
    rw [ew]
    have fin : ∀ (v' : V) (H10 : Hp) (d' : PyData) (x : Bool), Evl.Ex H9 H10 → Dp K H10 v' d' → PyData.list [d', .bool (decide (ovr ys = 0)), .bool (pln ys), .bool x] = toldD ys → 4 ≤ sizeLine ∧ ∀ l2, H10 l2 = none → (rReprU K [.ref l2] (upd H10 l2 (.lst [v', .bl (decide (ovr ys = 0)), .bl (pln ys), .bl x])) fun y H2 => rEqU K (.str (toldD ys).shown) y H2 Q) := by
      intro v' H10 d' x e10 d10 eq
      refine ⟨by decide, fun l2 n2 => ?_⟩
      have x2 := Evl.Ex.new (o := .lst [v', .bl (decide (ovr ys = 0)), .bl (pln ys), .bl x]) n2
      have dd : Dp K (upd H10 l2 (.lst [v', .bl (decide (ovr ys = 0)), .bl (pln ys), .bl x])) (.ref l2) (toldD ys) := by
        rw [← eq]
        exact .lst (SqL.of upd_same) (.cons (Dp.ex x2 _ _ d10) (.cons (.bl _) (.cons (.bl _) (.cons (.bl _) .nil))))
      refine .inl (rp dd (sh_told oy) (.inl ⟨rfl, ?_⟩))
      rw [decide_eq_true rfl]
      exact q _ (E0.trans (e10.trans x2))
    by_cases z : ovr ys = 0
    · have d1 : decide (ovr ys = 0) = true := decide_eq_true z
      have t30 : ys.take 30 = os := by rw [vw.mp z, ← lo, List.take_left]
      refine ⟨_, rfl, _, rfl, ?_⟩
      have go : ∀ {A B : Prop}, A → if decide (ovr ys = 0) = true then A else B := fun h => by rw [d1]; exact iteT h
      have stop : ∀ {A B : Prop}, B → if (!decide (ovr ys = 0)) = true then A else B := fun h => by rw [d1]; exact iteF h
      refine go ⟨_, rfl, b, _, rfl, .inl ⟨SqL.of hb9, fun p np => ⟨_, rfl, _, rfl, _, rfl, _, rfl, _, rfl, stop ?_⟩⟩⟩
      exact fin _ _ (DT os) false (Evl.Ex.new np) (dp_t (SqT.of upd_same)) (by unfold toldD; rw [if_pos z, t30, d1]; rfl)
    · have d0 : decide (ovr ys = 0) = false := decide_eq_false z
      refine ⟨_, rfl, _, rfl, ?_⟩
      have go : ∀ {A B : Prop}, B → if decide (ovr ys = 0) = true then A else B := fun h => by rw [d0]; exact iteF h
      have stop : ∀ {A B : Prop}, A → if (!decide (ovr ys = 0)) = true then A else B := fun h => by rw [d0]; exact iteT h
      refine go ⟨_, rfl, _, rfl, _, rfl, _, rfl, _, rfl, stop ⟨_, rfl, _, rfl, ?_⟩⟩
      exact fin _ _ .none _ (Evl.Ex.refl _) .non (by unfold toldD; rw [if_neg z, d0]; rfl)
end
end K09
namespace K09
open PySem PySem.Spec PyProof.Rows L2 VB BM
/-- at q: a page that is a rest of os, a list -/
def RAt (os : List Int) (H : Hp) (a q : Addr) : Prop := ∃ ys : List Int, Oct ys ∧ ys.length = 31 ∧ rest os ys = true ∧ q ≠ a ∧ H q = some (.lst (IV ys))
theorem RAt.exb {os : List Int} {H H' : Hp} {a q : Addr} (h : RAt os H a q) (e : Exb a H H') : RAt os H' a q := by
  obtain ⟨ys, o, l, r, n, h⟩ := h
  exact ⟨ys, o, l, r, n, e q _ n h⟩
theorem refs_iv {qs : List Addr} {ys : List Int} (l : ys.length = 31) (h : qs.map V.ref = IV ys) : False := by
  cases ys with
  | nil => cases l
  | cons y ys =>
    cases qs with
    | nil => cases h
    | cons q qs =>
      have := (List.cons.inj h).1
      cases this
theorem RAt.updD {os : List Int} {H : Hp} {a q D : Addr} {qs : List Addr} {o : HO} (h : RAt os H a q) (hD : H D = some (.lst (qs.map V.ref))) : RAt os (upd H D o) a q := by
  obtain ⟨ys, oy, ly, r, na, h⟩ := h
  have n : q ≠ D := by
    rintro rfl
    rw [hD] at h
    have := Option.some.inj h
    injection this with e
    exact refs_iv ly e
  exact ⟨ys, oy, ly, r, na, by rw [upd_ne n]; exact h⟩
theorem ref_get {ps : List Addr} {i : Nat} {x : V} (h : (ps.map V.ref)[i]? = some x) : ∃ q, q ∈ ps ∧ ps[i]? = some q ∧ x = .ref q := by
  rw [List.getElem?_map] at h
  cases e : ps[i]? with
  | none => rw [e] at h; cases h
  | some q =>
    rw [e] at h
    exact ⟨q, List.mem_of_getElem? e, rfl, (Option.some.inj h).symm⟩
theorem inn_self {os : List Int} (oo : Oct os) : Inn os os := by
  intro j hj
  have b := oo _ (List.mem_of_getElem? (getD_get hj))
  obtain ⟨x, hx⟩ := nat_of b.1
  rw [hx, VB.bitAnd_nn, Nat.and_self]
theorem and_255 : ∀ x : Nat, x < 256 → x &&& 255 = x := by decide +kernel
theorem inn_255 {os : List Int} (oo : Oct os) (lo : os.length = 31) : Inn os (List.replicate (31 : Int).toNat 255) := by
  intro j hj
  have b := oo _ (List.mem_of_getElem? (getD_get hj))
  have e : (List.replicate (31 : Int).toNat (255 : Int)).getD j 0 = 255 := by
    rw [List.getD_eq_getElem?_getD, List.getElem?_replicate, if_pos (by show j < 31; omega)]
    rfl
  obtain ⟨x, hx⟩ := nat_of b.1
  rw [e, hx]
  show Builtin.bitAnd (x : Int) ((255 : Nat) : Int) = x
  rw [VB.bitAnd_nn, and_255 x (by omega)]
section
variable {P : Program} {w : World} {K : PySem.W.Frag} {mg : Str → Option Value} {base : Heap} {f : Addr} {fd : FuncData}
def spRs : Sp := fun vs H Q _ => ∃ (a d o : Addr) (os zs : List Int) (n : Int), vs = [.ref a, .ref d, .ref o] ∧ Box H a n ∧ d ≠ a ∧ o ≠ a ∧ H d = some (.lst (IV os)) ∧ H o = some (.lst (IV zs)) ∧ Oct os ∧ Oct zs ∧ os.length = 30 ∧ zs.length = 30 ∧ n < 70000000 ∧ ∀ H' : Hp, Exb a H H' → Box H' a (n + 400) → Q (.bl true) H'
theorem ok_lrests (T : Txt K mg) (F : FnP K "_law_rests_right" s__law_rests_right f fd) (C__law_page : Cal P w K mg base CX0 2 "_law_page" ["_law_data_here"] (spPg K)) (C__law_moved : Cal P w K mg base CX0 1 "_law_moved" ["_law_page_here", "_law_mask_here", "_law_aim"] (spMv K))
    (C__law_mask : Cal P w K mg base CX0 3 "_law_mask" ["_law_box_here"] spMk) (C__law_rest_right : Cal P w K mg base CX0 9 "_law_rest_right" ["_law_box_here", "_law_data_here", "_law_page_here"] (spRR K)) (C__law_kind_right : Cal P w K mg base CX0 9 "_law_kind_right" ["_law_data_here", "_law_page_here"] (spKR K))
    (C__law_spoilt : Cal P w K mg base CX0 2 "_law_spoilt" ["_law_box_here", "_law_whole", "_law_page_here"] (spSp K)) : Fg P w K mg base CX0 10 f fd ["_law_box_here", "_law_data_here", "_law_other_here"] spRs := by
  refine fg_of F sc__law_rests_right (fun vs H Q E h => ?_) (fun cdv A outer s H vs Q E hr h => ⟨_, (PSs.nox (pss_cons (ps_set (i := 3) sc__law_rests_right.nd rfl (by first | exact Or.inl rfl | exact Or.inr rfl) (pe_cal C__law_page hr.le pass0 (pa_cons (pv 1) pa_nil)))
  (pss_cons (ps_for PassesOwn.never rfl (pi_seq (K := K) (pe_op (u_add (K := K)) (pe_lst (pa_cons (pv 3) (pa_cons (pe_op (u_mul (K := K)) (pe_lst (pa_cons pe_int pa_nil)) pe_int) pa_nil))) (pe_lc (own := [("_law_k", 5)]) rfl sc__law_rests_right.nd (pi_range1 rfl T.f_range (pa_cons pe_int pa_nil)) (blkOk_by (own := [("_law_k", 5)]) (N := ["_law_box_here", "_law_data_here", "_law_other_here", "_law_whole", "_law_page_here", "_law_k"]) (sc := defScope s__law_rests_right) (by decide +kernel)) (fun _ _ _ _ _ => (pg_name (i := 5) sc__law_rests_right.nd rfl (by first | exact Or.inl rfl | exact Or.inr rfl))) (fun _ _ _ _ _ => pts_nil) (fun _ _ _ _ _ => (pe_cal C__law_moved hr.le pass0 (pa_cons (pv 3) (pa_cons (pe_cal C__law_mask hr.le pass0 (pa_cons (pv 0) pa_nil)) (pa_cons pe_int pa_nil)))))))) (pg_name (i := 4) sc__law_rests_right.nd rfl (by first | exact Or.inl rfl | exact Or.inr rfl))
  (pss_cons (ps_if (PW.pt (pw_or (pt_not (pt_tru (K := K) (pe_cal C__law_rest_right hr.le pass0 (pa_cons (pv 0) (pa_cons (pv 1) (pa_cons (pv 4) pa_nil)))) (by intro _; rfl))) (pw_or1 (pt_not (pt_tru (K := K) (pe_cal C__law_kind_right hr.le pass0 (pa_cons (pv 1) (pa_cons (pv 4) pa_nil))) (by intro _; rfl))))))
  (pss_one (ps_ret pe_bl)) pss_nil)
  (pss_cons (ps_if (pt_not (pt_tru (K := K) (pe_cal C__law_rest_right hr.le pass0 (pa_cons (pv 0) (pa_cons (pv 2) (pa_cons (pv 4) pa_nil)))) (by intro _; rfl)))
  (pss_one (ps_ret pe_bl)) pss_nil)
  (pss_one (ps_if (pt_not (pt_tru (K := K) (pe_cal C__law_rest_right hr.le pass0 (pa_cons (pv 0) (pa_cons (pv 1) (pa_cons (pe_cal C__law_spoilt hr.le pass0 (pa_cons (pv 0) (pa_cons (pv 3) (pa_cons (pv 4) pa_nil)))) pa_nil)))) (by intro _; rfl)))
  (pss_one (ps_ret pe_bl)) pss_nil)))))
  (pss_one (ps_ret pe_bl))))), ?_⟩)
  · obtain ⟨a, d, o, os, zs, n, rfl, _⟩ := h
    rfl
  · obtain ⟨a, d, o, os, zs, n, rfl, B, nd, no, hd, ho, oo, oz, lo, lz, hn, q⟩ := h
    obtain ⟨ow, lw⟩ := oct_whole oo lo
    refine ⟨_, rfl, d, os, false, rfl, Sv.lst hd, by omega, fun g H1 ng e1 hg => ?_⟩
    have nga := B.at ng
    have B1 := B.ex e1
    refine .inl ⟨_, rfl, by show 1 ≤ sizeLine; decide, fun l0 n0 => rep_l (k := 31) upd_same (by omega) (by omega) fun l1 n1 => ⟨by show 2 ≤ sizeLine; decide, fun l2 n2 => ?_⟩⟩
    have x0 := Evl.Ex.new (o := .lst [V.int 255]) n0
    have x1 := Evl.Ex.new (o := .lst (IV (List.replicate (31 : Int).toNat 255))) n1
    have h1 := upd_same (H := upd H1 l0 (.lst [V.int 255])) (a := l1) (o := .lst (IV (List.replicate (31 : Int).toNat 255)))
    have x2 := Evl.Ex.new (o := .lst [V.ref g, .ref l1]) n2
    have h2 := upd_same (H := upd (upd H1 l0 (.lst [V.int 255])) l1 (.lst (IV (List.replicate (31 : Int).toNat 255)))) (a := l2) (o := .lst [V.ref g, .ref l1])
    have m1 := B1.at (Evl.fresh_back x0 n1)
    have m2 := B1.at (Evl.fresh_back (x0.trans x1) n2)
    have X := (x0.trans x1).trans x2
    have B2 := B1.ex X
    have h1 := x2 _ _ h1
    have hg2 := X _ _ hg
    have E2 := e1.trans X
    generalize upd (upd (upd H1 l0 (.lst [V.int 255])) l1 (.lst (IV (List.replicate (31 : Int).toNat 255)))) l2 (.lst [V.ref g, .ref l1]) = H2 at h1 h2 hg2 B2 E2 ⊢
    have Rg : RAt os H2 a g := ⟨_, ow, lw, (rest_inn lo).mpr (inn_self ow), nga, hg2⟩
    have R1 : RAt os H2 a l1 := ⟨_, oct_rep (by omega), by rw [List.length_replicate]; rfl, (rest_inn lo).mpr (inn_255 ow lw), m1, h1⟩
    have hd2 := E2 _ _ hd
    have ho2 := E2 _ _ ho
    clear x0 x1 x2 X n0 n1 n2 e1 ng hg h1
    refine ⟨4, rfl, by omega, by omega, fun D hD => ?_⟩
    have nD := B2.at hD
    refine lc_range (lo := 0) (n := 4) (fun i H' => i ≤ 4 ∧ Exb a H2 H' ∧ Box H' a (n + 70 * i) ∧ ∃ qs : List Addr, qs.length = i ∧ H' D = some (.lst (qs.map V.ref)) ∧ ∀ q ∈ qs, RAt os H' a q) ⟨by omega, Exb.new hD, (B2.ex (Evl.Ex.new hD)).le (by omega), [], rfl, upd_same, fun _ h => (by cases h)⟩ ?_ ?_
    · rintro i H3 hi ⟨_, e3, B3, qs, lq, hqs, hh⟩
      have hg3 := e3 g _ nga hg2
      refine ⟨rfl, _, rfl, _, rfl, a, n + 70 * i, rfl, B3, by omega, fun p H4 ms om lm np fp e4 B4 hp => ?_⟩
      refine ⟨g, p, _, ms, 1, rfl, SqL.of (e4 g _ nga hg3), SqL.of hp, ow, om, lw, lm, fun r H5 nr e5 hr5 => ?_⟩
      have hqs5 := e5 _ _ (e4 D _ nD hqs)
      have F := e4.trans (Exb.of e5)
      refine ⟨_, hqs5, by rw [List.length_map, lq]; exact Evl.sz_lt (by omega), by omega, Exb.mut (e3.trans F) hD, Box.mut ((B4.ex e5).le (by omega)) nD, qs ++ [r], by simp [lq], by rw [upd_same, List.map_append]; rfl, ?_⟩
      intro q' hq'
      rcases List.mem_append.mp hq' with h | h
      · exact ((hh q' h).exb F).updD hqs5
      · have : q' = r := by simpa using h
        subst this
        have lm' : ms.length = 31 := lm
        exact RAt.updD ⟨mvL (os ++ [zc (bitsL os)]) ms 1, mvL_oct ow om, by unfold mvL; rw [both_len (by omega)]; exact lw, (rest_inn lo).mpr (mv_up ow om (by omega)), (B4.at nr), hr5⟩ hqs5
    rintro H3 ⟨_, e3, B3, qs, lq, hqs, hh⟩
    refine .inr (.inl ⟨l2, D, _, _, rfl, rfl, e3 l2 _ m2 h2, hqs, by rw [List.length_map, lq]; show 6 ≤ sizeLine; decide, fun t nt => ⟨t, rfl, ⟨_, SqL.of upd_same⟩, ?_⟩⟩)
    have xt := Evl.Ex.new (o := .lst ([V.ref g, V.ref l1] ++ qs.map V.ref)) nt
    have ht := upd_same (H := H3) (a := t) (o := .lst ([V.ref g, V.ref l1] ++ qs.map V.ref))
    have nta := B3.at nt
    have B4 := B3.ex xt
    have E4 := (Exb.of E2).trans (e3.trans (Exb.of xt)) (a := a)
    have R4 : ∀ q ∈ g :: l1 :: qs, RAt os (upd H3 t (.lst ([V.ref g, V.ref l1] ++ qs.map V.ref))) a q := by
      intro q' hq'
      rcases List.mem_cons.mp hq' with rfl | h
      · exact (Rg.exb e3).exb (Exb.of xt)
      rcases List.mem_cons.mp h with rfl | h
      · exact (R1.exb e3).exb (Exb.of xt)
      · exact (hh q' h).exb (Exb.of xt)
    have hd4 := xt _ _ (e3 d _ nd hd2)
    have ho4 := xt _ _ (e3 o _ no ho2)
    have hg4 := xt _ _ (e3 g _ nga hg2)
    generalize upd H3 t (.lst ([V.ref g, V.ref l1] ++ qs.map V.ref)) = H4 at ht B4 E4 R4 hd4 ho4 hg4 ⊢
    have l6 : ([V.ref g, V.ref l1] ++ qs.map V.ref).length = 6 := by rw [List.length_append, List.length_map, lq]; rfl
    have wk := walk_list (K := K) (a := t) (xs := [V.ref g, V.ref l1] ++ qs.map V.ref)
    rw [l6] at wk
    refine for_it wk (fun i σ H' => ∃ v4 : Option V, σ = [some (.ref a), some (.ref d), some (.ref o), some (.ref g), v4, none] ∧ Exb a H4 H' ∧ Box H' a (n + 280 + 8 * i)) ⟨_, rfl, fun _ _ _ h => h, B4.le (by omega)⟩ (fun i σ H' _ h => SqL.of (h.choose_spec.2.1 t _ nta ht)) ?_ ?_
    · rintro i x σ H5 H5' hi ⟨v4, rfl, e5, B5⟩ ⟨rfl, hx⟩
      obtain ⟨p, hp1, _, rfl⟩ := ref_get (ps := g :: l1 :: qs) hx
      obtain ⟨ys, oy, ly, ry, np, hy⟩ := (R4 p hp1).exb e5
      have hd5 := e5 d _ nd hd4
      have ho5 := e5 o _ no ho4
      have hg5 := e5 g _ nga hg4
      refine ⟨_, rfl, _, rfl, _, rfl, a, d, p, os, ys, n + 280 + 8 * i, rfl, B5, nd, np, hd5, hy, oo, oy, lo, ly, by omega, fun H6 e6 B6 => ⟨true, rfl, iteF ?_⟩⟩
      refine ⟨_, rfl, _, rfl, d, p, os, ys, rfl, e6 d _ nd hd5, e6 p _ np hy, oo, oy, lo, ly, ry, fun H7 e7 => ⟨true, rfl, iteF ?_⟩⟩
      have E7 := e6.trans (Exb.of e7)
      refine ⟨_, rfl, _, rfl, _, rfl, a, o, p, zs, ys, n + 280 + 8 * i + 2, rfl, B6.ex e7, no, np, E7 o _ no ho5, E7 p _ np hy, oz, oy, lz, ly, by omega, fun H8 e8 B8 => ⟨true, rfl, iteF ?_⟩⟩
      have E8 := E7.trans e8
      refine ⟨_, rfl, _, rfl, _, rfl, _, rfl, _, rfl, a, g, p, os, ys, n + 280 + 8 * i + 2 + 2, rfl, B8, nga, np, E8 g _ nga hg5, E8 p _ np hy, oo, oy, lo, ly, by omega, fun r H9 xs ox lx nr fr e9 B9 hr9 => ?_⟩
      have E9 := E8.trans e9
      refine ⟨a, d, r, os, xs, n + 280 + 8 * i + 2 + 2 + 2, rfl, B9, nd, nr, E9 d _ nd hd5, hr9, oo, ox, lo, lx, by omega, fun H10 e10 B10 => ⟨true, rfl, iteF ?_⟩⟩
      exact ⟨_, rfl, (e5.trans E9).trans e10, B10.le (by omega)⟩
    rintro σ H5 ⟨v4, rfl, e5, B5⟩
    exact q _ (E4.trans e5) (B5.le (by omega))
end
end K09
namespace K09
open PySem PySem.Spec PyProof.Rows L2 VB BM
theorem rest_unlike {os zs : List Int} (oo : Oct os) (oz : Oct zs) (lo : os.length = 30) (lz : zs.length = 30) (h : os ≠ zs) : rest os (zs ++ [zc (bitsL zs)]) = false := by
  cases e : rest os (zs ++ [zc (bitsL zs)]) with
  | false => rfl
  | true =>
    obtain ⟨ow, lw⟩ := oct_whole oz lz
    have r := (rest_facts oo ow lo lw e).2.2.mp (ovr_whole lz)
    exact absurd (List.append_inj r (by omega)).1.symm h
section
variable {P : Program} {w : World} {K : PySem.W.Frag} {mg : Str → Option Value} {base : Heap} {f : Addr} {fd : FuncData}
def spUR : Sp := fun vs H Q _ => ∃ (a d o : Addr) (os zs : List Int) (n : Int), vs = [.ref a, .ref d, .ref o] ∧ Box H a n ∧ d ≠ a ∧ o ≠ a ∧ H d = some (.lst (IV os)) ∧ H o = some (.lst (IV zs)) ∧ Oct os ∧ Oct zs ∧ os.length = 30 ∧ zs.length = 30 ∧ n < 70000000 ∧ ∀ H' : Hp, Exb a H H' → Box H' a (n + 50) → Q (.bl true) H'
theorem ok_lunlike (T : Txt K mg) (F : FnP K "_law_unlike_right" s__law_unlike_right f fd) (C__law_page : Cal P w K mg base CX0 2 "_law_page" ["_law_data_here"] (spPg K)) (C__law_drawn : Cal P w K mg base CX0 2 "_law_drawn" ["_law_box_here", "_law_count"] spLD)
    (C__law_rest_right : Cal P w K mg base CX0 9 "_law_rest_right" ["_law_box_here", "_law_data_here", "_law_page_here"] (spRR K)) (C_is_rest : Cal P w K mg base CX0 8 "is_rest" ["data", "value"] (spRest K)) (C_sealed : Cal P w K mg base CX0 8 "sealed" ["data"] (spSealed K)) : Fg P w K mg base CX0 10 f fd ["_law_box_here", "_law_data_here", "_law_other_here"] spUR := by
  refine fg_of F sc__law_unlike_right (fun vs H Q E h => ?_) (fun cdv A outer s H vs Q E hr h => ⟨_, (PSs.nox (pss_cons (ps_if (PW.pt (pw_and (pt_cmpR (u_ne (K := K) hr) (pv 1) (pv 2) (nomark _)) (pw_and1 (PW.pt (pw_or (pt_tru (K := K) (pe_cal C_is_rest hr.le pass0 (pa_cons (pv 1) (pa_cons (pe_cal C_sealed hr.le pass0 (pa_cons (pv 2) pa_nil)) pa_nil))) (by intro _; rfl)) (pw_or1 (pt_tru (K := K) (pe_cal C_is_rest hr.le pass0 (pa_cons (pv 2) (pa_cons (pe_cal C_sealed hr.le pass0 (pa_cons (pv 1) pa_nil)) pa_nil))) (by intro _; rfl))))))))
  (pss_one (ps_ret pe_bl)) pss_nil)
  (pss_one (ps_ret (pe_and (pe_cal C__law_rest_right hr.le pass0 (pa_cons (pv 0) (pa_cons (pv 1) (pa_cons (pe_cal C__law_page hr.le pass0 (pa_cons (pv 2) pa_nil)) pa_nil)))) (pe_one (pe_cal C__law_rest_right hr.le pass0 (pa_cons (pv 0) (pa_cons (pv 1) (pa_cons (pe_cal C__law_drawn hr.le pass0 (pa_cons (pv 0) (pa_cons pe_int pa_nil))) pa_nil)))))))))), ?_⟩)
  · obtain ⟨a, d, o, os, zs, n, rfl, _⟩ := h
    rfl
  · obtain ⟨a, d, o, os, zs, n, rfl, B, nd, no, hd, ho, oo, oz, lo, lz, hn, q⟩ := h
    obtain ⟨ow, lw⟩ := oct_whole oz lz
    obtain ⟨ow', lw'⟩ := oct_whole oo lo
    have tail : ∀ H1 : Hp, Evl.Ex H H1 → tRet
      (tAndV
        (tCall (spRR K) [] E0
          (tCons (tVar 0) (tCons (tVar 1) (tCons (tCall (spPg K) [] E0 (tCons (tVar 2) tNil)) tNil))))
        (tCall (spRR K) [] E0
          (tCons (tVar 0)
            (tCons (tVar 1) (tCons (tCall spLD [] E0 (tCons (tVar 0) (tCons (tC (V.int 31)) tNil))) tNil)))))
        { nx := fun x H' => Q V.non H', rt := Q } [some (.ref a), some (.ref d), some (.ref o)] H1 := by
      intro H1 e1
      have B1 := B.ex e1
      refine ⟨_, rfl, _, rfl, _, rfl, o, zs, false, rfl, Sv.lst (e1 _ _ ho), by omega, fun g H2 ng e2 hg => ?_⟩
      have E2 := e1.trans e2
      refine ⟨a, d, g, os, _, n, rfl, B1.ex e2, nd, B1.at ng, E2 _ _ hd, hg, oo, ow, lo, lw, by omega, fun H3 e3 B3 => ⟨_, rfl, iteT ?_⟩⟩
      have hd3 := e3 d _ nd (E2 _ _ hd)
      refine ⟨_, rfl, _, rfl, _, rfl, a, 31, n + 2, rfl, B3, by omega, by omega, fun r H4 xs ox lx nr fr e4 B4 hr4 => ?_⟩
      exact ⟨a, d, r, os, xs, n + 2 + 31, rfl, B4, nd, nr, e4 d _ nd hd3, hr4, oo, ox, lo, lx, by omega, fun H5 e5 B5 => q _ (((Exb.of E2).trans e3 (a := a)).trans (e4.trans e5)) (B5.le (by omega))⟩
    refine ⟨_, rfl, _, rfl, .inr (rne_l (ns := os) (ms := zs) (SqL.of hd) (SqL.of ho) ⟨_, rfl, ?_⟩)⟩
    by_cases e : os = zs
    · rw [decide_eq_true e]
      exact iteF (tail H (Evl.Ex.refl _))
    rw [decide_eq_false e]
    refine iteT ⟨_, rfl, _, rfl, o, zs, false, rfl, Sv.lst ho, oz, lz, fun g H1 e1 T1 => ⟨d, g, os, _, false, true, rfl, Sv.lst (e1 _ _ hd), T1, oo, ow, lo, lw, fun H2 e2 => ⟨_, rfl, ?_⟩⟩⟩
    rw [rest_unlike oo oz lo lz e]
    have E2 := e1.trans e2
    refine iteF ⟨_, rfl, _, rfl, d, os, false, rfl, Sv.lst (E2 _ _ hd), oo, lo, fun g H3 e3 T3 => ⟨o, g, zs, _, false, true, rfl, Sv.lst (e3 _ _ (E2 _ _ ho)), T3, oz, ow', lz, lw', fun H4 e4 => ⟨_, rfl, ?_⟩⟩⟩
    rw [rest_unlike oz oo lz lo (Ne.symm e)]
    exact iteF (tail H4 (E2.trans (e3.trans e4)))
def spSt : Sp := fun vs H Q _ => ∃ (a p : Addr) (os : List Int) (n aim : Int), vs = [.ref a, .ref p, .int aim] ∧ Box H a n ∧ p ≠ a ∧ H p = some (.lst (IV os)) ∧ Oct os ∧ os.length = 31 ∧ (aim = 0 ∨ aim = 1) ∧ n < 70000000 ∧ ∀ H' : Hp, Exb a H H' → Box H' a (n + 300) → Q (.bl true) H'
theorem ok_lsteps (T : Txt K mg) (F : FnP K "_law_steps_right" s__law_steps_right f fd) (C__law_moved : Cal P w K mg base CX0 1 "_law_moved" ["_law_page_here", "_law_mask_here", "_law_aim"] (spMv K)) (C__law_mask : Cal P w K mg base CX0 3 "_law_mask" ["_law_box_here"] spMk)
    (C__law_zeros : Cal P w K mg base CX0 1 "_law_zeros" ["_law_octets"] (spLZ K)) (C__law_handed : Cal P w K mg base CX0 2 "_law_handed" ["_law_box_here", "_law_octets"] (spHd K)) (C_surplus : Cal P w K mg base CX0 8 "surplus" ["octets"] (spSurplus K)) : Fg P w K mg base CX0 9 f fd ["_law_box_here", "_law_page_here", "_law_aim"] spSt := by
  refine fg_of F sc__law_steps_right (fun vs H Q E h => ?_) (fun cdv A outer s H vs Q E hr h => ⟨_, (PSs.nox (pss_cons (ps_set (i := 3) sc__law_steps_right.nd rfl (by first | exact Or.inl rfl | exact Or.inr rfl) (pe_callTy (u_list (K := K)) (by rfl) T.f_list (by decide +kernel) (pa_cons (pv 1) pa_nil)))
  (pss_cons (ps_for PassesOwn.never rfl (pi_range1 rfl T.f_range (pa_cons pe_int pa_nil)) (pg_name (i := 4) sc__law_steps_right.nd rfl (by first | exact Or.inl rfl | exact Or.inr rfl))
  (pss_cons (ps_set (i := 5) sc__law_steps_right.nd rfl (by first | exact Or.inl rfl | exact Or.inr rfl) (pe_cal C__law_moved hr.le pass0 (pa_cons (pv 3) (pa_cons (pe_cal C__law_mask hr.le pass0 (pa_cons (pv 0) pa_nil)) (pa_cons (pv 2) pa_nil)))))
  (pss_cons (ps_set (i := 6) sc__law_steps_right.nd rfl (by first | exact Or.inl rfl | exact Or.inr rfl) (pe_op op_sub (pe_op (u_add (K := K)) (pe_op op_sub (pe_cal C__law_zeros hr.le pass0 (pa_cons (pe_slice (u_sl (K := K)) (pv 5) po_none (po_some pe_int)) pa_nil)) (pe_cal C__law_zeros hr.le pass0 (pa_cons (pe_slice (u_sl (K := K)) (pv 3) po_none (po_some pe_int)) pa_nil))) (pe_ix (u_ix (K := K)) (pv 3) pe_int (fun _ _ => rfl))) (pe_ix (u_ix (K := K)) (pv 5) pe_int (fun _ _ => rfl))))
  (pss_cons (ps_set (i := 7) sc__law_steps_right.nd rfl (by first | exact Or.inl rfl | exact Or.inr rfl) (pe_lst (pa_cons (pe_cal C_surplus hr.le pass0 (pa_cons (pe_cal C__law_handed hr.le pass0 (pa_cons (pv 0) (pa_cons (pv 3) pa_nil))) pa_nil)) (pa_cons (pe_cal C_surplus hr.le pass0 (pa_cons (pe_cal C__law_handed hr.le pass0 (pa_cons (pv 0) (pa_cons (pv 5) pa_nil))) pa_nil)) pa_nil))))
  (pss_cons (ps_if (PW.pt (pw_or (pt_cmpR (u_ne (K := K) hr) (pe_ix (u_ix (K := K)) (pv 7) pe_int (fun _ _ => rfl)) (pe_op op_sub (pe_ix (u_ix (K := K)) (pv 7) pe_int (fun _ _ => rfl)) (pv 6)) (nomark _)) (pw_or1 (PW.pt (pw_and (pt_cmpR (u_ne (K := K) hr) (pv 5) (pv 3) (nomark _)) (pw_and1 (pt_cmpR (u_ne (K := K) hr) (pe_cmpR op_lt (pe_ix (u_ix (K := K)) (pv 7) pe_int (fun _ _ => rfl)) (pe_ix (u_ix (K := K)) (pv 7) pe_int (fun _ _ => rfl)) (nomark _)) (pe_cmpR (u_eq (K := K) hr) (pv 2) pe_int (nomark _)) (nomark _))))))))
  (pss_one (ps_ret pe_bl)) pss_nil)
  (pss_one (ps_set (i := 3) sc__law_steps_right.nd rfl (by first | exact Or.inl rfl | exact Or.inr rfl) (pv 5))))))))
  (pss_one (ps_ret pe_bl))))), ?_⟩)
  · obtain ⟨a, p, os, n, aim, rfl, _⟩ := h
    rfl
  · obtain ⟨a, p, os, n, aim, rfl, B, np, hp, oo, lo, ha, hn, q⟩ := h
    refine ⟨_, rfl, p, _, rfl, .inl (SqL.of hp), fun l nl => ?_⟩
    have xl := Evl.Ex.new (o := .lst (IV os)) nl
    have hl := upd_same (H := H) (a := l) (o := .lst (IV os))
    have nla := B.at nl
    refine ⟨4, rfl, by omega, by omega, ?_⟩
    refine for_range (lo := 0) (n := 4) (fun i σ H' => ∃ (h : Addr) (xs : List Int) (v4 v5 v6 v7 : Option V), σ = [some (.ref a), some (.ref p), some (.int aim), some (.ref h), v4, v5, v6, v7] ∧ Oct xs ∧ xs.length = 31 ∧ h ≠ a ∧ H' h = some (.lst (IV xs)) ∧ Exb a H H' ∧ Box H' a (n + 72 * i))
      ⟨l, os, _, _, _, _, rfl, oo, lo, nla, hl, Exb.of xl, (B.ex xl).le (by omega)⟩ ?_ ?_
    · rintro i σ H1 hi ⟨h, xs, v4, v5, v6, v7, rfl, ox, lx, nh, hh, e1, B1⟩
      refine ⟨_, rfl, _, rfl, a, n + 72 * i, rfl, B1, by omega, fun m H2 ms om lm nm fm e2 B2 hm => ?_⟩
      have lm' : ms.length = 31 := lm
      refine ⟨_, rfl, h, m, xs, ms, aim, rfl, SqL.of (e2 h _ nh hh), SqL.of hm, ox, om, lx, lm', fun t H3 nt e3 ht => ?_⟩
      have nta := B2.at nt
      have oy : Oct (mvL xs ms aim) := mvL_oct ox om
      have ly : (mvL xs ms aim).length = 31 := by unfold mvL; rw [both_len (by omega)]; exact lx
      have inn : (aim = 0 → Inn (mvL xs ms aim) xs) ∧ (aim = 1 → Inn xs (mvL xs ms aim)) := ⟨fun e => mv_down (by omega) ox om (by omega), fun e => by subst e; exact mv_up ox om (by omega)⟩
      generalize mvL xs ms aim = ys at ht oy ly inn
      have hh3 := e3 _ _ (e2 h _ nh hh)
      refine ⟨_, rfl, 30, rfl, Sv.first (Sv.lst ht) (n := 30) (by omega) fun s1 H4 n1 e4 S4 => ⟨s1, ys.take 30, false, rfl, S4, by rw [List.length_take]; omega, fun H5 e5 => ?_⟩⟩
      have E5 := e4.trans e5
      refine ⟨_, rfl, 30, rfl, Sv.first (Sv.lst (E5 _ _ hh3)) (n := 30) (by omega) fun s2 H6 n2 e6 S6 => ⟨s2, xs.take 30, false, rfl, S6, by rw [List.length_take]; omega, fun H7 e7 => ?_⟩⟩
      have E7 := E5.trans (e6.trans e7)
      have hh7 := E7 _ _ hh3
      have ht7 := E7 _ _ ht
      refine ⟨_, _, rfl, rfl, _, rfl, Sv.ix (x := .non) (Sv.lst hh7) (i := 30) (iv_at (i := 30) (get30 lx)) (.inl ⟨_, _, rfl, rfl, _, rfl, Sv.ix (x := .non) (Sv.lst ht7) (i := 30) (iv_at (i := 30) (get30 ly)) ⟨_, _, rfl, rfl, ?_⟩⟩)⟩
      have B7 := B2.ex (e3.trans E7)
      refine ⟨_, rfl, _, rfl, a, h, xs, n + 72 * i + 70, rfl, B7, nh, hh7, by omega, by omega, fun g1 b1 H8 ng1 e8 B8 hg1 => ⟨g1, xs, b1, rfl, Sv.at hg1, ox, lx, fun H9 e9 => ?_⟩⟩
      have ht9 := e9 _ _ (e8 t _ nta ht7)
      have hh9 := e9 _ _ (e8 h _ nh hh7)
      refine ⟨_, rfl, _, rfl, a, t, ys, n + 72 * i + 70 + 1, rfl, B8.ex e9, nta, ht9, by omega, by omega, fun g2 b2 H10 ng2 e10 B10 hg2 => ⟨g2, ys, b2, rfl, Sv.at hg2, oy, ly, fun H11 e11 => ⟨by show 2 ≤ sizeLine; decide, fun tl ntl => ?_⟩⟩⟩
      have xt := Evl.Ex.new (o := .lst [V.int (ovr xs), .int (ovr ys)]) ntl
      have htl := upd_same (H := H11) (a := tl) (o := .lst [V.int (ovr xs), .int (ovr ys)])
      have ht12 := xt _ _ (e11 _ _ (e10 t _ nta ht9))
      have hh12 := xt _ _ (e11 _ _ (e10 h _ nh hh9))
      have B12 := B10.ex (e11.trans xt)
      have E12 : Exb a H (upd H11 tl (.lst [V.int (ovr xs), .int (ovr ys)])) := (e1.trans e2).trans ((Exb.of (e3.trans E7)).trans ((e8.trans (Exb.of e9)).trans (e10.trans (Exb.of (e11.trans xt)))))
      generalize upd H11 tl (.lst [V.int (ovr xs), .int (ovr ys)]) = H12 at htl ht12 hh12 B12 E12 ⊢
      have S12 := Sv.lst (K := K) htl
      refine ⟨_, rfl, Sv.ix (x := .non) S12 (i := 1) rfl ⟨_, rfl, Sv.ix (x := .non) S12 (i := 0) rfl ⟨_, rfl, _, _, rfl, rfl, .inl ⟨rfl, _, rfl, same_int ?_ ?_⟩⟩⟩⟩
      · unfold ovr
        omega
      refine ⟨_, rfl, _, rfl, .inr (rne_l (ns := ys) (ms := xs) (SqL.of ht12) (SqL.of hh12) ⟨_, rfl, ?_⟩)⟩
      by_cases e : ys = xs
      · rw [decide_eq_true e]
        exact iteF ⟨_, rfl, t, ys, _, _, _, _, rfl, oy, ly, nta, ht12, E12, B12.le (by omega)⟩
      rw [decide_eq_false e]
      refine iteT ⟨_, rfl, Sv.ix (x := .non) S12 (i := 1) rfl ⟨_, rfl, Sv.ix (x := .non) S12 (i := 0) rfl ⟨_, _, rfl, rfl, _, rfl, .inl ⟨rfl, .inl ⟨rfl, _, rfl, same_bl ?_ ⟨_, rfl, t, ys, _, _, _, _, rfl, oy, ly, nta, ht12, E12, B12.le (by omega)⟩⟩⟩⟩⟩⟩
      rcases ha with rfl | rfl
      · have r := ovr_mono oy ox ly lx (inn.1 rfl)
        rw [decide_eq_true (show V.int 0 = V.int 0 from rfl)]
        refine decide_eq_true ?_
        by_cases z : ovr ys = ovr xs
        · exact absurd (r.2 z).symm e
        · omega
      · have r := ovr_mono ox oy lx ly (inn.2 rfl)
        rw [decide_eq_false (show ¬ V.int 1 = V.int 0 from fun z => by cases z)]
        exact decide_eq_false (by omega)
    · rintro σ H1 ⟨h, xs, v4, v5, v6, v7, rfl, ox, lx, nh, hh, e1, B1⟩
      exact q _ e1 (B1.le (by omega))
end
end K09
namespace K09
open PySem PySem.Spec PyProof.Rows L2 VB BM
theorem ex_l {K : PySem.W.Frag} {H H' : Hp} {a : Addr} {xs : List V} (e : Evl.Ex H H') (s : SqL K H a xs) : SqL K H' a xs := Evl.ex_l e s
section
variable {P : Program} {w : World} {K : PySem.W.Frag} {mg : Str → Option Value} {base : Heap} {f : Addr} {fd : FuncData}
def spLaw (K : PySem.W.Frag) : Sp := fun vs H Q _ => ∃ (a : Addr) (ns : List Int), vs = [.ref a] ∧ SqL K H a (ns.map V.int) ∧ ns.length ≤ 1000 ∧ RV (.bl true) H Q
theorem ok_law (T : Txt K mg) (F : FnP K "law" s_law f fd) (C__law_box : Cal P w K mg base CX0 1 "_law_box" ["_law_great"] spBox) (C__law_cell : Cal P w K mg base CX0 1 "_law_cell" ["_law_script", "_law_k"] (spCell K))
    (C__law_take : Cal P w K mg base CX0 1 "_law_take" ["_law_box_here", "_law_many"] spTake) (C__law_page : Cal P w K mg base CX0 2 "_law_page" ["_law_data_here"] (spPg K)) (C__law_drawn : Cal P w K mg base CX0 2 "_law_drawn" ["_law_box_here", "_law_count"] spLD)
    (C__law_data : Cal P w K mg base CX0 3 "_law_data" ["_law_box_here"] spDa) (C__law_other : Cal P w K mg base CX0 4 "_law_other" ["_law_box_here", "_law_data_here"] spOt) (C__law_rests_right : Cal P w K mg base CX0 10 "_law_rests_right" ["_law_box_here", "_law_data_here", "_law_other_here"] spRs)
    (C__law_unlike_right : Cal P w K mg base CX0 10 "_law_unlike_right" ["_law_box_here", "_law_data_here", "_law_other_here"] spUR) (C__law_steps_right : Cal P w K mg base CX0 9 "_law_steps_right" ["_law_box_here", "_law_page_here", "_law_aim"] spSt) : Fg P w K mg base CX0 11 f fd ["_law_script"] (spLaw K) := by
  refine fg_of F sc_law (fun vs H Q E h => ?_) (fun cdv A outer s H vs Q E hr h => ⟨_, (PSs.nox (pss_cons (ps_for PassesOwn.never rfl (pi_range1 rfl T.f_range (pa_cons (pe_callB (call_max2 rfl) (by rfl) T.f_max (by decide +kernel) (pa_cons pe_int (pa_cons (pe_callB (call_min2 rfl) (by rfl) T.f_min (by decide +kernel) (pa_cons pe_int (pa_cons (pe_callB (u_len (K := K)) (by rfl) T.f_len (by decide +kernel) (pa_cons (pv 0) pa_nil)) pa_nil))) pa_nil))) pa_nil)) (pg_name (i := 1) sc_law.nd rfl (by first | exact Or.inl rfl | exact Or.inr rfl))
  (pss_cons (ps_set (i := 2) sc_law.nd rfl (by first | exact Or.inl rfl | exact Or.inr rfl) (pe_cal C__law_box hr.le pass0 (pa_cons (pe_cal C__law_cell hr.le pass0 (pa_cons (pv 0) (pa_cons (pv 1) pa_nil))) pa_nil)))
  (pss_cons (ps_set (i := 3) sc_law.nd rfl (by first | exact Or.inl rfl | exact Or.inr rfl) (pe_cal C__law_data hr.le pass0 (pa_cons (pv 2) pa_nil)))
  (pss_cons (ps_set (i := 4) sc_law.nd rfl (by first | exact Or.inl rfl | exact Or.inr rfl) (pe_cal C__law_other hr.le pass0 (pa_cons (pv 2) (pa_cons (pv 3) pa_nil))))
  (pss_cons (ps_if (PW.pt (pw_or (pt_not (pt_tru (K := K) (pe_cal C__law_rests_right hr.le pass0 (pa_cons (pv 2) (pa_cons (pv 3) (pa_cons (pv 4) pa_nil)))) (by intro _; rfl))) (pw_or1 (pt_not (pt_tru (K := K) (pe_cal C__law_unlike_right hr.le pass0 (pa_cons (pv 2) (pa_cons (pv 3) (pa_cons (pv 4) pa_nil)))) (by intro _; rfl))))))
  (pss_one (ps_ret pe_bl)) pss_nil)
  (pss_cons (ps_if (PW.pt (pw_or (pt_not (pt_tru (K := K) (pe_cal C__law_steps_right hr.le pass0 (pa_cons (pv 2) (pa_cons (pe_op (u_mul (K := K)) (pe_lst (pa_cons pe_int pa_nil)) pe_int) (pa_cons pe_int pa_nil)))) (by intro _; rfl))) (pw_or1 (pt_not (pt_tru (K := K) (pe_cal C__law_steps_right hr.le pass0 (pa_cons (pv 2) (pa_cons (pe_cal C__law_page hr.le pass0 (pa_cons (pv 4) pa_nil)) (pa_cons pe_int pa_nil)))) (by intro _; rfl))))))
  (pss_one (ps_ret pe_bl)) pss_nil)
  (pss_one (ps_if (pt_not (pt_tru (K := K) (pe_cal C__law_steps_right hr.le pass0 (pa_cons (pv 2) (pa_cons (pe_cal C__law_drawn hr.le pass0 (pa_cons (pv 2) (pa_cons pe_int pa_nil))) (pa_cons (pe_cal C__law_take hr.le pass0 (pa_cons (pv 2) (pa_cons pe_int pa_nil))) pa_nil)))) (by intro _; rfl)))
  (pss_one (ps_ret pe_bl)) pss_nil))))))))
  (pss_one (ps_ret pe_bl)))), ?_⟩)
  · obtain ⟨a, ns, rfl, _⟩ := h
    rfl
  · obtain ⟨a, ns, rfl, S, hl, q⟩ := h
    have lit : ∀ x : Int, 0 ≤ (if (if x < 2 then x else 2) > 1 then (if x < 2 then x else 2) else 1) ∧ (if (if x < 2 then x else 2) > 1 then (if x < 2 then x else 2) else 1) ≤ 2 := by
      intro x
      constructor <;> (repeat' split) <;> omega
    refine ⟨_, rfl, _, _, rfl, .inl ⟨_, S, rfl⟩, _, _, rfl, _, _, rfl, _, rfl, by have := lit ((IV ns).length : Int); omega, by have := lit ((IV ns).length : Int); omega, ?_⟩
    have rl := lit ((IV ns).length : Int)
    generalize (if (if ((IV ns).length : Int) < 2 then ((IV ns).length : Int) else 2) > 1 then (if ((IV ns).length : Int) < 2 then ((IV ns).length : Int) else 2) else 1) = m at rl ⊢
    refine for_range (lo := 0) (n := m.toNat) (fun i σ H' => ∃ v1 v2 v3 v4 : Option V, σ = [some (.ref a), v1, v2, v3, v4] ∧ Evl.Ex H H') ⟨_, _, _, _, rfl, Evl.Ex.refl _⟩ ?_ ?_
    · rintro i σ H1 hi ⟨v1, v2, v3, v4, rfl, e1⟩
      have e0 : (0 : Int) + (i : Int) = (i : Int) := Int.zero_add _
      rw [e0]
      refine ⟨_, rfl, _, rfl, a, ns, (i : Int), rfl, Evl.ex_l e1 S, by omega, by omega, hl, fun g H2 e2 => ⟨g, rfl, fun p H3 n3 e3 B3 => ?_⟩⟩
      have fresh := Evl.fresh_back (e1.trans e2) n3
      have E3 := (e1.trans e2).trans e3
      refine ⟨_, rfl, p, 0, rfl, B3, by omega, fun d H4 os oo lo nd fd e4 B4 hd => ?_⟩
      refine ⟨_, rfl, _, rfl, p, d, os, 0 + 60, rfl, B4, nd, hd, oo, lo, by omega, fun o H5 zs oz lz no fo e5 B5 ho => ?_⟩
      have hd5 := e5 d _ nd hd
      refine ⟨_, rfl, _, rfl, _, rfl, p, d, o, os, zs, 0 + 60 + 64, rfl, B5, nd, no, hd5, ho, oo, oz, lo, lz, by omega, fun H6 e6 B6 => ⟨true, rfl, iteF ?_⟩⟩
      refine ⟨_, rfl, _, rfl, _, rfl, p, d, o, os, zs, 0 + 60 + 64 + 400, rfl, B6, nd, no, e6 d _ nd hd5, e6 o _ no ho, oo, oz, lo, lz, by omega, fun H7 e7 B7 => ⟨true, rfl, iteF ?_⟩⟩
      have ho7 := e7 o _ no (e6 o _ no ho)
      refine ⟨_, rfl, by show 1 ≤ sizeLine; decide, fun l0 n0 => rep_l (k := 31) upd_same (by omega) (by omega) fun l1 n1 => ?_⟩
      have x0 := Evl.Ex.new (o := .lst [V.int 255]) n0
      have x1 := Evl.Ex.new (o := .lst (IV (List.replicate (31 : Int).toNat 255))) n1
      have m1 := B7.at (Evl.fresh_back x0 n1)
      refine ⟨p, l1, _, 0 + 60 + 64 + 400 + 50, 0, rfl, B7.ex (x0.trans x1), m1, upd_same, oct_rep (by omega), by rw [List.length_replicate]; rfl, .inl rfl, by omega, fun H8 e8 B8 => ⟨true, rfl, iteF ?_⟩⟩
      have ho8 := e8 o _ no ((x0.trans x1) _ _ ho7)
      obtain ⟨ow, lw⟩ := oct_whole oz lz
      refine ⟨_, rfl, _, rfl, o, zs, false, rfl, Sv.lst ho8, by have : zs.length = 30 := lz; omega, fun g H9 ng e9 hg => ⟨p, g, _, 0 + 60 + 64 + 400 + 50 + 300, 1, rfl, B8.ex e9, B8.at ng, hg, ow, lw, .inr rfl, by omega, fun H10 e10 B10 => ⟨true, rfl, iteF ?_⟩⟩⟩
      refine ⟨_, rfl, _, rfl, p, 31, 0 + 60 + 64 + 400 + 50 + 300 + 300, rfl, B10, by omega, by omega, fun r H11 xs ox lx nr fr e11 B11 hr11 => ?_⟩
      refine ⟨_, rfl, p, 2, 0 + 60 + 64 + 400 + 50 + 300 + 300 + 31, rfl, B11, by omega, by omega, by omega, fun z H12 z0 z1 e12 B12 => ?_⟩
      refine ⟨p, r, xs, 0 + 60 + 64 + 400 + 50 + 300 + 300 + 31 + 1, z, rfl, B12, nr, e12 r _ nr hr11, ox, lx, by omega, by omega, fun H13 e13 B13 => ⟨true, rfl, iteF ?_⟩⟩
      have F := (((e4.trans e5).trans e6).trans e7).trans ((Exb.of (x0.trans x1)).trans e8)
      exact ⟨_, _, _, _, rfl, ex_b E3 fresh (F.trans ((Exb.of e9).trans (e10.trans (e11.trans (e12.trans e13)))))⟩
    · rintro σ H1 ⟨v1, v2, v3, v4, rfl, e1⟩
      exact q _ e1
end
end K09
/-! min of one list or tuple of ints -/
namespace VB
open PySem PySem.Spec PyProof.Rows L2 PySem.W
theorem ints_reads (h : Heap) : ∀ {os : List Int} {its : List Value}, Vals (os.map V.int) its → ∃ as, ReadsAll h its (os.map PyData.int) as
  | [], _, r => by
    cases r
    exact ⟨[], .nil⟩
  | o :: os, _, r => by
    cases r with
    | cons r1 r2 =>
      obtain ⟨t, rfl⟩ := r1
      obtain ⟨as, ha⟩ := ints_reads h r2
      exact ⟨_, .cons (.int o t) ha⟩
theorem ints_alike (os : List Int) : AlikeAll (os.map PyData.int) := by
  refine ⟨fun x hx y hy => ?_, fun x hx => ?_⟩
  · obtain ⟨a, _, rfl⟩ := List.mem_map.mp hx
    obtain ⟨b, _, rfl⟩ := List.mem_map.mp hy
    rfl
  · obtain ⟨a, _, rfl⟩ := List.mem_map.mp hx
    exact fun z => nomatch z
theorem ints_depth : ∀ os : List Int, PyData.depthAll (os.map PyData.int) = 0
  | [] => rfl
  | o :: os => by
    show Nat.max 0 (PyData.depthAll (os.map PyData.int)) = 0
    rw [ints_depth os]
    rfl
theorem foldl_min_mem : ∀ (os : List Int) (n : Int), os.foldl min n ∈ n :: os
  | [], n => List.mem_cons_self ..
  | o :: os, n => by
    have h := foldl_min_mem os (min n o)
    rw [List.foldl_cons]
    rcases List.mem_cons.mp h with z | z
    · rw [z]
      by_cases c : n ≤ o
      · rw [Int.min_eq_left c]
        exact List.mem_cons_self ..
      · rw [Int.min_eq_right (by omega)]
        exact List.mem_cons_of_mem _ (List.mem_cons_self ..)
    · exact List.mem_cons_of_mem _ (List.mem_cons_of_mem _ z)
theorem foldl_min_le : ∀ (os : List Int) (n : Int), (os.foldl min n ≤ n) ∧ ∀ y ∈ os, os.foldl min n ≤ y
  | [], n => ⟨Int.le_refl _, fun y hy => nomatch hy⟩
  | o :: os, n => by
    obtain ⟨h1, h2⟩ := foldl_min_le os (min n o)
    rw [List.foldl_cons]
    refine ⟨by omega, fun y hy => ?_⟩
    rcases List.mem_cons.mp hy with z | z
    · omega
    · exact h2 y z
def rMin1 (K : PySem.W.Frag) : List V → Hp → VK → Prop := fun vs H Q => ∃ (a : Addr) (os : List Int) (t : Bool), vs = [.ref a] ∧ Sv t K H a (IV os) ∧ 0 < os.length ∧ ∀ m, m ∈ os → (∀ y, y ∈ os → m ≤ y) → Q (.int m) H
section
variable {X : Cx} {K : PySem.W.Frag}
theorem u_min1 {k : Nat} (hr : Rm k X.A) (hc : X.calm = true) (hK : X.K = K := by rfl) : CallR X (.builtin "min") (rMin1 K) := by
  subst hK
  intro pins s σ H vs us Q I r h
  obtain ⟨a, os, t, rfl, hs, hne, q⟩ := h
  cases t with
  | false => exact cr_min hc pins s σ H [.ref a] us Q I r ⟨a, os, rfl, hs, hne, q⟩
  | true =>
    obtain ⟨its, rv, ⟨⟨cls, dd, data, sl⟩, ho, hcl, n, hd⟩, hsz⟩ := I.tuple hs
    simp only at hcl hd
    subst hcl hd
    rw [Vals.ref1 r]
    obtain ⟨as, ra⟩ := ints_reads s.heap (show Vals (os.map V.int) its from rv)
    cases os with
    | nil => exact absurd hne (Nat.lt_irrefl 0)
    | cons o os =>
      have u2 := hr.rm.units
      have un : X.A.units + 1 + PyData.depthAll (PyData.int o :: os.map PyData.int) < cLine := by
        have e : PyData.depthAll (PyData.int o :: os.map PyData.int) = 0 := ints_depth (o :: os)
        rw [e]
        omega
      have ra' : ReadsAll s.heap its.toArray.toList (PyData.int o :: os.map PyData.int) as := by simpa using ra
      refine min_tuple_data (I.ok.hd hc) (vs := its.toArray) ⟨_, ho, rfl, n, rfl⟩ ra' (ints_alike (o :: os)) un fun i v h' tk bs hv rd hk => ?_
      rw [minD_ints] at rd
      cases rd with
      | int _ t =>
        obtain ⟨h1, h2⟩ := foldl_min_le os o
        exact ⟨.int _, H, I.kept hk, ⟨_, rfl⟩, q _ (foldl_min_mem os o) fun y hy => by
          rcases List.mem_cons.mp hy with z | z
          · rw [z]
            exact h1
          · exact h2 y z⟩
end
end VB
namespace K09
open PySem PySem.Spec PyProof.Rows L2 VB BM
section
variable {P : Program} {w : World} {K : PySem.W.Frag} {mg : Str → Option Value} {base : Heap} {f : Addr} {fd : FuncData}
def spIsList (K : PySem.W.Frag) : Sp := fun vs H Q _ => ∃ (a : Addr) (xs : List V) (t : Bool), vs = [.ref a] ∧ Sv t K H a xs ∧ RV (.bl true) H Q
theorem ok_is_list (T : Txt K mg) (F : FnP K "is_list" s_is_list f fd) : Fg P w K mg base CX0 1 f fd ["value"] (spIsList K) := by
  refine fg_of F sc_is_list (fun vs H Q E h => ?_) (fun cdv A outer s H vs Q E hr h => ⟨_, (PSs.nox (pss_one (ps_ret (pe_callB (u_isiT (K := K)) (by rfl) T.f_isinstance (by decide +kernel) (pa_cons (pv 0) (pa_cons (pe_tup (pa_cons (pe_bltn (v := .ty "list") rfl T.f_list (by decide +kernel) rfl) (pa_cons (pe_bltn (v := .ty "tuple") rfl T.f_tuple (by decide +kernel) rfl) pa_nil))) pa_nil)))))), ?_⟩)
  · obtain ⟨a, xs, t, rfl, _⟩ := h
    rfl
  · obtain ⟨a, xs, t, rfl, S, q⟩ := h
    refine ⟨_, rfl, by show 2 ≤ sizeLine; decide, fun tp ht => ?_⟩
    have e0 := Evl.Ex.new (o := .tup [.ty "list", .ty "tuple"]) ht
    exact ⟨_, tp, _, _, [.type "list", .type "tuple"], true, rfl, upd_same, .cons (.ty _) (.cons (.ty _) .nil), (S.ex e0).ty, kit_seq K t, q _ e0⟩
def spIsOct (K : PySem.W.Frag) : Sp := fun vs H Q _ => ∃ (a : Addr) (os : List Int) (t : Bool), vs = [.ref a] ∧ Sv t K H a (IV os) ∧ Oct os ∧ os.length ≤ 20000 ∧ RV (.bl true) H Q
theorem ok_is_octets (T : Txt K mg) (F : FnP K "is_octets" s_is_octets f fd) (C_is_list : Cal P w K mg base CX0 1 "is_list" ["value"] (spIsList K)) : Fg P w K mg base CX0 2 f fd ["value"] (spIsOct K) := by
  refine fg_of F sc_is_octets (fun vs H Q E h => ?_) (fun cdv A outer s H vs Q E hr h => ⟨_, (PSs.nox (pss_one (ps_ret (pe_and (pe_cal C_is_list hr.le pass0 (pa_cons (pv 0) pa_nil)) (pe_one (pe_callB (u_all (K := K) rfl) (by rfl) T.f_all (by decide +kernel) (pa_cons (pe_lc (own := [("octet", 1)]) rfl sc_is_octets.nd (pi_seq (K := K) (pv 0)) (blkOk_by (own := [("octet", 1)]) (N := ["value", "octet"]) (sc := defScope s_is_octets) (by decide +kernel)) (fun _ _ _ _ _ => (pg_name (i := 1) sc_is_octets.nd rfl (by first | exact Or.inl rfl | exact Or.inr rfl))) (fun _ _ _ _ _ => pts_nil) (fun _ _ _ _ _ => (pe_and (pe_callB (u_isi (K := K)) (by rfl) T.f_isinstance (by decide +kernel) (pa_cons (pv 1) (pa_cons (pe_bltn (v := .ty "int") rfl T.f_int (by decide +kernel) rfl) pa_nil))) (pe_and (pe_not (pe_callB (u_isi (K := K)) (by rfl) T.f_isinstance (by decide +kernel) (pa_cons (pv 1) (pa_cons (pe_bltn (v := .ty "bool") rfl T.f_bool (by decide +kernel) rfl) pa_nil)))) (pe_one (pe_chain op_le op_le pe_int (pv 1) pe_int)))))) pa_nil))))))), ?_⟩)
  · obtain ⟨a, os, t, rfl, _⟩ := h
    rfl
  · obtain ⟨a, os, t, rfl, S, ho, hl, q⟩ := h
    refine ⟨_, rfl, a, _, t, rfl, S, fun H0 e0 => ⟨true, rfl, iteT ?_⟩⟩
    refine seq_var (t := t) rfl (S.ex e0) fun J wk D hD => ?_
    rw [iv_len] at wk
    refine lc_pureVS (us := List.replicate os.length (V.bl true)) wk (fun H' ex => (S.ex e0).ex ex) (by simp) (by omega) hD (fun _ => rfl) ?_ ?_
    · intro i x u H' Q' hx hu ex k
      obtain ⟨o, hoi, rfl⟩ := iv_get hx
      have hm := ho o (List.mem_of_getElem? hoi)
      rw [List.eq_of_mem_replicate (List.mem_of_getElem? hu)] at k
      refine ⟨_, rfl, _, _, _, _, true, rfl, .ty _, .base (.int o), kit_ty (by decide +kernel), true, rfl, iteT ?_⟩
      refine ⟨_, rfl, _, _, _, _, false, rfl, .ty _, .base (.int o), kit_ty (by decide +kernel), false, rfl, true, rfl, iteT ?_⟩
      refine ⟨_, rfl, _, _, rfl, rfl, _, rfl, ?_⟩
      rw [decide_eq_true hm.1]
      refine iteT ⟨_, _, rfl, rfl, ?_⟩
      dsimp only
      rw [decide_eq_true hm.2]
      exact k H' (Evl.Ex.refl _)
    · intro H' ex h3
      refine ⟨D, List.replicate os.length true, rfl, SqL.of (by rw [h3, List.map_replicate]), ?_⟩
      have e : (List.replicate os.length true).all id = true := by
        rw [List.all_eq_true]
        intro b hb
        exact List.eq_of_mem_replicate hb
      rw [e]
      exact q _ (e0.trans ex)
end
end K09
namespace K09
open PySem PySem.Spec PyProof.Rows L2 VB BM
/-- the zeros of each half of an octet -/
def zh : List Int := [4, 3, 3, 2, 3, 2, 2, 1, 3, 2, 2, 1, 2, 1, 1, 0]
theorem zh_eq : ∀ n : Nat, n < 256 → zh.getD (n / 16) 0 + zh.getD (n % 16) 0 = (((bitsOf (n : Int)).count 0 : Nat) : Int) := by decide +kernel
def zN (n : Nat) : Int := zh.getD (n / 16) 0 + zh.getD (n % 16) 0
theorem zN_sum : ∀ os : List Int, Oct os → (os.map fun o => zN o.toNat).sum = zc (bitsL os)
  | [], _ => rfl
  | o :: os, h => by
    have r := zN_sum os fun x hx => h x (List.mem_cons_of_mem _ hx)
    have ho := h o (List.mem_cons_self ..)
    obtain ⟨n, rfl⟩ : ∃ n : Nat, o = n := ⟨o.toNat, by omega⟩
    rw [List.map_cons, List.sum_cons, r, Int.toNat_natCast, zN, zh_eq n (by omega)]
    show _ = zc (bitsOf (n : Int) ++ bitsL os)
    unfold zc
    rw [List.count_append]
    omega
theorem and15 : ∀ n : Nat, n < 256 → n &&& 15 = n % 16 := by decide +kernel
theorem zh_at {j : Nat} (h : j < 16) : atI (IV zh) (j : Int) = some (.int (zh.getD j 0)) := by
  have e : zh[j]? = some (zh.getD j 0) := by
    rw [List.getD_eq_getElem?_getD]
    have : j < zh.length := h
    simp [this]
  exact iv_at e
section
variable {P : Program} {w : World} {K : PySem.W.Frag} {mg : Str → Option Value} {base : Heap} {f : Addr} {fd : FuncData}
def spZB (K : PySem.W.Frag) : Sp := fun vs H Q _ => ∃ (a : Addr) (os : List Int) (t : Bool), vs = [.ref a] ∧ Sv t K H a (IV os) ∧ Oct os ∧ os.length ≤ 20000 ∧ RV (.int (zc (bitsL os))) H Q
theorem ok_zero_bits (T : Txt K mg) (F : FnP K "zero_bits" s_zero_bits f fd) : Fg P w K mg base CX0 1 f fd ["octets"] (spZB K) := by
  refine fg_of F sc_zero_bits (fun vs H Q E h => ?_) (fun cdv A outer s H vs Q E hr h => ⟨_, (PSs.nox (pss_one (ps_ret (pe_callB (u_sum (K := K) rfl) (by rfl) T.f_sum (by decide +kernel) (pa_cons (pe_lc (own := [("octet", 1)]) rfl sc_zero_bits.nd (pi_seq (K := K) (pv 0)) (blkOk_by (own := [("octet", 1)]) (N := ["octets", "octet"]) (sc := defScope s_zero_bits) (by decide +kernel)) (fun _ _ _ _ _ => (pg_name (i := 1) sc_zero_bits.nd rfl (by first | exact Or.inl rfl | exact Or.inr rfl))) (fun _ _ _ _ _ => pts_nil) (fun _ _ _ _ _ => (pe_op (u_add (K := K)) (pe_ix (u_ix (K := K)) (pe_glob (v := .ref (He.ga K "ZEROS_OF_HALF")) rfl T.g_ZEROS_OF_HALF rfl) (pe_op op_shrN (pv 1) pe_int) (fun _ _ => rfl)) (pe_ix (u_ix (K := K)) (pe_glob (v := .ref (He.ga K "ZEROS_OF_HALF")) rfl T.g_ZEROS_OF_HALF rfl) (pe_op op_and (pv 1) pe_int) (fun _ _ => rfl))))) pa_nil))))), ?_⟩)
  · obtain ⟨a, os, t, rfl, _⟩ := h
    rfl
  · obtain ⟨a, os, t, rfl, S, ho, hl, q⟩ := h
    refine seq_var (t := t) rfl S fun J wk D hD => ?_
    rw [iv_len] at wk
    refine lc_pureVS (us := IV (os.map fun o => zN o.toNat)) wk (fun H' ex => S.ex ex) (by simp) (by omega) hD (fun _ => rfl) ?_ ?_
    · intro i x u H' Q' hx hu ex k
      obtain ⟨o, hoi, rfl⟩ := iv_get hx
      have hm := ho o (List.mem_of_getElem? hoi)
      obtain ⟨n, rfl⟩ : ∃ n : Nat, o = n := ⟨o.toNat, by omega⟩
      rw [List.getElem?_map, List.getElem?_map, hoi] at hu
      cases hu
      have hz := T.t_ZEROS_OF_HALF H'
      have a15 : Builtin.bitAnd (n : Int) 15 = ((n % 16 : Nat) : Int) := by
        rw [VB.bitAnd_pp (by omega) (by omega)]
        have e := and15 n (by omega)
        exact congrArg Nat.cast e
      have d16 : (n : Int) / 2 ^ 4 = ((n / 16 : Nat) : Int) := by omega
      refine ⟨_, rfl, n, 4, rfl, rfl, Sv.ix (x := .non) (show Sv true K H' _ (IV zh) from hz) (i := (n : Int) / 2 ^ 4) (by rw [d16]; exact zh_at (by omega)) ⟨_, rfl, _, _, rfl, rfl, Sv.ix (x := .non) (show Sv true K H' _ (IV zh) from hz) (i := Builtin.bitAnd (n : Int) 15) (by rw [a15]; exact zh_at (by omega)) ?_⟩⟩
      refine .inl ⟨_, _, rfl, rfl, ?_⟩
      have kk := k H' (Evl.Ex.refl _)
      exact kk
    · intro H' ex h3
      refine ⟨D, os.map fun o => zN o.toNat, rfl, SqL.of h3, ?_⟩
      rw [zN_sum os ho]
      exact q _ ex
end
end K09
namespace K09
open PySem PySem.Spec PyProof.Rows L2 VB BM
section
variable {P : Program} {w : World} {K : PySem.W.Frag} {mg : Str → Option Value} {base : Heap} {f : Addr} {fd : FuncData}
def spOctOf (K : PySem.W.Frag) : Sp := fun vs H Q _ => ∃ (a : Addr) (os : List Int) (t : Bool) (n : Int), vs = [.ref a, .int n] ∧ Sv t K H a (IV os) ∧ Oct os ∧ os.length ≤ 20000 ∧ (os.length : Int) = n ∧ RV (.bl true) H Q
theorem ok_octets_of (T : Txt K mg) (F : FnP K "is_octets_of" s_is_octets_of f fd) (C_is_list : Cal P w K mg base CX0 1 "is_list" ["value"] (spIsList K)) (C_is_octets : Cal P w K mg base CX0 2 "is_octets" ["value"] (spIsOct K)) : Fg P w K mg base CX0 3 f fd ["value", "count"] (spOctOf K) := by
  refine fg_of F sc_is_octets_of (fun vs H Q E h => ?_) (fun cdv A outer s H vs Q E hr h => ⟨_, (PSs.nox (pss_one (ps_ret (pe_and (pe_cal C_is_list hr.le pass0 (pa_cons (pv 0) pa_nil)) (pe_and (pe_cmpR (u_eq (K := K) hr) (pe_callB (u_len (K := K)) (by rfl) T.f_len (by decide +kernel) (pa_cons (pv 0) pa_nil)) (pv 1) (nomark _)) (pe_one (pe_cal C_is_octets hr.le pass0 (pa_cons (pv 0) pa_nil)))))))), ?_⟩)
  · obtain ⟨a, os, t, n, rfl, _⟩ := h
    rfl
  · obtain ⟨a, os, t, n, rfl, S, ho, hl, hn, q⟩ := h
    refine ⟨_, rfl, a, _, t, rfl, S, fun H1 e1 => ⟨true, rfl, iteT ?_⟩⟩
    refine ⟨_, rfl, _, _, rfl, (S.ex e1).len, _, rfl, .inl ⟨rfl, _, rfl, ?_⟩⟩
    have en : V.int ((IV os).length : Int) = V.int n := by rw [iv_len, hn]
    rw [en, decide_eq_true rfl]
    exact iteT ⟨_, rfl, a, os, t, rfl, S.ex e1, ho, hl, fun H2 e2 => q _ (e1.trans e2)⟩
def spIsPage (K : PySem.W.Frag) : Sp := fun vs H Q _ => ∃ (a : Addr) (os : List Int) (t : Bool), vs = [.ref a] ∧ Sv t K H a (IV os) ∧ Oct os ∧ os.length = 31 ∧ RV (.bl true) H Q
theorem ok_is_page (T : Txt K mg) (F : FnP K "_is_page" s__is_page f fd) (C_is_octets_of : Cal P w K mg base CX0 3 "is_octets_of" ["value", "count"] (spOctOf K)) : Fg P w K mg base CX0 4 f fd ["value"] (spIsPage K) := by
  refine fg_of F sc__is_page (fun vs H Q E h => ?_) (fun cdv A outer s H vs Q E hr h => ⟨_, (PSs.nox (pss_one (ps_ret (pe_cal C_is_octets_of hr.le pass0 (pa_cons (pv 0) (pa_cons (pe_globI rfl T.g_PAGE_OCTETS) pa_nil)))))), ?_⟩)
  · obtain ⟨a, os, t, rfl, _⟩ := h
    rfl
  · obtain ⟨a, os, t, rfl, S, ho, hl, q⟩ := h
    exact ⟨_, rfl, a, os, t, 31, rfl, S, ho, by omega, by omega, q⟩
theorem ok_sealed (T : Txt K mg) (F : FnP K "sealed" s_sealed f fd) (C_is_octets_of : Cal P w K mg base CX0 3 "is_octets_of" ["value", "count"] (spOctOf K)) (C_zero_bits : Cal P w K mg base CX0 1 "zero_bits" ["octets"] (spZB K)) : Fg P w K mg base CX0 6 f fd ["data"] (spSealed K) := by
  refine fg_of F sc_sealed (fun vs H Q E h => ?_) (fun cdv A outer s H vs Q E hr h => ⟨_, (PSs.nox (pss_cons (ps_if (pt_not (pt_tru (K := K) (pe_cal C_is_octets_of hr.le pass0 (pa_cons (pv 0) (pa_cons (pe_globI rfl T.g_DATA_OCTETS) pa_nil))) (by intro _; rfl)))
  (pss_one ps_never) pss_nil)
  (pss_one (ps_ret (pe_op (u_add (K := K)) (pe_callTy (u_tup (K := K)) (by rfl) T.f_tuple (by decide +kernel) (pa_cons (pv 0) pa_nil)) (pe_tup (pa_cons (pe_cal C_zero_bits hr.le pass0 (pa_cons (pv 0) pa_nil)) pa_nil))))))), ?_⟩)
  · obtain ⟨a, os, t, rfl, _⟩ := h
    rfl
  · obtain ⟨a, os, t, rfl, S, ho, hl, q⟩ := h
    refine ⟨_, rfl, a, os, t, 30, rfl, S, ho, by omega, by omega, fun H1 e1 => ⟨true, rfl, iteF ?_⟩⟩
    have tail : ∀ (p : Addr) (H2 : Hp), Evl.Ex H1 H2 → SqT K H2 p (IV os) → tTup (tCons (tCall (spZB K) [] E0 (tCons (tVar 0) tNil)) tNil) (L2.start ["data"] [V.ref a]) H2 fun y H3 => rAddU K (.ref p) y H3 Q := by
      intro p H2 e2 S2
      refine ⟨_, rfl, a, os, t, rfl, (S.ex e1).ex e2, ho, by omega, fun H3 e3 => ⟨by show 1 ≤ sizeLine; decide, fun l nl => ?_⟩⟩
      have x := Evl.Ex.new (o := .tup [V.int (zc (bitsL os))]) nl
      have ne : IV os ≠ [] := by
        intro z
        have := iv_len os
        rw [z] at this
        have l0 : ([] : List V).length = 0 := rfl
        omega
      refine .inr (.inr ⟨p, l, IV os, [V.int (zc (bitsL os))], rfl, rfl, Evl.ex_t (e3.trans x) S2, SqT.of upd_same, ne, ?_, fun z => (nomatch z), fun _ r nr => ?_⟩)
      · rw [iv_len]
        exact Nat.le_of_lt (Evl.sz_lt (by show os.length + 1 < _; omega))
      · have y := Evl.Ex.new (o := .tup (IV os ++ [V.int (zc (bitsL os))])) nr
        refine q r _ ((((e1.trans e2).trans e3).trans x).trans y) ?_
        have e : IV (os ++ [zc (bitsL os)]) = IV os ++ [V.int (zc (bitsL os))] := List.map_append
        rw [e]
        exact SqT.of upd_same
    refine ⟨_, rfl, a, IV os, rfl, ?_⟩
    cases t with
    | false => exact .inl ⟨S.ex e1, fun l nl => tail l _ (Evl.Ex.new nl) (SqT.of upd_same)⟩
    | true => exact .inr ⟨S.ex e1, tail a _ (Evl.Ex.refl _) (S.ex e1)⟩
theorem ok_surplus (T : Txt K mg) (F : FnP K "surplus" s_surplus f fd) (C__is_page : Cal P w K mg base CX0 4 "_is_page" ["value"] (spIsPage K)) (C_zero_bits : Cal P w K mg base CX0 1 "zero_bits" ["octets"] (spZB K)) : Fg P w K mg base CX0 7 f fd ["octets"] (spSurplus K) := by
  refine fg_of F sc_surplus (fun vs H Q E h => ?_) (fun cdv A outer s H vs Q E hr h => ⟨_, (PSs.nox (pss_cons (ps_if (pt_not (pt_tru (K := K) (pe_cal C__is_page hr.le pass0 (pa_cons (pv 0) pa_nil)) (by intro _; rfl)))
  (pss_one ps_never) pss_nil)
  (pss_one (ps_ret (pe_op op_sub (pe_ix (u_ix (K := K)) (pv 0) (pe_globI rfl T.g_DATA_OCTETS) (fun _ _ => rfl)) (pe_cal C_zero_bits hr.le pass0 (pa_cons (pe_slice (u_sl (K := K)) (pv 0) po_none (po_some (pe_globI rfl T.g_DATA_OCTETS))) pa_nil))))))), ?_⟩)
  · obtain ⟨a, os, t, rfl, _⟩ := h
    rfl
  · obtain ⟨a, os, t, rfl, S, ho, hl, q⟩ := h
    refine ⟨_, rfl, a, os, t, rfl, S, ho, hl, fun H1 e1 => ⟨true, rfl, iteF ?_⟩⟩
    have S1 := S.ex e1
    refine ⟨_, rfl, Sv.ix (x := .non) S1 (i := 30) (iv_at (i := 30) (get30 hl)) ⟨_, rfl, 30, rfl, Sv.first S1 (n := 30) (by omega) fun p H2 np e2 S2 => ⟨p, _, t, rfl, S2, fun o ho2 => ho o (List.mem_of_mem_take ho2), by rw [List.length_take]; omega, fun H3 e3 => ⟨_, _, rfl, rfl, ?_⟩⟩⟩⟩
    exact q _ ((e1.trans e2).trans e3)
theorem ok_is_whole (T : Txt K mg) (F : FnP K "is_whole" s_is_whole f fd) (C__is_page : Cal P w K mg base CX0 4 "_is_page" ["value"] (spIsPage K)) (C_surplus : Cal P w K mg base CX0 7 "surplus" ["octets"] (spSurplus K)) : Fg P w K mg base CX0 8 f fd ["value"] (spWhole K) := by
  refine fg_of F sc_is_whole (fun vs H Q E h => ?_) (fun cdv A outer s H vs Q E hr h => ⟨_, (PSs.nox (pss_one (ps_ret (pe_and (pe_cal C__is_page hr.le pass0 (pa_cons (pv 0) pa_nil)) (pe_one (pe_cmpR (u_eq (K := K) hr) (pe_cal C_surplus hr.le pass0 (pa_cons (pv 0) pa_nil)) pe_int (nomark _))))))), ?_⟩)
  · obtain ⟨a, os, t, rfl, _⟩ := h
    rfl
  · obtain ⟨a, os, t, rfl, S, ho, hl, q⟩ := h
    refine ⟨_, rfl, a, os, t, rfl, S, ho, hl, fun H1 e1 => ⟨true, rfl, iteT ?_⟩⟩
    refine ⟨_, rfl, a, os, t, rfl, S.ex e1, ho, hl, fun H2 e2 => .inl ⟨rfl, ?_⟩⟩
    rw [dec_int]
    exact q _ (e1.trans e2)
/-- the least octet is 255 exactly if all are -/
theorem pln_min {os : List Int} (ho : Oct os) (hl : os.length = 31) {m : Int} (hm : m ∈ os) (hy : ∀ y, y ∈ os → m ≤ y) : pln os = decide (m = 255) := by
  unfold pln
  by_cases c : m = 255
  · rw [decide_eq_true c, decide_eq_true]
    refine List.eq_replicate_iff.mpr ⟨hl, fun b hb => ?_⟩
    have h1 := hy b hb
    have h2 := ho b hb
    omega
  · rw [decide_eq_false c, decide_eq_false]
    intro e
    rw [e] at hm
    exact c (List.eq_of_mem_replicate hm)
theorem ok_is_clean (T : Txt K mg) (F : FnP K "is_clean" s_is_clean f fd) (C__is_page : Cal P w K mg base CX0 4 "_is_page" ["value"] (spIsPage K)) : Fg P w K mg base CX0 8 f fd ["value"] (spClean K) := by
  refine fg_of F sc_is_clean (fun vs H Q E h => ?_) (fun cdv A outer s H vs Q E hr h => ⟨_, (PSs.nox (pss_one (ps_ret (pe_and (pe_cal C__is_page hr.le pass0 (pa_cons (pv 0) pa_nil)) (pe_one (pe_cmpR (u_eq (K := K) hr) (pe_callB (u_min1 (K := K) hr rfl) (by rfl) T.f_min (by decide +kernel) (pa_cons (pv 0) pa_nil)) pe_int (nomark _))))))), ?_⟩)
  · obtain ⟨a, os, t, rfl, _⟩ := h
    rfl
  · obtain ⟨a, os, t, rfl, S, ho, hl, q⟩ := h
    refine ⟨_, rfl, a, os, t, rfl, S, ho, hl, fun H1 e1 => ⟨true, rfl, iteT ?_⟩⟩
    refine ⟨_, rfl, a, os, t, rfl, S.ex e1, by omega, fun m hm hy => .inl ⟨rfl, ?_⟩⟩
    rw [dec_int, ← pln_min ho hl hm hy]
    exact q _ e1
theorem ok_is_torn (T : Txt K mg) (F : FnP K "is_torn" s_is_torn f fd) (C__is_page : Cal P w K mg base CX0 4 "_is_page" ["value"] (spIsPage K)) (C_surplus : Cal P w K mg base CX0 7 "surplus" ["octets"] (spSurplus K)) : Fg P w K mg base CX0 8 f fd ["value"] (spTorn K) := by
  refine fg_of F sc_is_torn (fun vs H Q E h => ?_) (fun cdv A outer s H vs Q E hr h => ⟨_, (PSs.nox (pss_one (ps_ret (pe_and (pe_cal C__is_page hr.le pass0 (pa_cons (pv 0) pa_nil)) (pe_and (pe_cmpR op_lt (pe_callB (u_min1 (K := K) hr rfl) (by rfl) T.f_min (by decide +kernel) (pa_cons (pv 0) pa_nil)) pe_int (nomark _)) (pe_one (pe_cmpR (u_ne (K := K) hr) (pe_cal C_surplus hr.le pass0 (pa_cons (pv 0) pa_nil)) pe_int (nomark _)))))))), ?_⟩)
  · obtain ⟨a, os, t, rfl, _⟩ := h
    rfl
  · obtain ⟨a, os, t, rfl, S, ho, hl, q⟩ := h
    refine ⟨_, rfl, a, os, t, rfl, S, ho, hl, fun H1 e1 => ⟨true, rfl, iteT ?_⟩⟩
    refine ⟨_, rfl, a, os, t, rfl, S.ex e1, by omega, fun m hm hy => ⟨_, _, rfl, rfl, _, rfl, if_dec (fun h2 => ?_) (fun h2 => ?_)⟩⟩
    · have pm : pln os = false := by
        rw [pln_min ho hl hm hy]
        exact decide_eq_false (by omega)
      refine ⟨_, rfl, a, os, t, rfl, S.ex e1, ho, hl, fun H2 e2 => .inl ⟨rfl, ?_⟩⟩
      have z := q H2 (e1.trans e2)
      rw [pm] at z
      rw [dec_int]
      simpa using z
    · have m2 := ho m hm
      have pm : pln os = true := by
        rw [pln_min ho hl hm hy]
        exact decide_eq_true (by omega)
      have z := q H1 e1
      rw [pm] at z
      simpa using z
def spDTB (K : PySem.W.Frag) : Sp := spDataOf K
theorem ok_data_told_by (T : Txt K mg) (F : FnP K "data_told_by" s_data_told_by f fd) (C_zero_bits : Cal P w K mg base CX0 1 "zero_bits" ["octets"] (spZB K)) : Fg P w K mg base CX0 4 f fd ["page"] (spDTB K) := by
  refine fg_of F sc_data_told_by (fun vs H Q E h => ?_) (fun cdv A outer s H vs Q E hr h => ⟨_, (PSs.nox (pss_cons (ps_set (i := 1) sc_data_told_by.nd rfl (by first | exact Or.inl rfl | exact Or.inr rfl) (pe_callTy (u_tup (K := K)) (by rfl) T.f_tuple (by decide +kernel) (pa_cons (pe_slice (u_sl (K := K)) (pv 0) po_none (po_some (pe_globI rfl T.g_DATA_OCTETS))) pa_nil)))
  (pss_cons (ps_set (i := 2) sc_data_told_by.nd rfl (by first | exact Or.inl rfl | exact Or.inr rfl) (pe_ix (u_ix (K := K)) (pv 0) (pe_globI rfl T.g_DATA_OCTETS) (fun _ _ => rfl)))
  (pss_cons (ps_if (PW.pt (pw_or (pt_cmpR op_gt (pv 2) (pe_globI rfl T.g_MOST_ZEROS) (nomark _)) (pw_or1 (pt_cmpR (u_ne (K := K) hr) (pv 2) (pe_cal C_zero_bits hr.le pass0 (pa_cons (pv 1) pa_nil)) (nomark _)))))
  (pss_one (ps_ret pe_non)) pss_nil)
  (pss_one (ps_ret (pv 1))))))), ?_⟩)
  · obtain ⟨a, os, t, rfl, _⟩ := h
    rfl
  · obtain ⟨a, os, t, rfl, S, ho, hl, q⟩ := h
    refine ⟨_, rfl, 30, rfl, Sv.first S (n := 30) (by omega) fun p H1 np e1 S1 => ?_⟩
    have tail : ∀ (v : Addr) (H2 : Hp), Evl.Ex H H2 → SqT K H2 v (IV (os.take 30)) → tSeq (tAsg (tOp (rIx K) (tVar 0) (tC (V.int 30))) (gName 2)) (tSeq (tIfS (tOr (tTest (tOp (rI0 fun i j => V.bl (decide (j < i))) (tVar 2) (tC (V.int 240)))) (tTest (tOp (rNeU K) (tVar 2) (tCall (spZB K) [] E0 (tCons (tVar 1) tNil))))) (tRet (tC V.non)) tNext) (tRet (tVar 1))) { nx := fun x H' => Q V.non H', rt := Q } [some (.ref a), some (.ref v), none] H2 := by
      intro v H2 e2 S2
      have b := zc_bound (bitsL (os.take 30))
      rw [bitsL_len, List.length_take] at b
      refine ⟨_, rfl, Sv.ix (x := .non) (S.ex e2) (i := 30) (iv_at (i := 30) (get30 hl)) ⟨_, rfl, _, _, rfl, rfl, _, rfl, if_dec (fun h => ?_) (fun h => ?_)⟩⟩
      · have n0 : ¬ ovr os = 0 := by unfold ovr; omega
        have z := q .non H2 e2
        rw [if_neg n0] at z
        exact z .non
      · refine ⟨_, rfl, _, rfl, v, os.take 30, true, rfl, S2, fun o ho2 => ho o (List.mem_of_mem_take ho2), by rw [List.length_take]; omega, fun H3 e3 => .inl ⟨rfl, _, rfl, ?_⟩⟩
        rw [dec_int]
        have hz := q (.ref v) H3 (e2.trans e3)
        by_cases z : os.getD 30 0 = zc (bitsL (os.take 30))
        · have n0 : ovr os = 0 := by unfold ovr; omega
          rw [if_pos n0] at hz
          rw [decide_eq_true z]
          exact iteF ⟨_, rfl, hz (Dp.ex e3 _ _ (dp_t S2))⟩
        · have n0 : ¬ ovr os = 0 := by unfold ovr; omega
          have hn := q .non H3 (e2.trans e3)
          rw [if_neg n0] at hn
          rw [decide_eq_false z]
          exact iteT (hn .non)
    refine ⟨p, IV (os.take 30), rfl, ?_⟩
    cases t with
    | false => exact .inl ⟨S1, fun l nl => tail l _ (e1.trans (Evl.Ex.new nl)) (SqT.of upd_same)⟩
    | true => exact .inr ⟨S1, tail p _ e1 S1⟩
theorem ok_data_of (T : Txt K mg) (F : FnP K "data_of" s_data_of f fd) (C__is_page : Cal P w K mg base CX0 4 "_is_page" ["value"] (spIsPage K)) (C_data_told_by : Cal P w K mg base CX0 4 "data_told_by" ["page"] (spDTB K)) : Fg P w K mg base CX0 8 f fd ["octets"] (spDataOf K) := by
  refine fg_of F sc_data_of (fun vs H Q E h => ?_) (fun cdv A outer s H vs Q E hr h => ⟨_, (PSs.nox (pss_cons (ps_if (pt_not (pt_tru (K := K) (pe_cal C__is_page hr.le pass0 (pa_cons (pv 0) pa_nil)) (by intro _; rfl)))
  (pss_one ps_never) pss_nil)
  (pss_one (ps_ret (pe_cal C_data_told_by hr.le pass0 (pa_cons (pv 0) pa_nil)))))), ?_⟩)
  · obtain ⟨a, os, t, rfl, _⟩ := h
    rfl
  · obtain ⟨a, os, t, rfl, S, ho, hl, q⟩ := h
    refine ⟨_, rfl, a, os, t, rfl, S, ho, hl, fun H1 e1 => ⟨true, rfl, iteF ?_⟩⟩
    exact ⟨_, rfl, a, os, t, rfl, S.ex e1, ho, hl, fun v H2 e2 d => q v H2 (e1.trans e2) d⟩
end
end K09
namespace K09
open PySem PySem.Spec PyProof.Rows L2 VB BM
theorem and_comm_o {x y : Int} (hx : 0 ≤ x) (hy : 0 ≤ y) : Builtin.bitAnd x y = Builtin.bitAnd y x := by
  rw [VB.bitAnd_pp hx hy, VB.bitAnd_pp hy hx, Nat.and_comm]
/-- octet by octet: is each 1 of the page there -/
def covers (ys ws : List Int) : List Bool := (ys.zip ws).map fun p => decide (Builtin.bitAnd p.1 p.2 = p.2)
theorem covers_len {ys ws : List Int} (h : ys.length = ws.length) : (covers ys ws).length = ys.length := by
  unfold covers
  rw [List.length_map, List.length_zip]
  omega
theorem covers_get {ys ws : List Int} {i : Nat} {y w : Int} (hy : ys[i]? = some y) (hw : ws[i]? = some w) : (covers ys ws)[i]? = some (decide (Builtin.bitAnd y w = w)) := by
  unfold covers
  rw [List.getElem?_map]
  have e : (ys.zip ws)[i]? = some (y, w) := by
    rw [List.getElem?_zip_eq_some]
    exact ⟨hy, hw⟩
  rw [e]
  rfl
theorem zc_oct {os : List Int} (lo : os.length = 30) : 0 ≤ zc (bitsL os) ∧ zc (bitsL os) ≤ 255 := by
  have b := zc_bound (bitsL os)
  rw [bitsL_len] at b
  omega
theorem covers_rest {os ys : List Int} (oo : Oct os) (oy : Oct ys) (lo : os.length = 30) (ly : ys.length = 31) : (covers ys (os ++ [zc (bitsL os)])).all id = rest os ys := by
  have ow : Oct (os ++ [zc (bitsL os)]) := by
    intro o ho
    rcases List.mem_append.mp ho with z | z
    · exact oo o z
    · have e : o = zc (bitsL os) := by simpa using z
      rw [e]
      exact zc_oct lo
  have lw : (os ++ [zc (bitsL os)]).length = 31 := by simp; omega
  have at_ : ∀ j, j < 31 → ∃ y w, ys[j]? = some y ∧ (os ++ [zc (bitsL os)])[j]? = some w ∧ ys.getD j 0 = y ∧ (os ++ [zc (bitsL os)]).getD j 0 = w ∧ 0 ≤ y ∧ 0 ≤ w := by
    intro j hj
    obtain ⟨y, hy⟩ := get_lt (l := ys) (i := j) (by omega)
    obtain ⟨w, hw⟩ := get_lt (l := os ++ [zc (bitsL os)]) (i := j) (by omega)
    exact ⟨y, w, hy, hw, by rw [List.getD_eq_getElem?_getD, hy]; rfl, by rw [List.getD_eq_getElem?_getD, hw]; rfl, (oy y (List.mem_of_getElem? hy)).1, (ow w (List.mem_of_getElem? hw)).1⟩
  have iff : (covers ys (os ++ [zc (bitsL os)])).all id = true ↔ rest os ys = true := by
    rw [rest_iff, List.all_eq_true]
    constructor
    · intro h j hj
      obtain ⟨y, w, hy, hw, ey, ew, py, pw⟩ := at_ j hj
      have m := List.mem_of_getElem? (covers_get hy hw)
      have t := h _ m
      rw [ey, ew, and_comm_o pw py]
      exact of_decide_eq_true t
    · intro h b hb
      obtain ⟨i, hi, rfl⟩ := List.mem_iff_getElem.mp hb
      have li : i < 31 := by
        rw [covers_len (by omega)] at hi
        omega
      obtain ⟨y, w, hy, hw, ey, ew, py, pw⟩ := at_ i li
      have g := covers_get hy hw
      rw [List.getElem?_eq_getElem hi] at g
      rw [Option.some.inj g]
      have t := h i li
      rw [ey, ew, and_comm_o pw py] at t
      exact decide_eq_true t
  cases c : rest os ys with
  | true => exact iff.mpr c
  | false =>
    cases d : (covers ys (os ++ [zc (bitsL os)])).all id with
    | false => rfl
    | true =>
      rw [iff.mp d] at c
      cases c
section
variable {P : Program} {w : World} {K : PySem.W.Frag} {mg : Str → Option Value} {base : Heap} {f : Addr} {fd : FuncData}
theorem ok_is_rest (T : Txt K mg) (F : FnP K "is_rest" s_is_rest f fd) (C_sealed : Cal P w K mg base CX0 6 "sealed" ["data"] (spSealed K)) (C__is_page : Cal P w K mg base CX0 4 "_is_page" ["value"] (spIsPage K)) : Fg P w K mg base CX0 8 f fd ["data", "value"] (spRest K) := by
  refine fg_of F sc_is_rest (fun vs H Q E h => ?_) (fun cdv A outer s H vs Q E hr h => ⟨_, (PSs.nox (pss_cons (ps_set (i := 2) sc_is_rest.nd rfl (by first | exact Or.inl rfl | exact Or.inr rfl) (pe_cal C_sealed hr.le pass0 (pa_cons (pv 0) pa_nil)))
  (pss_one (ps_ret (pe_and (pe_cal C__is_page hr.le pass0 (pa_cons (pv 1) pa_nil)) (pe_one (pe_callB (u_all (K := K) rfl) (by rfl) T.f_all (by decide +kernel) (pa_cons (pe_lc (own := [("octet", 3), ("due", 4)]) rfl sc_is_rest.nd (pi_zm (K := K) rfl T.f_zip (pa_cons (pv 1) (pa_cons (pv 2) pa_nil))) (blkOk_by (own := [("octet", 3), ("due", 4)]) (N := ["data", "value", "page", "octet", "due"]) (sc := defScope s_is_rest) (by decide +kernel)) (fun _ _ _ _ _ => (pg_tupU (K := K) (n := 2) rfl (pgs_cons (pg_name (i := 3) sc_is_rest.nd rfl (by first | exact Or.inl rfl | exact Or.inr rfl)) (pgs_cons (pg_name (i := 4) sc_is_rest.nd rfl (by first | exact Or.inl rfl | exact Or.inr rfl)) pgs_nil)))) (fun _ _ _ _ _ => pts_nil) (fun _ _ _ _ _ => (pe_cmpR (u_eq (K := K) hr) (pe_op op_and (pv 3) (pv 4)) (pv 4) (nomark _)))) pa_nil)))))))), ?_⟩)
  · obtain ⟨a, b, os, ys, t, u, rfl, _⟩ := h
    rfl
  · obtain ⟨a, b, os, ys, t, u, rfl, Sa, Sb, oo, oy, lo, ly, q⟩ := h
    refine ⟨_, rfl, a, os, t, rfl, Sa, oo, lo, fun p H1 e1 S1 => ?_⟩
    refine ⟨_, rfl, b, ys, u, rfl, Sb.ex e1, oy, ly, fun H2 e2 => ⟨true, rfl, iteT ?_⟩⟩
    have lw : (os ++ [zc (bitsL os)]).length = 31 := by simp; omega
    have wk := walk_zm (t := u) (u := true) (K := K) (a := b) (b := p) (xs := IV ys) (ys := IV (os ++ [zc (bitsL os)])) (n := 31) (by rw [iv_len, iv_len]; omega)
    have S2 : Sv true K H2 p (IV (os ++ [zc (bitsL os)])) := Sv.ex (t := true) S1 e2
    have B2 := Sb.ex (e1.trans e2)
    refine ⟨_, rfl, _, rfl, u, true, b, p, _, _, rfl, B2, S2, fun D hD => ?_⟩
    refine lc_pureVZ (us := (covers ys (os ++ [zc (bitsL os)])).map V.bl) wk (fun H' ex => ⟨B2.ex ex, S2.ex ex⟩) (by rw [List.length_map, covers_len (by omega)]; exact ly) (by omega) hD (fun _ _ => rfl) ?_ ?_
    · intro i x y v H' Q' hx hy hv ex k
      obtain ⟨m, hm, rfl⟩ := iv_get hx
      obtain ⟨n, hn, rfl⟩ := iv_get hy
      rw [List.getElem?_map, covers_get hm hn] at hv
      cases hv
      refine ⟨_, rfl, _, rfl, _, _, rfl, rfl, _, rfl, .inl ⟨rfl, ?_⟩⟩
      have kk := k H' (Evl.Ex.refl _)
      rw [dec_int]
      exact kk
    · intro H' ex h3
      refine ⟨D, covers ys (os ++ [zc (bitsL os)]), rfl, SqL.of h3, ?_⟩
      rw [covers_rest oo oy lo ly]
      exact q _ ((e1.trans e2).trans ex)
end
end K09
/-! the ends -/
namespace VB
open PySem PySem.Spec PyProof.Rows L2
theorem vals_getD {zs : List V} {ws : List Value} (h : Vals zs ws) : ∀ i : Nat, RelV (zs.getD i .non) (ws.getD i .none) := by
  induction h with
  | nil =>
    intro i
    exact rfl
  | cons r _ ih =>
    intro i
    cases i with
    | zero => exact r
    | succ i => exact ih i
theorem kb_of {K : PySem.W.Frag} {x qual : Str} {params : Arguments} {body : List Stmt} {scope : Scope} {kws : List (Str × V)} {f : Addr} {fd : FuncData} {ps ks : List Str} {n : Nat}
    {g : List Value → List Value → List Value} {gV : List V → List V → List V} (F : FunD K x qual params body scope [] kws f fd)
    (hrel : ∀ {vs : List V} {us : List Value} {zs : List V} {ws : List Value}, Vals vs us → Vals zs ws → Vals (gV vs zs) (g us ws))
    (h : ∀ (kV doc pm : Value) (an : Option Addr) (cdv ct : Value) (us ws : List Value), us.length = n → ws.length = ks.length → bindArgs (PySem.W.fnOf x qual params body scope .none kV doc pm an cdv ct) ⟨us, ks.zip ws⟩ = pure (ps.zip (g us ws))) :
    KBn K fd ps n ks g gV := by
  obtain ⟨oc, od, dV, kV, doc, pm, an, cdv, ct, osl, rfl, lk, hcd, hD, hK⟩ := F.ex
  rcases hD with ⟨_, rfl⟩ | ⟨e, _⟩
  · exact ⟨fun s us ws _ l1 l2 => .of_eq (h kV doc pm an cdv ct us ws l1 l2), fun r1 r2 => hrel r1 r2⟩
  · exact absurd rfl e
end VB
set_option maxHeartbeats 0
namespace K09
open PySem PySem.Spec PyProof.Rows L2 VB
def d__law_box : He.DefD := ⟨("_law_box", none), "_law_box", "_law_box", defArgs s__law_box, defBody s__law_box, defScope s__law_box, [], []⟩
def d__law_cell : He.DefD := ⟨("_law_cell", none), "_law_cell", "_law_cell", defArgs s__law_cell, defBody s__law_cell, defScope s__law_cell, [], []⟩
def d__law_take : He.DefD := ⟨("_law_take", none), "_law_take", "_law_take", defArgs s__law_take, defBody s__law_take, defScope s__law_take, [], []⟩
def d__law_zeros : He.DefD := ⟨("_law_zeros", none), "_law_zeros", "_law_zeros", defArgs s__law_zeros, defBody s__law_zeros, defScope s__law_zeros, [], []⟩
def d__law_page : He.DefD := ⟨("_law_page", none), "_law_page", "_law_page", defArgs s__law_page, defBody s__law_page, defScope s__law_page, [], []⟩
def d__law_drawn : He.DefD := ⟨("_law_drawn", none), "_law_drawn", "_law_drawn", defArgs s__law_drawn, defBody s__law_drawn, defScope s__law_drawn, [], []⟩
def d__law_data : He.DefD := ⟨("_law_data", none), "_law_data", "_law_data", defArgs s__law_data, defBody s__law_data, defScope s__law_data, [], []⟩
def d__law_other : He.DefD := ⟨("_law_other", none), "_law_other", "_law_other", defArgs s__law_other, defBody s__law_other, defScope s__law_other, [], []⟩
def d__law_moved : He.DefD := ⟨("_law_moved", none), "_law_moved", "_law_moved", defArgs s__law_moved, defBody s__law_moved, defScope s__law_moved, [], []⟩
def d__law_one_bit : He.DefD := ⟨("_law_one_bit", none), "_law_one_bit", "_law_one_bit", defArgs s__law_one_bit, defBody s__law_one_bit, defScope s__law_one_bit, [], []⟩
def d__law_mask : He.DefD := ⟨("_law_mask", none), "_law_mask", "_law_mask", defArgs s__law_mask, defBody s__law_mask, defScope s__law_mask, [], []⟩
def d__law_is_rest : He.DefD := ⟨("_law_is_rest", none), "_law_is_rest", "_law_is_rest", defArgs s__law_is_rest, defBody s__law_is_rest, defScope s__law_is_rest, [], []⟩
def d__law_handed : He.DefD := ⟨("_law_handed", none), "_law_handed", "_law_handed", defArgs s__law_handed, defBody s__law_handed, defScope s__law_handed, [], []⟩
def d_is_list : He.DefD := ⟨("is_list", none), "is_list", "is_list", defArgs s_is_list, defBody s_is_list, defScope s_is_list, [], []⟩
def d_is_octets : He.DefD := ⟨("is_octets", none), "is_octets", "is_octets", defArgs s_is_octets, defBody s_is_octets, defScope s_is_octets, [], []⟩
def d_is_octets_of : He.DefD := ⟨("is_octets_of", none), "is_octets_of", "is_octets_of", defArgs s_is_octets_of, defBody s_is_octets_of, defScope s_is_octets_of, [], []⟩
def d_zero_bits : He.DefD := ⟨("zero_bits", none), "zero_bits", "zero_bits", defArgs s_zero_bits, defBody s_zero_bits, defScope s_zero_bits, [], []⟩
def d_sealed : He.DefD := ⟨("sealed", none), "sealed", "sealed", defArgs s_sealed, defBody s_sealed, defScope s_sealed, [], []⟩
def d__is_page : He.DefD := ⟨("_is_page", none), "_is_page", "_is_page", defArgs s__is_page, defBody s__is_page, defScope s__is_page, [], []⟩
def d_is_rest : He.DefD := ⟨("is_rest", none), "is_rest", "is_rest", defArgs s_is_rest, defBody s_is_rest, defScope s_is_rest, [], []⟩
def d__law_rest_right : He.DefD := ⟨("_law_rest_right", none), "_law_rest_right", "_law_rest_right", defArgs s__law_rest_right, defBody s__law_rest_right, defScope s__law_rest_right, [], []⟩
def d_surplus : He.DefD := ⟨("surplus", none), "surplus", "surplus", defArgs s_surplus, defBody s_surplus, defScope s_surplus, [], []⟩
def d_data_told_by : He.DefD := ⟨("data_told_by", none), "data_told_by", "data_told_by", defArgs s_data_told_by, defBody s_data_told_by, defScope s_data_told_by, [], []⟩
def d_data_of : He.DefD := ⟨("data_of", none), "data_of", "data_of", defArgs s_data_of, defBody s_data_of, defScope s_data_of, [], []⟩
def d_is_whole : He.DefD := ⟨("is_whole", none), "is_whole", "is_whole", defArgs s_is_whole, defBody s_is_whole, defScope s_is_whole, [], []⟩
def d_is_clean : He.DefD := ⟨("is_clean", none), "is_clean", "is_clean", defArgs s_is_clean, defBody s_is_clean, defScope s_is_clean, [], []⟩
def d_is_torn : He.DefD := ⟨("is_torn", none), "is_torn", "is_torn", defArgs s_is_torn, defBody s_is_torn, defScope s_is_torn, [], []⟩
def d__law_kind_right : He.DefD := ⟨("_law_kind_right", none), "_law_kind_right", "_law_kind_right", defArgs s__law_kind_right, defBody s__law_kind_right, defScope s__law_kind_right, [], []⟩
def d__law_spoilt : He.DefD := ⟨("_law_spoilt", none), "_law_spoilt", "_law_spoilt", defArgs s__law_spoilt, defBody s__law_spoilt, defScope s__law_spoilt, [], []⟩
def d__law_rests_right : He.DefD := ⟨("_law_rests_right", none), "_law_rests_right", "_law_rests_right", defArgs s__law_rests_right, defBody s__law_rests_right, defScope s__law_rests_right, [], []⟩
def d__law_unlike_right : He.DefD := ⟨("_law_unlike_right", none), "_law_unlike_right", "_law_unlike_right", defArgs s__law_unlike_right, defBody s__law_unlike_right, defScope s__law_unlike_right, [], []⟩
def d__law_steps_right : He.DefD := ⟨("_law_steps_right", none), "_law_steps_right", "_law_steps_right", defArgs s__law_steps_right, defBody s__law_steps_right, defScope s__law_steps_right, [], []⟩
def d_law : He.DefD := ⟨("law", none), "law", "law", defArgs s_law, defBody s_law, defScope s_law, [], []⟩
def fnl : List He.DefD := [d__law_box, d__law_cell, d__law_take, d__law_zeros, d__law_page, d__law_drawn, d__law_data, d__law_other, d__law_moved, d__law_one_bit, d__law_mask, d__law_is_rest, d__law_handed, d_is_list, d_is_octets, d_is_octets_of, d_zero_bits, d_sealed, d__is_page, d_is_rest, d__law_rest_right, d_surplus, d_data_told_by, d_data_of, d_is_whole, d_is_clean, d_is_torn, d__law_kind_right, d__law_spoilt, d__law_rests_right, d__law_unlike_right, d__law_steps_right, d_law]
def fal : List He.Fa := [.glo "_law_box", .glo "_law_cell", .glo "_law_take", .glo "_law_zeros", .glo "_law_page", .glo "_law_drawn", .glo "_law_data", .glo "_law_other", .glo "_law_moved", .glo "_law_one_bit", .glo "_law_mask", .glo "_law_is_rest", .glo "_law_handed", .glo "is_list", .glo "is_octets", .glo "is_octets_of", .glo "zero_bits", .glo "sealed", .glo "_is_page", .glo "is_rest", .glo "_law_rest_right", .glo "surplus", .glo "data_told_by", .glo "data_of", .glo "is_whole", .glo "is_clean", .glo "is_torn", .glo "_law_kind_right", .glo "_law_spoilt", .glo "_law_rests_right", .glo "_law_unlike_right", .glo "_law_steps_right", .glo "law", .free "abs", .free "all", .free "bool", .free "enumerate", .free "int", .free "isinstance", .free "len", .free "list", .free "max", .free "min", .free "range", .free "repr", .free "sum", .free "tuple", .free "zip", .int "DATA_OCTETS" 30, .int "MOST_ZEROS" 240, .int "PAGE_OCTETS" 31, .glo "ZEROS_OF_HALF"]
abbrev Rw : PySem.W.OpenRow := PySem.W.OpenLaw.row PySem.Challenge.rw_onewaybits_k09_rests
def exB (K : PySem.W.Frag) : Bool := He.tupB K "ZEROS_OF_HALF" [.int 4, .int 3, .int 3, .int 2, .int 3, .int 2, .int 2, .int 1, .int 3, .int 2, .int 2, .int 1, .int 2, .int 1, .int 1, .int 0] && (true)
abbrev hk : PySem.W.Hook := He.hookX 4 fal fnl [] [] exB
def ob (s : PySem.W.SharedT) : He.AlX := He.obsX 4 fal fnl [] [] exB (HandSHeadRun.getT s)
theorem ob_eq (s : PySem.W.SharedT) : ob s = hk.obs s.abs := He.obsX_eq (HandSHeadRun.getT_eq s)
def ln0 : List Str := ["FlashError", "InvalidOctets", "InvalidData", "PAGE_OCTETS", "DATA_OCTETS", "is_list", "is_octets", "is_octets_of", "ZEROS_OF_HALF", "zero_bits", "MOST_ZEROS", "sealed", "is_clean", "is_whole", "is_torn", "data_of", "data_told_by", "surplus", "is_rest", "_is_page", "_law_cell", "_law_box", "_law_take", "_law_zeros", "_law_drawn", "_law_one_bit", "_law_mask", "_law_moved", "_law_data", "_law_page"]
def ln1 : List Str := ["_law_other", "_law_is_rest", "_law_spoilt", "_law_handed", "_law_rest_right", "_law_kind_right", "_law_rests_right", "_law_unlike_right", "_law_steps_right"]
abbrev lns : List Str := ln0 ++ ln1
theorem run (w : World) : HandSHeadRun.RunEq Rw (PySem.W.view Rw.prog [44]) hk ob 20000 lns w := by
  intro os
  kernel_rfl
theorem facts {P : Program} {w : World} {K : PySem.W.Frag} {h : Heap} {mg : Str → Option Value} {f : Addr} (X : K.In h) (G : h.Ns mainGlobals mg) (hfa : mg ("law" : Str) = some (.ref f)) (cx : He.SaysX fal fnl [] [] exB w h K) :
    ∃ fd : FuncData, (∀ (s : Shared) (v : Value), BindsTo s fd ⟨[v], []⟩ [("_law_script", v)]) ∧ ∀ base : Heap, K.In base → base.Ns mainGlobals mg → Fg P w K mg base CX0 11 f fd ["_law_script"] (spLaw K) := by
  have c := cx.t.d
  have cm := cx.more
  have tb_ZEROS_OF_HALF : ∀ H : Hp, SqT K H (He.ga K "ZEROS_OF_HALF") (List.map V.int [4, 3, 3, 2, 3, 2, 2, 1, 3, 2, 2, 1, 2, 1, 1, 0]) := fun H => He.tupB_ok (He.ba cm).1 H
  have cm := (He.ba cm).2
  obtain ⟨fd__law_box, F__law_box⟩ := c.def_ 0 (d := d__law_box) rfl
  have g__law_box := He.glo_ok X G (c.fact 0 (f := .glo "_law_box") rfl)
  obtain ⟨fd__law_cell, F__law_cell⟩ := c.def_ 1 (d := d__law_cell) rfl
  have g__law_cell := He.glo_ok X G (c.fact 1 (f := .glo "_law_cell") rfl)
  obtain ⟨fd__law_take, F__law_take⟩ := c.def_ 2 (d := d__law_take) rfl
  have g__law_take := He.glo_ok X G (c.fact 2 (f := .glo "_law_take") rfl)
  obtain ⟨fd__law_zeros, F__law_zeros⟩ := c.def_ 3 (d := d__law_zeros) rfl
  have g__law_zeros := He.glo_ok X G (c.fact 3 (f := .glo "_law_zeros") rfl)
  obtain ⟨fd__law_page, F__law_page⟩ := c.def_ 4 (d := d__law_page) rfl
  have g__law_page := He.glo_ok X G (c.fact 4 (f := .glo "_law_page") rfl)
  obtain ⟨fd__law_drawn, F__law_drawn⟩ := c.def_ 5 (d := d__law_drawn) rfl
  have g__law_drawn := He.glo_ok X G (c.fact 5 (f := .glo "_law_drawn") rfl)
  obtain ⟨fd__law_data, F__law_data⟩ := c.def_ 6 (d := d__law_data) rfl
  have g__law_data := He.glo_ok X G (c.fact 6 (f := .glo "_law_data") rfl)
  obtain ⟨fd__law_other, F__law_other⟩ := c.def_ 7 (d := d__law_other) rfl
  have g__law_other := He.glo_ok X G (c.fact 7 (f := .glo "_law_other") rfl)
  obtain ⟨fd__law_moved, F__law_moved⟩ := c.def_ 8 (d := d__law_moved) rfl
  have g__law_moved := He.glo_ok X G (c.fact 8 (f := .glo "_law_moved") rfl)
  obtain ⟨fd__law_one_bit, F__law_one_bit⟩ := c.def_ 9 (d := d__law_one_bit) rfl
  have g__law_one_bit := He.glo_ok X G (c.fact 9 (f := .glo "_law_one_bit") rfl)
  obtain ⟨fd__law_mask, F__law_mask⟩ := c.def_ 10 (d := d__law_mask) rfl
  have g__law_mask := He.glo_ok X G (c.fact 10 (f := .glo "_law_mask") rfl)
  obtain ⟨fd__law_is_rest, F__law_is_rest⟩ := c.def_ 11 (d := d__law_is_rest) rfl
  have g__law_is_rest := He.glo_ok X G (c.fact 11 (f := .glo "_law_is_rest") rfl)
  obtain ⟨fd__law_handed, F__law_handed⟩ := c.def_ 12 (d := d__law_handed) rfl
  have g__law_handed := He.glo_ok X G (c.fact 12 (f := .glo "_law_handed") rfl)
  obtain ⟨fd_is_list, F_is_list⟩ := c.def_ 13 (d := d_is_list) rfl
  have g_is_list := He.glo_ok X G (c.fact 13 (f := .glo "is_list") rfl)
  obtain ⟨fd_is_octets, F_is_octets⟩ := c.def_ 14 (d := d_is_octets) rfl
  have g_is_octets := He.glo_ok X G (c.fact 14 (f := .glo "is_octets") rfl)
  obtain ⟨fd_is_octets_of, F_is_octets_of⟩ := c.def_ 15 (d := d_is_octets_of) rfl
  have g_is_octets_of := He.glo_ok X G (c.fact 15 (f := .glo "is_octets_of") rfl)
  obtain ⟨fd_zero_bits, F_zero_bits⟩ := c.def_ 16 (d := d_zero_bits) rfl
  have g_zero_bits := He.glo_ok X G (c.fact 16 (f := .glo "zero_bits") rfl)
  obtain ⟨fd_sealed, F_sealed⟩ := c.def_ 17 (d := d_sealed) rfl
  have g_sealed := He.glo_ok X G (c.fact 17 (f := .glo "sealed") rfl)
  obtain ⟨fd__is_page, F__is_page⟩ := c.def_ 18 (d := d__is_page) rfl
  have g__is_page := He.glo_ok X G (c.fact 18 (f := .glo "_is_page") rfl)
  obtain ⟨fd_is_rest, F_is_rest⟩ := c.def_ 19 (d := d_is_rest) rfl
  have g_is_rest := He.glo_ok X G (c.fact 19 (f := .glo "is_rest") rfl)
  obtain ⟨fd__law_rest_right, F__law_rest_right⟩ := c.def_ 20 (d := d__law_rest_right) rfl
  have g__law_rest_right := He.glo_ok X G (c.fact 20 (f := .glo "_law_rest_right") rfl)
  obtain ⟨fd_surplus, F_surplus⟩ := c.def_ 21 (d := d_surplus) rfl
  have g_surplus := He.glo_ok X G (c.fact 21 (f := .glo "surplus") rfl)
  obtain ⟨fd_data_told_by, F_data_told_by⟩ := c.def_ 22 (d := d_data_told_by) rfl
  have g_data_told_by := He.glo_ok X G (c.fact 22 (f := .glo "data_told_by") rfl)
  obtain ⟨fd_data_of, F_data_of⟩ := c.def_ 23 (d := d_data_of) rfl
  have g_data_of := He.glo_ok X G (c.fact 23 (f := .glo "data_of") rfl)
  obtain ⟨fd_is_whole, F_is_whole⟩ := c.def_ 24 (d := d_is_whole) rfl
  have g_is_whole := He.glo_ok X G (c.fact 24 (f := .glo "is_whole") rfl)
  obtain ⟨fd_is_clean, F_is_clean⟩ := c.def_ 25 (d := d_is_clean) rfl
  have g_is_clean := He.glo_ok X G (c.fact 25 (f := .glo "is_clean") rfl)
  obtain ⟨fd_is_torn, F_is_torn⟩ := c.def_ 26 (d := d_is_torn) rfl
  have g_is_torn := He.glo_ok X G (c.fact 26 (f := .glo "is_torn") rfl)
  obtain ⟨fd__law_kind_right, F__law_kind_right⟩ := c.def_ 27 (d := d__law_kind_right) rfl
  have g__law_kind_right := He.glo_ok X G (c.fact 27 (f := .glo "_law_kind_right") rfl)
  obtain ⟨fd__law_spoilt, F__law_spoilt⟩ := c.def_ 28 (d := d__law_spoilt) rfl
  have g__law_spoilt := He.glo_ok X G (c.fact 28 (f := .glo "_law_spoilt") rfl)
  obtain ⟨fd__law_rests_right, F__law_rests_right⟩ := c.def_ 29 (d := d__law_rests_right) rfl
  have g__law_rests_right := He.glo_ok X G (c.fact 29 (f := .glo "_law_rests_right") rfl)
  obtain ⟨fd__law_unlike_right, F__law_unlike_right⟩ := c.def_ 30 (d := d__law_unlike_right) rfl
  have g__law_unlike_right := He.glo_ok X G (c.fact 30 (f := .glo "_law_unlike_right") rfl)
  obtain ⟨fd__law_steps_right, F__law_steps_right⟩ := c.def_ 31 (d := d__law_steps_right) rfl
  have g__law_steps_right := He.glo_ok X G (c.fact 31 (f := .glo "_law_steps_right") rfl)
  obtain ⟨fd_law, F_law⟩ := c.def_ 32 (d := d_law) rfl
  have g_law := He.glo_ok X G (c.fact 32 (f := .glo "law") rfl)
  have T : Txt K mg := ⟨He.free_ok X G (c.fact 33 (f := .free "abs") rfl), He.free_ok X G (c.fact 34 (f := .free "all") rfl), He.free_ok X G (c.fact 35 (f := .free "bool") rfl), He.free_ok X G (c.fact 36 (f := .free "enumerate") rfl), He.free_ok X G (c.fact 37 (f := .free "int") rfl), He.free_ok X G (c.fact 38 (f := .free "isinstance") rfl), He.free_ok X G (c.fact 39 (f := .free "len") rfl), He.free_ok X G (c.fact 40 (f := .free "list") rfl), He.free_ok X G (c.fact 41 (f := .free "max") rfl), He.free_ok X G (c.fact 42 (f := .free "min") rfl), He.free_ok X G (c.fact 43 (f := .free "range") rfl), He.free_ok X G (c.fact 44 (f := .free "repr") rfl), He.free_ok X G (c.fact 45 (f := .free "sum") rfl), He.free_ok X G (c.fact 46 (f := .free "tuple") rfl), He.free_ok X G (c.fact 47 (f := .free "zip") rfl), He.int_ok X G (c.fact 48 (f := .int "DATA_OCTETS" 30) rfl), He.int_ok X G (c.fact 49 (f := .int "MOST_ZEROS" 240) rfl), He.int_ok X G (c.fact 50 (f := .int "PAGE_OCTETS" 31) rfl), tb_ZEROS_OF_HALF, He.glo_ok X G (c.fact 51 (f := .glo "ZEROS_OF_HALF") rfl)⟩
  cases hfa.symm.trans g_law
  have b := FunD.bindsA (ps := ["_law_script"]) F_law fun _ _ _ _ _ _ us hl => match us, hl with | [_], _ => rfl
  refine ⟨fd_law, fun s v => b s [v] rfl, fun base _ _ => ?_⟩
  have G__law_box : Fg P w K mg base CX0 1 _ fd__law_box ["_law_great"] spBox := ok_box T F__law_box 
  have C__law_box_1 : Cal P w K mg base CX0 1 "_law_box" ["_law_great"] spBox := ⟨_, fd__law_box, G__law_box.le (by omega), g__law_box, F__law_box.kp, F__law_box.bindsN fun _ _ _ _ _ _ us hl => match us, hl with | [_], _ => rfl⟩
  have G__law_cell : Fg P w K mg base CX0 1 _ fd__law_cell ["_law_script", "_law_k"] (spCell K) := ok_cell T F__law_cell 
  have C__law_cell_1 : Cal P w K mg base CX0 1 "_law_cell" ["_law_script", "_law_k"] (spCell K) := ⟨_, fd__law_cell, G__law_cell.le (by omega), g__law_cell, F__law_cell.kp, F__law_cell.bindsN fun _ _ _ _ _ _ us hl => match us, hl with | [_, _], _ => rfl⟩
  have G__law_take : Fg P w K mg base CX0 1 _ fd__law_take ["_law_box_here", "_law_many"] spTake := ok_take T F__law_take 
  have C__law_take_1 : Cal P w K mg base CX0 1 "_law_take" ["_law_box_here", "_law_many"] spTake := ⟨_, fd__law_take, G__law_take.le (by omega), g__law_take, F__law_take.kp, F__law_take.bindsN fun _ _ _ _ _ _ us hl => match us, hl with | [_, _], _ => rfl⟩
  have G__law_zeros : Fg P w K mg base CX0 1 _ fd__law_zeros ["_law_octets"] (spLZ K) := ok_lzeros T F__law_zeros 
  have C__law_zeros_1 : Cal P w K mg base CX0 1 "_law_zeros" ["_law_octets"] (spLZ K) := ⟨_, fd__law_zeros, G__law_zeros.le (by omega), g__law_zeros, F__law_zeros.kp, F__law_zeros.bindsN fun _ _ _ _ _ _ us hl => match us, hl with | [_], _ => rfl⟩
  have G__law_page : Fg P w K mg base CX0 2 _ fd__law_page ["_law_data_here"] (spPg K) := ok_page T F__law_page C__law_zeros_1
  have C__law_page_2 : Cal P w K mg base CX0 2 "_law_page" ["_law_data_here"] (spPg K) := ⟨_, fd__law_page, G__law_page.le (by omega), g__law_page, F__law_page.kp, F__law_page.bindsN fun _ _ _ _ _ _ us hl => match us, hl with | [_], _ => rfl⟩
  have G__law_drawn : Fg P w K mg base CX0 2 _ fd__law_drawn ["_law_box_here", "_law_count"] spLD := ok_ldrawn T F__law_drawn C__law_take_1
  have C__law_drawn_2 : Cal P w K mg base CX0 2 "_law_drawn" ["_law_box_here", "_law_count"] spLD := ⟨_, fd__law_drawn, G__law_drawn.le (by omega), g__law_drawn, F__law_drawn.kp, F__law_drawn.bindsN fun _ _ _ _ _ _ us hl => match us, hl with | [_, _], _ => rfl⟩
  have G__law_data : Fg P w K mg base CX0 3 _ fd__law_data ["_law_box_here"] spDa := ok_ldata T F__law_data C__law_take_1 C__law_drawn_2
  have C__law_data_3 : Cal P w K mg base CX0 3 "_law_data" ["_law_box_here"] spDa := ⟨_, fd__law_data, G__law_data.le (by omega), g__law_data, F__law_data.kp, F__law_data.bindsN fun _ _ _ _ _ _ us hl => match us, hl with | [_], _ => rfl⟩
  have G__law_other : Fg P w K mg base CX0 4 _ fd__law_other ["_law_box_here", "_law_data_here"] spOt := ok_other T F__law_other C__law_take_1 C__law_data_3
  have C__law_other_4 : Cal P w K mg base CX0 4 "_law_other" ["_law_box_here", "_law_data_here"] spOt := ⟨_, fd__law_other, G__law_other.le (by omega), g__law_other, F__law_other.kp, F__law_other.bindsN fun _ _ _ _ _ _ us hl => match us, hl with | [_, _], _ => rfl⟩
  have G__law_moved : Fg P w K mg base CX0 1 _ fd__law_moved ["_law_page_here", "_law_mask_here", "_law_aim"] (spMv K) := ok_moved T F__law_moved 
  have C__law_moved_1 : Cal P w K mg base CX0 1 "_law_moved" ["_law_page_here", "_law_mask_here", "_law_aim"] (spMv K) := ⟨_, fd__law_moved, G__law_moved.le (by omega), g__law_moved, F__law_moved.kp, F__law_moved.bindsN fun _ _ _ _ _ _ us hl => match us, hl with | [_, _, _], _ => rfl⟩
  have G__law_one_bit : Fg P w K mg base CX0 1 _ fd__law_one_bit ["_law_at", "_law_worth"] spOB := ok_onebit T F__law_one_bit 
  have C__law_one_bit_1 : Cal P w K mg base CX0 1 "_law_one_bit" ["_law_at", "_law_worth"] spOB := ⟨_, fd__law_one_bit, G__law_one_bit.le (by omega), g__law_one_bit, F__law_one_bit.kp, F__law_one_bit.bindsN fun _ _ _ _ _ _ us hl => match us, hl with | [_, _], _ => rfl⟩
  have G__law_mask : Fg P w K mg base CX0 3 _ fd__law_mask ["_law_box_here"] spMk := ok_mask T F__law_mask C__law_take_1 C__law_one_bit_1 C__law_drawn_2
  have C__law_mask_3 : Cal P w K mg base CX0 3 "_law_mask" ["_law_box_here"] spMk := ⟨_, fd__law_mask, G__law_mask.le (by omega), g__law_mask, F__law_mask.kp, F__law_mask.bindsN fun _ _ _ _ _ _ us hl => match us, hl with | [_], _ => rfl⟩
  have G__law_is_rest : Fg P w K mg base CX0 3 _ fd__law_is_rest ["_law_data_here", "_law_page_here"] (spIR K) := ok_isrest T F__law_is_rest C__law_page_2
  have C__law_is_rest_3 : Cal P w K mg base CX0 3 "_law_is_rest" ["_law_data_here", "_law_page_here"] (spIR K) := ⟨_, fd__law_is_rest, G__law_is_rest.le (by omega), g__law_is_rest, F__law_is_rest.kp, F__law_is_rest.bindsN fun _ _ _ _ _ _ us hl => match us, hl with | [_, _], _ => rfl⟩
  have G__law_handed : Fg P w K mg base CX0 2 _ fd__law_handed ["_law_box_here", "_law_octets"] (spHd K) := ok_handed T F__law_handed C__law_take_1
  have C__law_handed_2 : Cal P w K mg base CX0 2 "_law_handed" ["_law_box_here", "_law_octets"] (spHd K) := ⟨_, fd__law_handed, G__law_handed.le (by omega), g__law_handed, F__law_handed.kp, F__law_handed.bindsN fun _ _ _ _ _ _ us hl => match us, hl with | [_, _], _ => rfl⟩
  have G_is_list : Fg P w K mg base CX0 1 _ fd_is_list ["value"] (spIsList K) := ok_is_list T F_is_list 
  have C_is_list_1 : Cal P w K mg base CX0 1 "is_list" ["value"] (spIsList K) := ⟨_, fd_is_list, G_is_list.le (by omega), g_is_list, F_is_list.kp, F_is_list.bindsN fun _ _ _ _ _ _ us hl => match us, hl with | [_], _ => rfl⟩
  have G_is_octets : Fg P w K mg base CX0 2 _ fd_is_octets ["value"] (spIsOct K) := ok_is_octets T F_is_octets C_is_list_1
  have C_is_octets_2 : Cal P w K mg base CX0 2 "is_octets" ["value"] (spIsOct K) := ⟨_, fd_is_octets, G_is_octets.le (by omega), g_is_octets, F_is_octets.kp, F_is_octets.bindsN fun _ _ _ _ _ _ us hl => match us, hl with | [_], _ => rfl⟩
  have G_is_octets_of : Fg P w K mg base CX0 3 _ fd_is_octets_of ["value", "count"] (spOctOf K) := ok_octets_of T F_is_octets_of C_is_list_1 C_is_octets_2
  have C_is_octets_of_3 : Cal P w K mg base CX0 3 "is_octets_of" ["value", "count"] (spOctOf K) := ⟨_, fd_is_octets_of, G_is_octets_of.le (by omega), g_is_octets_of, F_is_octets_of.kp, F_is_octets_of.bindsN fun _ _ _ _ _ _ us hl => match us, hl with | [_, _], _ => rfl⟩
  have G_zero_bits : Fg P w K mg base CX0 1 _ fd_zero_bits ["octets"] (spZB K) := ok_zero_bits T F_zero_bits 
  have C_zero_bits_1 : Cal P w K mg base CX0 1 "zero_bits" ["octets"] (spZB K) := ⟨_, fd_zero_bits, G_zero_bits.le (by omega), g_zero_bits, F_zero_bits.kp, F_zero_bits.bindsN fun _ _ _ _ _ _ us hl => match us, hl with | [_], _ => rfl⟩
  have G_sealed : Fg P w K mg base CX0 6 _ fd_sealed ["data"] (spSealed K) := ok_sealed T F_sealed C_is_octets_of_3 C_zero_bits_1
  have C_sealed_6 : Cal P w K mg base CX0 6 "sealed" ["data"] (spSealed K) := ⟨_, fd_sealed, G_sealed.le (by omega), g_sealed, F_sealed.kp, F_sealed.bindsN fun _ _ _ _ _ _ us hl => match us, hl with | [_], _ => rfl⟩
  have C_sealed_8 : Cal P w K mg base CX0 8 "sealed" ["data"] (spSealed K) := ⟨_, fd_sealed, G_sealed.le (by omega), g_sealed, F_sealed.kp, F_sealed.bindsN fun _ _ _ _ _ _ us hl => match us, hl with | [_], _ => rfl⟩
  have G__is_page : Fg P w K mg base CX0 4 _ fd__is_page ["value"] (spIsPage K) := ok_is_page T F__is_page C_is_octets_of_3
  have C__is_page_4 : Cal P w K mg base CX0 4 "_is_page" ["value"] (spIsPage K) := ⟨_, fd__is_page, G__is_page.le (by omega), g__is_page, F__is_page.kp, F__is_page.bindsN fun _ _ _ _ _ _ us hl => match us, hl with | [_], _ => rfl⟩
  have G_is_rest : Fg P w K mg base CX0 8 _ fd_is_rest ["data", "value"] (spRest K) := ok_is_rest T F_is_rest C_sealed_6 C__is_page_4
  have C_is_rest_8 : Cal P w K mg base CX0 8 "is_rest" ["data", "value"] (spRest K) := ⟨_, fd_is_rest, G_is_rest.le (by omega), g_is_rest, F_is_rest.kp, F_is_rest.bindsN fun _ _ _ _ _ _ us hl => match us, hl with | [_, _], _ => rfl⟩
  have CK_is_rest_0_value_data_8 : CalK P w K mg base CX0 8 "is_rest" ["data", "value"] 0 ["value", "data"] g21 g21V (spRest K) := ⟨_, fd_is_rest, G_is_rest.le (by omega), g_is_rest, F_is_rest.kp, kb_of F_is_rest (fun _ r => .cons (vals_getD r 1) (.cons (vals_getD r 0) (.nil))) fun _ _ _ _ _ _ us ws l1 l2 => match us, ws, l1, l2 with | [], [_, _], _, _ => rfl⟩
  have G__law_rest_right : Fg P w K mg base CX0 9 _ fd__law_rest_right ["_law_box_here", "_law_data_here", "_law_page_here"] (spRR K) := ok_lrr T F__law_rest_right C__law_is_rest_3 C__law_handed_2 C_is_rest_8 CK_is_rest_0_value_data_8
  have C__law_rest_right_9 : Cal P w K mg base CX0 9 "_law_rest_right" ["_law_box_here", "_law_data_here", "_law_page_here"] (spRR K) := ⟨_, fd__law_rest_right, G__law_rest_right.le (by omega), g__law_rest_right, F__law_rest_right.kp, F__law_rest_right.bindsN fun _ _ _ _ _ _ us hl => match us, hl with | [_, _, _], _ => rfl⟩
  have G_surplus : Fg P w K mg base CX0 7 _ fd_surplus ["octets"] (spSurplus K) := ok_surplus T F_surplus C__is_page_4 C_zero_bits_1
  have C_surplus_7 : Cal P w K mg base CX0 7 "surplus" ["octets"] (spSurplus K) := ⟨_, fd_surplus, G_surplus.le (by omega), g_surplus, F_surplus.kp, F_surplus.bindsN fun _ _ _ _ _ _ us hl => match us, hl with | [_], _ => rfl⟩
  have C_surplus_8 : Cal P w K mg base CX0 8 "surplus" ["octets"] (spSurplus K) := ⟨_, fd_surplus, G_surplus.le (by omega), g_surplus, F_surplus.kp, F_surplus.bindsN fun _ _ _ _ _ _ us hl => match us, hl with | [_], _ => rfl⟩
  have G_data_told_by : Fg P w K mg base CX0 4 _ fd_data_told_by ["page"] (spDTB K) := ok_data_told_by T F_data_told_by C_zero_bits_1
  have C_data_told_by_4 : Cal P w K mg base CX0 4 "data_told_by" ["page"] (spDTB K) := ⟨_, fd_data_told_by, G_data_told_by.le (by omega), g_data_told_by, F_data_told_by.kp, F_data_told_by.bindsN fun _ _ _ _ _ _ us hl => match us, hl with | [_], _ => rfl⟩
  have G_data_of : Fg P w K mg base CX0 8 _ fd_data_of ["octets"] (spDataOf K) := ok_data_of T F_data_of C__is_page_4 C_data_told_by_4
  have C_data_of_8 : Cal P w K mg base CX0 8 "data_of" ["octets"] (spDataOf K) := ⟨_, fd_data_of, G_data_of.le (by omega), g_data_of, F_data_of.kp, F_data_of.bindsN fun _ _ _ _ _ _ us hl => match us, hl with | [_], _ => rfl⟩
  have G_is_whole : Fg P w K mg base CX0 8 _ fd_is_whole ["value"] (spWhole K) := ok_is_whole T F_is_whole C__is_page_4 C_surplus_7
  have C_is_whole_8 : Cal P w K mg base CX0 8 "is_whole" ["value"] (spWhole K) := ⟨_, fd_is_whole, G_is_whole.le (by omega), g_is_whole, F_is_whole.kp, F_is_whole.bindsN fun _ _ _ _ _ _ us hl => match us, hl with | [_], _ => rfl⟩
  have G_is_clean : Fg P w K mg base CX0 8 _ fd_is_clean ["value"] (spClean K) := ok_is_clean T F_is_clean C__is_page_4
  have C_is_clean_8 : Cal P w K mg base CX0 8 "is_clean" ["value"] (spClean K) := ⟨_, fd_is_clean, G_is_clean.le (by omega), g_is_clean, F_is_clean.kp, F_is_clean.bindsN fun _ _ _ _ _ _ us hl => match us, hl with | [_], _ => rfl⟩
  have G_is_torn : Fg P w K mg base CX0 8 _ fd_is_torn ["value"] (spTorn K) := ok_is_torn T F_is_torn C__is_page_4 C_surplus_7
  have C_is_torn_8 : Cal P w K mg base CX0 8 "is_torn" ["value"] (spTorn K) := ⟨_, fd_is_torn, G_is_torn.le (by omega), g_is_torn, F_is_torn.kp, F_is_torn.bindsN fun _ _ _ _ _ _ us hl => match us, hl with | [_], _ => rfl⟩
  have G__law_kind_right : Fg P w K mg base CX0 9 _ fd__law_kind_right ["_law_data_here", "_law_page_here"] (spKR K) := ok_lkr T F__law_kind_right C__law_page_2 C__law_zeros_1 C_surplus_8 C_data_of_8 C_is_whole_8 C_is_clean_8 C_is_torn_8
  have C__law_kind_right_9 : Cal P w K mg base CX0 9 "_law_kind_right" ["_law_data_here", "_law_page_here"] (spKR K) := ⟨_, fd__law_kind_right, G__law_kind_right.le (by omega), g__law_kind_right, F__law_kind_right.kp, F__law_kind_right.bindsN fun _ _ _ _ _ _ us hl => match us, hl with | [_, _], _ => rfl⟩
  have G__law_spoilt : Fg P w K mg base CX0 2 _ fd__law_spoilt ["_law_box_here", "_law_whole", "_law_page_here"] (spSp K) := ok_spoilt T F__law_spoilt C__law_take_1 C__law_one_bit_1 C__law_moved_1
  have C__law_spoilt_2 : Cal P w K mg base CX0 2 "_law_spoilt" ["_law_box_here", "_law_whole", "_law_page_here"] (spSp K) := ⟨_, fd__law_spoilt, G__law_spoilt.le (by omega), g__law_spoilt, F__law_spoilt.kp, F__law_spoilt.bindsN fun _ _ _ _ _ _ us hl => match us, hl with | [_, _, _], _ => rfl⟩
  have G__law_rests_right : Fg P w K mg base CX0 10 _ fd__law_rests_right ["_law_box_here", "_law_data_here", "_law_other_here"] spRs := ok_lrests T F__law_rests_right C__law_page_2 C__law_moved_1 C__law_mask_3 C__law_rest_right_9 C__law_kind_right_9 C__law_spoilt_2
  have C__law_rests_right_10 : Cal P w K mg base CX0 10 "_law_rests_right" ["_law_box_here", "_law_data_here", "_law_other_here"] spRs := ⟨_, fd__law_rests_right, G__law_rests_right.le (by omega), g__law_rests_right, F__law_rests_right.kp, F__law_rests_right.bindsN fun _ _ _ _ _ _ us hl => match us, hl with | [_, _, _], _ => rfl⟩
  have G__law_unlike_right : Fg P w K mg base CX0 10 _ fd__law_unlike_right ["_law_box_here", "_law_data_here", "_law_other_here"] spUR := ok_lunlike T F__law_unlike_right C__law_page_2 C__law_drawn_2 C__law_rest_right_9 C_is_rest_8 C_sealed_8
  have C__law_unlike_right_10 : Cal P w K mg base CX0 10 "_law_unlike_right" ["_law_box_here", "_law_data_here", "_law_other_here"] spUR := ⟨_, fd__law_unlike_right, G__law_unlike_right.le (by omega), g__law_unlike_right, F__law_unlike_right.kp, F__law_unlike_right.bindsN fun _ _ _ _ _ _ us hl => match us, hl with | [_, _, _], _ => rfl⟩
  have G__law_steps_right : Fg P w K mg base CX0 9 _ fd__law_steps_right ["_law_box_here", "_law_page_here", "_law_aim"] spSt := ok_lsteps T F__law_steps_right C__law_moved_1 C__law_mask_3 C__law_zeros_1 C__law_handed_2 C_surplus_8
  have C__law_steps_right_9 : Cal P w K mg base CX0 9 "_law_steps_right" ["_law_box_here", "_law_page_here", "_law_aim"] spSt := ⟨_, fd__law_steps_right, G__law_steps_right.le (by omega), g__law_steps_right, F__law_steps_right.kp, F__law_steps_right.bindsN fun _ _ _ _ _ _ us hl => match us, hl with | [_, _, _], _ => rfl⟩
  exact ok_law T F_law C__law_box_1 C__law_cell_1 C__law_take_1 C__law_page_2 C__law_drawn_2 C__law_data_3 C__law_other_4 C__law_rests_right_10 C__law_unlike_right_10 C__law_steps_right_9
end K09
open PySem PySem.W PySem.Calls PyProof.Rows
theorem PySem.Challenge.cw_onewaybits_k09_rests_holds : PySem.Challenge.rw_onewaybits_k09_rests.Holds := by
  w_on; o_law
  refine HandSHeadRun.head_any (r := OpenLaw.row PySem.Challenge.rw_onewaybits_k09_rests) (q := view (OpenLaw.row PySem.Challenge.rw_onewaybits_k09_rests).prog [44]) (H := K09.hk) (ob := K09.ob) (M := 20000) (loose := K09.lns) (d := HandSHeadRun.topDef (OpenLaw.row PySem.Challenge.rw_onewaybits_k09_rests).prog 44) (kwd := []) K09.ob_eq
    (by kernel_rfl) (fun s => by kernel_rfl) K09.run (by kernel_rfl) (by kernel_rfl) (by kernel_rfl) (by rfl) (by first | assumption | decide +kernel) (by decide +kernel) ⟨rfl, rfl, rfl, rfl, rfl, by decide +kernel⟩ ?hw ?hc
  case hw => w_witness2
  case hc =>
    refine VB.law_walk (l := PySem.Challenge.rw_onewaybits_k09_rests) (n := 63) (k := 11) (x := "_law_script") (CX := L2.CX0) rfl (by decide) (by kernel_rfl) ⟨⟨rfl, by decide, by decide⟩, rfl⟩ ?F (fun _ _ _ _ z => z)
    intro w mg fa h Y G hmg0
    obtain ⟨K, KX, c⟩ := Y
    have hmg : mg ("law" : PySem.Str) = some (.ref fa) := by
      have e : (HandSHeadRun.topDef (OpenLaw.row PySem.Challenge.rw_onewaybits_k09_rests).prog 44).name = ("law" : PySem.Str) := by kernel_rfl
      rw [← e]
      exact hmg0
    obtain ⟨fd, hb, hF⟩ := K09.facts (P := (PySem.Challenge.rw_onewaybits_k09_rests).prog) (w := w) KX G hmg c
    exact ⟨K, fd, (K09.spLaw K), KX, hb, fun H a ns hl _ hS => ⟨a, ns, rfl, hS, by omega, fun _ _ => rfl⟩, hF⟩
