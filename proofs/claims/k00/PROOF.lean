import PyProof.Rows.All
import Wide.All
import OpenK.AllK
import Wide.FinOn
import HandS.ForMost
import HandS.ForExc
import HandS.IsInst
import HandS.Wide
import HandS.Evl
import PyProof.ReprRoads
import PySem.Challenge.RW_grownquorums_k00_integers_and_letters
set_option Elab.async false
set_option linter.all false
set_option maxRecDepth 100000
set_option maxHeartbeats 2000000
/-! Own base: defs that want the guards known (repr of containers), repr, powers of great ints. -/
namespace Gq
open PySem PySem.Spec PyProof.Rows L2

/-- a def's promise where no repr is under way around its call -/
structure FnG (P : Program) (w : World) (K : PySem.W.Frag) (mg : Str → Option Value) (base : Heap)
    (CX : CXT) (k : Nat) (f : Addr) (fd : FuncData) (ps : List Str) (sp : Sp) : Prop where
  lenG : ∀ vs H Q E, sp vs H Q E → vs.length = ps.length
  runG : ∀ (A : Around) (outer : List Env) (s : Shared) (H : Hp) (args : Args) (us : List Value)
    (vs : List V) (Q : VK) (E : XK), A.guards = some [] → Room k A → Env0 P w K mg base A outer s H →
    BindsTo s fd args (ps.zip us) → Vals vs us → sp vs H Q E →
    codeAny (model P w) A (.call (.ref f) args) (CR CX outer P w H s Q E) s

theorem FnG.of {P : Program} {w : World} {K : PySem.W.Frag} {mg : Str → Option Value} {base : Heap}
    {CX : CXT} {k : Nat} {f : Addr} {fd : FuncData} {ps : List Str} {sp : Sp}
    (F : FnOk P w K mg base CX k f fd ps sp) : FnG P w K mg base CX k f fd ps sp :=
  ⟨F.len, fun A outer s H args us vs Q E _ => F.run A outer s H args us vs Q E⟩

/-- a def of the text, by its body, the guards known -/
theorem okG {CX : CXT} {P : Program} {w : World} {K : PySem.W.Frag} {mg : Str → Option Value} {base : Heap}
    {x qual : Str} {st : Stmt} {f : Addr} {fd : FuncData} {N ps : List Str} {k : Nat} {sp : Sp}
    (F : Fun K x qual st f fd) (S : FnScope N ps (defScope st))
    (len : ∀ vs H Q E, sp vs H Q E → vs.length = ps.length)
    (body : ∀ (cdv : Value) (A : Around) (outer : List Env) (s : Shared) (H : Hp) (vs : List V) (Q : VK) (E : XK),
      A.guards = some [] → Room k (A.deeper (envOfC qual (defScope st) s.heap.objs.size f cdv)) → sp vs H Q E →
      ∃ t, PSs (cxOf CX P w K mg base N qual (defScope st) f cdv A outer s H E) (defBody st) t ∧
        t { nx := fun _ H' => Q .non H', rt := Q } (start N vs) H) :
    FnG P w K mg base CX (k + 1) f fd ps sp := by
  obtain ⟨oc, od, kV, doc, pm, an, cdv, ct, osl, rfl, lk, hcd⟩ := F.ex
  refine ⟨len, ?_⟩
  intro A outer s H args us vs Q E hg hr e0 hb r hsp
  have l1 := len _ _ _ _ hsp
  have inK : K.In s.heap := e0.mod.kin.keeps (fun b o e => (e0.bs b o e).1)
  have nl : s.heap.NoLimit := e0.mod.nolimit.keeps (fun b o e => (e0.bs b o e).1)
  refine codeAny_call_function hr.depth (inK _ _ lk) rfl S.co S.gen rfl (PySem.W.codeRec_of inK hcd) (hb _ _ _ _ ?_)
  refine wpAny_newFunctionEnv_cells S.kind (fun y hy => ?_) (fun env he s1 x => ?_)
  · obtain ⟨n, v⟩ := y
    have z := S.par n (List.of_mem_zip hy).1
    cases z with
    | inl q => exact Or.inl q
    | inr q => exact Or.inr ⟨q, PySem.W.cellsFrom_some _ _ _ (Or.inl q)⟩
  · subst he
    refine ⟨nl.keeps x.toInCall.keep, codeAny_func ?_⟩
    obtain ⟨t, ht, hq⟩ := body cdv A outer s H vs Q E hg (hr.deeper _) hsp
    have I : Inv (cxOf CX P w K mg base N qual (defScope st) f cdv A outer s H E) [] (start N vs) H s1 :=
      inv_start S hr.hd e0 l1 r x
    refine wpAny_mono (ht.run [] s1 (start N vs) H _ I hq) ?_ (fun e s' hs => hs)
    intro fl s' hs
    cases fl with
    | ret u =>
      obtain ⟨v, σ', H', J, rv, q⟩ := hs
      exact ⟨v, H', J.os, J.bare, J.base, J.hok, rv, q⟩
    | next =>
      obtain ⟨σ', H', J, q⟩ := hs
      exact ⟨V.non, H', J.os, J.bare, J.base, J.hok, rfl, q⟩
    | brk => obtain ⟨_, _, _, q⟩ := hs; exact q.elim
    | cont => obtain ⟨_, _, _, q⟩ := hs; exact q.elim

section
variable {X : Cx}
theorem runG_fn {CX : CXT} {k : Nat} {f : Addr} {fd : FuncData} {ps : List Str} {sp : Sp} {ds : List Value}
    {dvs : List V} {E : XK} {pins : List (Addr × Obj)} {σ : L2.St} {H : Hp} {s : Shared} {Q : VK} {us : List Value} {vs : List V}
    (F : FnG X.prog X.w X.K X.mg X.base CX k f fd ps sp) (hg : X.A.guards = some []) (hr : Room k X.A)
    (hb : Binds X.K fd ps ds) (hd : Vals dvs ds) (hx : Passes CX X E)
    (I : Inv X pins σ H s) (r : Vals vs us) (h : sp (vs ++ dvs) H Q E) :
    wpAny (model X.prog X.w) X.A (call (.ref f) us) (EP X pins σ Q) X.xe s := by
  have r2 : Vals (vs ++ dvs) (us ++ ds) := r.append hd
  have l2 : (us ++ ds).length = ps.length := r2.length.symm.trans (F.lenG _ _ _ _ h)
  have z := F.runG X.A X.stack s H ⟨us, []⟩ (us ++ ds) (vs ++ dvs) Q E hg hr I.env0 (hb s us I.kIn l2) r2 h
  refine wpAny_call (codeAny_mono z ?_)
  intro r s' hq
  match r, hq with
  | .error e, hq => exact hx pins σ H s e s' I hq
  | .ok (.ret u), hq => exact I.after hq
  | .ok .next, hq => exact hq.elim
  | .ok .brk, hq => exact hq.elim
  | .ok .cont, hq => exact hq.elim

theorem pe_callG {CX : CXT} {k : Nat} {f : Addr} {fd : FuncData} {ps : List Str} {sp : Sp} {ds : List Value}
    {dvs : List V} {E : XK} {x : Str} {p pos : Pos} {e : Expr} {es : List Expr} {t : TA}
    (F : FnG X.prog X.w X.K X.mg X.base CX k f fd ps sp) (gd : X.A.guards = some []) (hr : Room k X.A) (hg : Gl X x)
    (hm : X.mg x = some (.ref f)) (hk : PySem.W.keepIn X.K (.ref f) = true)
    (hb : Binds X.K fd ps ds) (hd : Vals dvs ds) (hx : Passes CX X E) (ha : PA X (e :: es) t)
    (hdb : (x == ("__debug__" : Str)) = false := by decide)
    (he : starEach (e :: es) X.env = (false, eval e X.env) :: starEach es X.env := by rfl)
    (hpl : (backTo pos (starEach es X.env)).any (·.1) = false := by rfl) :
    PE X (.Call (.Name x p) (e :: es) [] pos) (tCall sp dvs E t) := by
  constructor
  intro pins s σ H Q I h
  apply wpAny_Call_Name_kw
  refine ld_glob I hg hm ?_ hdb
  refine PySem.W.callWith_K (h₀ := X.base) I.ok.mod.kin hk ?_ he hpl
  refine thn (ha.run pos pins s σ H _ I h) ?_
  intro us s1 q0
  obtain ⟨vs, H1, I1, r, q⟩ := q0
  exact ⟨I1.kIn, runG_fn F gd hr hb hd hx I1 r q⟩

/-- repr of lists and tuples, nested -/
def rReprD (K : PySem.W.Frag) : List V → Hp → VK → Prop := fun xs H Q =>
  ∃ (a : Addr) (d : PyData), xs = [.ref a] ∧ Dp K H (.ref a) d ∧ d.showable = true ∧ d.hasDict = false ∧ d.depth ≤ 60 ∧
    d.shown.length ≤ sizeLine ∧ Q (.str d.shown) H
theorem call_reprD (hg : X.A.guards = some []) (hu : X.A.units + 64 < cLine) : CallR X (.builtin "repr") (rReprD X.K) := by
  intro pins s σ H xs us Q I r h
  obtain ⟨a, d, rfl, hd, hs, hn, hz, hl, q⟩ := h
  obtain ⟨u, rfl, hu1⟩ := vals1 r
  obtain ⟨as, r1⟩ := Dp.reads I d (.ref a) u hd hu1
  cases (show u = Value.ref a from hu1)
  exact repr_of_reads' r1 hs (PyData.noDict_hsm hn) hg (by omega) (fun _ _ e => e)
    (fun h' u tk hk => ⟨.str _, H, I.kept hk, ⟨_, rfl⟩, q⟩) hl

/-- a ** n of a great base -/
def CPowW (i j : Int) : Prop := 0 ≤ j ∧ (Builtin.Int.intBits i : Int) * j ≤ 2 ^ 27
theorem op_powW : OpR X (binaryOp .Pow) (rI CPowW fun i j => .int (i ^ j.toNat)) := opI fun _ _ _ _ _ _ _ hc q => pow_int hc.1 hc.2 q
end

/-- the law's own call, its def with the guards known -/
theorem lawG {P : Program} {w : World} {K : PySem.W.Frag} {mg mb : Str → Option Value} {CX : CXT} {k : Nat} {fa a : Addr}
    {fd : FuncData} {x : Str} {sp : Sp} {s₁ : Shared} {vs : List Value} {ns : List Int}
    (KX : K.In s₁.heap) (hns : s₁.heap.Ns mainGlobals mg) (hb : s₁.heap.Ns builtinsNs mb)
    (hbb : ∀ x : Str, x ≠ "__name__" → mb x = bootBuiltins x) (hlim : s₁.heap.NoLimit) (hg : s₁.gens = #[])
    (ha : s₁.heap.get? a = some { cls := .type "list", data := .seq vs.toArray }) (hi : IntsAre vs ns)
    (hl : ns.length ≤ sizeLine) (hr : Room k callerA)
    (F : ∀ base : Heap, K.In base → base.Ns mainGlobals mg → FnG P w K mg base CX k fa fd [x] sp)
    (hbind : ∀ (s : Shared) (u : Value), BindsTo s fd ⟨[u], []⟩ [(x, u)])
    (hsp : ∀ H : Hp, Only H → SqL K H a (ns.map V.int) → sp [.ref a] H (fun v _ => v = .bl true) fun _ _ _ => False)
    (hCX : ∀ H e s', CX [] H s₁ (fun _ _ _ => False) e s' → False) :
    codeAny (model P w) callerA (.call (.ref fa) ⟨[.ref a], []⟩)
      (fun r s' => r = .ok (.ret (.bool true)) ∧ OldK s₁.heap s'.heap ∧ s'.os = s₁.os ∧ AllBare s'.gens) s₁ := by
  let o0 : Obj := { cls := .type "list", data := .seq vs.toArray }
  have rv := vals_ints hi
  have lv := hi.length
  have run : ∀ H : Hp, Only H → SqL K H a (ns.map V.int) → HOk P w H s₁.heap → (∀ b u, H b = some u → b = a ∧ K.lookup a = none) →
      codeAny (model P w) callerA (.call (.ref fa) ⟨[.ref a], []⟩)
        (fun r s' => r = .ok (.ret (.bool true)) ∧ OldK s₁.heap s'.heap ∧ s'.os = s₁.os ∧ AllBare s'.gens) s₁ := by
    intro H hO hS hok hA
    have dictFree : ∀ {b : Addr} {o : Obj} {es : Array DictEntry} {ep : Nat},
        s₁.heap.get? b = some o → o.data = .dict es ep → H b = none := by
      intro b o es ep e d
      rcases hb1 : H b with _ | u
      · rfl
      · obtain ⟨rfl, _⟩ := hA b u hb1
        rw [ha] at e
        cases e
        cases d
    have ns1 : ∀ {b : Addr} {m : Str → Option Value}, s₁.heap.Ns b m → (hidT s₁.heap H).Ns b m := by
      intro b m z
      obtain ⟨o, es, ep, e, d, r⟩ := z
      exact ⟨o, es, ep, hidT_get e (dictFree e d), d, r⟩
    have kin : K.In (hidT s₁.heap H) := by
      intro b o e
      refine hidT_get (KX b o e) ?_
      rcases hb1 : H b with _ | u
      · rfl
      · obtain ⟨rfl, n1⟩ := hA b u hb1
        rw [n1] at e
        cases e
    obtain ⟨mc, c1, c2⟩ := hlim
    have md : Mod K mg (hidT s₁.heap H) := ⟨kin, ns1 hns, ⟨mb, ns1 hb, hbb⟩, ⟨mc, ns1 c1, c2⟩⟩
    have env : Env0 P w K mg (hidT s₁.heap H) callerA [] s₁ H :=
      ⟨rfl, md, fun b o e => of_hidT e, Nat.le_of_eq (hidT_size _ _), trivial, fun b hb => absurd (show b ∈ ([] : List Addr) from hb) List.not_mem_nil, hok, AllBare.of_eq hg⟩
    have go := (F _ kin (ns1 hns)).runG callerA [] s₁ H ⟨[.ref a], []⟩ [.ref a] [.ref a] _ _ rfl hr env
      (hbind s₁ (.ref a)) (.cons rfl .nil) (hsp H hO hS)
    refine codeAny_mono go ?_
    intro r s' h
    match r, h with
    | .error e, h => exact (hCX H e s' h).elim
    | .ok .next, h => exact h.elim
    | .ok .brk, h => exact h.elim
    | .ok .cont, h => exact h.elim
    | .ok (.ret u), h =>
      obtain ⟨v, H', os, bare, un, hok', r', q⟩ := h
      cases (show v = .bl true from q)
      cases (show u = Value.bool true from r')
      refine ⟨rfl, OldK.of_keep ?_, os, bare⟩
      intro b o e
      rcases hb1 : H b with _ | u
      · exact un.keep b o e hb1 (fun z => absurd (show b ∈ ([] : List Addr) from z) List.not_mem_nil) List.not_mem_nil
      · rcases hO b with z | ⟨ob, xs, z⟩
        · rw [hb1] at z
          cases z
        · obtain ⟨e1, _⟩ := hok b _ z
          obtain ⟨e2, _⟩ := hok' b _ (un.frzs b ob _ z)
          rw [e] at e1
          cases e1
          exact e2
  rcases hk : K.lookup a with _ | o
  · have at1 : ∀ b u, (fun b => if b = a then some (HO.frz o0 (.lst (ns.map V.int))) else none : Hp) b = some u → b = a ∧ u = HO.frz o0 (.lst (ns.map V.int)) := by
      intro b u z
      by_cases hb1 : b = a
      · refine ⟨hb1, ?_⟩
        have z1 := (if_pos hb1).symm.trans z
        cases z1
        rfl
      · have z1 := (if_neg hb1).symm.trans z
        cases z1
    refine run (fun b => if b = a then some (.frz o0 (.lst (ns.map V.int))) else none) ?_ (.inl (.inr ⟨o0, if_pos rfl⟩)) ?_ (fun b u z => ⟨(at1 b u z).1, hk⟩)
    · intro b
      by_cases hb1 : b = a
      · exact .inr ⟨_, _, if_pos hb1⟩
      · exact .inl (if_neg hb1)
    · intro b u z
      obtain ⟨rfl, rfl⟩ := at1 b u z
      exact ⟨ha, by rw [List.length_map]; exact hl, vs, _, rv, ha⟩
  · have e := KX a o hk
    rw [ha] at e
    cases e
    refine run (fun _ => none) (fun _ => .inl rfl) (.inr ⟨_, vs.toArray, _, hk, rfl, rfl, rfl, ?_, ?_⟩) (fun b u z => ?_) (fun b u z => ?_)
    · rw [List.size_toArray, lv]
      exact hl
    · simpa using rv
    · cases (show (none : Option HO) = some u from z)
    · cases (show (none : Option HO) = some u from z)

theorem walkG {l : PySem.W.OpenLaw} {n k : Nat} {q : Program} {loose : List Str} {XP : (Str → Option Value) → Heap → Prop}
    {YP : World → Heap → Prop} {d : DefRec} {K : Params → PySem.W.Frag} {CX : World → CXT} {sp : World → Sp} {x : Str}
    (hn : l.most = some n) (hn2 : n ≤ sizeLine) (hdf : d.params.defaults = []) (hr : Room k callerA)
    (hY : ∀ (w : World) (h : Heap), YP w h → (K w.params).In h)
    (F : ∀ (w : World) (mg : Str → Option Value) (fa : Addr) (h : Heap), (K w.params).In h → h.Ns mainGlobals mg →
      mg d.name = some (.ref fa) → ∃ fd : FuncData, (∀ (s : Shared) (u : Value), BindsTo s fd ⟨[u], []⟩ [(x, u)]) ∧
        ∀ base : Heap, (K w.params).In base → base.Ns mainGlobals mg → FnG l.prog w (K w.params) mg base (CX w) k fa fd [x] (sp w))
    (hsp : ∀ (w : World) (H : Hp) (a : Addr) (ns : List Int), ns.length ≤ n → Only H → SqL (K w.params) H a (ns.map V.int) →
      sp w [.ref a] H (fun v _ => v = .bl true) fun _ _ _ => False)
    (hCX : ∀ (w : World) (H : Hp) (s : Shared) (e : Value) (s' : Shared), CX w [] H s (fun _ _ _ => False) e s' → False) :
    PySem.W.WalkO q loose XP YP l.row.toRowW d [] (fun f vs => PySem.call f vs) := by
  apply Att.attach_call hn hdf
  intro w s₀ s₁ mg mb fa o pm cd doc a vs ns G Y ho hd hcd hmg hobj hints hlen hg
  have KX := hY w _ Y
  obtain ⟨fd, hb, hF⟩ := F w mg fa _ KX G.T.g hmg
  exact lawG KX G.T.g G.T.b G.T.builtins G.T.nolimit hg hobj hints (Nat.le_trans hlen hn2) hr hF hb
    (fun H hO hS => hsp w H a ns hlen hO hS) (fun H e s' => hCX w H s₁ e s')
end Gq
set_option Elab.async false
set_option linter.all false
set_option maxRecDepth 100000
set_option maxHeartbeats 2000000
/-! Own base 2: kinds of values, the law's dice. -/
namespace Gq
open PySem PySem.Spec PyProof.Rows L2

/-- the same where no exception leaves it -/
theorem okG0 {P : Program} {w : World} {K : PySem.W.Frag} {mg : Str → Option Value} {base : Heap}
    {x qual : Str} {st : Stmt} {f : Addr} {fd : FuncData} {N ps : List Str} {k : Nat} {sp : Sp}
    (F : Fun K x qual st f fd) (S : FnScope N ps (defScope st))
    (len : ∀ vs H Q E, sp vs H Q E → vs.length = ps.length)
    (body : ∀ (cdv : Value) (A : Around) (outer : List Env) (s : Shared) (H : Hp) (vs : List V) (Q : VK) (E : XK),
      A.guards = some [] → Room k (A.deeper (envOfC qual (defScope st) s.heap.objs.size f cdv)) → sp vs H Q E →
      ∃ t, PSs (cxOf CX0 P w K mg base N qual (defScope st) f cdv A outer s H E).nox (defBody st) t ∧
        t { nx := fun _ H' => Q .non H', rt := Q } (start N vs) H) :
    FnG P w K mg base CX0 (k + 1) f fd ps sp :=
  okG F S len fun cdv A outer s H vs Q E hg hr h => by
    obtain ⟨t, h1, h2⟩ := body cdv A outer s H vs Q E hg hr h
    exact ⟨t, h1.nox, h2⟩
/-- a def of the text, found by its name, with its promise -/
structure Cl (P : Program) (w : World) (K : PySem.W.Frag) (mg : Str → Option Value) (base : Heap) (k : Nat) (x : Str) (sp : Sp) : Prop where
  here : ∃ (f : Addr) (fd : FuncData) (ps : List Str), FnOk P w K mg base CX0 k f fd ps sp ∧ mg x = some (.ref f) ∧
    PySem.W.keepIn K (.ref f) = true ∧ Binds K fd ps []
section
variable {X : Cx} {k j : Nat} {x : Str} {sp : Sp} {p pos : Pos} {e : Expr} {es : List Expr} {t : TA}
theorem pe_c (c : Cl X.prog X.w X.K X.mg X.base k x sp) (hr : Room j X.A) (hk : k ≤ j) (hg : Gl X x) (ha : PA X (e :: es) t)
    (hdb : (x == ("__debug__" : Str)) = false := by decide)
    (he : starEach (e :: es) X.env = (false, eval e X.env) :: starEach es X.env := by rfl)
    (hpl : (backTo pos (starEach es X.env)).any (·.1) = false := by rfl) : PE X (.Call (.Name x p) (e :: es) [] pos) (tCall sp [] E0 t) := by
  obtain ⟨f, fd, ps, F, hm, kp, b⟩ := c.here
  exact pe_call F (hr.mono hk) hg hm kp b .nil pass0 ha hdb he hpl
theorem pe_c0 (c : Cl X.prog X.w X.K X.mg X.base k x sp) (hr : Room j X.A)
    (hk : k ≤ j) (hg : Gl X x) (hdb : (x == ("__debug__" : Str)) = false := by decide) : PE X (.Call (.Name x p) [] [] pos) (tCall sp [] E0 tNil) := by
  obtain ⟨f, fd, ps, F, hm, kp, b⟩ := c.here
  exact pe_call0 F (hr.mono hk) hg hm kp b .nil pass0 hdb
end

section
variable {X : Cx} {x : Str} {p : Pos}
theorem pe_ty {T : String} (hg : Gl X x) (hm : X.mg x = none) (hv : bootBuiltins x = some (.type T)) (hn : x ≠ "__name__" := by decide) (hd : (x == ("__debug__" : Str)) = false := by decide) : PE X (.Name x p) (tC (.ty T)) :=
  pe_bltn (v := .ty T) hg hm hv rfl hn hd
theorem pe_gi {i : Int} (hg : Gl X x) (hm : ∃ t, X.mg x = some (.int i t)) (hd : (x == ("__debug__" : Str)) = false := by decide) : PE X (.Name x p) (tC (.int i)) := by
  obtain ⟨t, h⟩ := hm
  exact pe_glob (v := .int i) hg h ⟨t, rfl⟩ hd
end
/-- a value and its class, of the kinds that the laws draw -/
inductive Vk (H : Hp) : V → String → Prop
  | non : Vk H .non "NoneType"
  | bl (b : Bool) : Vk H (.bl b) "bool"
  | int (i : Int) : Vk H (.int i) "int"
  | str (z : Str) : Vk H (.str z) "str"
  | lst {a : Addr} {xs : List V} (h : H a = some (.lst xs)) : Vk H (.ref a) "list"
  | tup {a : Addr} {xs : List V} (h : H a = some (.tup xs)) : Vk H (.ref a) "tuple"
  | dK {a : Addr} {kvs : List (Key × V)} (h : H a = some (.dK kvs)) : Vk H (.ref a) "dict"
theorem Vk.ty {K : PySem.W.Frag} {H : Hp} {x : V} {n : String} (h : Vk H x n) : TyX K H x (.type n) := by
  cases h with
  | non => exact .base .non
  | bl b => exact .base (.bl b)
  | int i => exact .base (.int i)
  | str z => exact .base (.str z)
  | lst h => exact .base (.lst h)
  | tup h => exact .base (.tup h)
  | dK h => exact .base (.dK h)
theorem Vk.same {H H' : Hp} {x : V} {n : String} (h : Vk H x n) (s : Same H H') : Vk H' x n := by
  cases h with
  | non => exact .non
  | bl b => exact .bl b
  | int i => exact .int i
  | str z => exact .str z
  | lst h => exact .lst (s _ _ h)
  | tup h => exact .tup (s _ _ h)
  | dK h => exact .dK (s _ _ h)
/-- isinstance(x, T), x of a known class -/
theorem isi_at {K : PySem.W.Frag} {H : Hp} {x : V} {n T : String} {b : Bool} {Q : VK} (h : Vk H x n) (e : kitB n T = some b) (q : Q (.bl b) H) :
    rIsi K [x, .ty T] H Q := ⟨x, .ty T, _, _, b, rfl, .ty T, h.ty, kit_ty e, q⟩

theorem same_upd {H : Hp} {p : Addr} {o : HO} (h : H p = none) : Same H (upd H p o) := fun b x e => by
  rw [upd_ne (ne_of_none e h)]
  exact e

/-! ### integers -/
def lim : Int := (10 ^ 50) ^ 8
def isI : V → Bool
  | .int i => decide (-lim < i) && decide (i < lim)
  | _ => false
def spIsI : Sp := fun vs H Q _ => ∃ x n, vs = [x] ∧ Vk H x n ∧ Q (.bl (isI x)) H

/-! ### dice -/
def Dice (H : Hp) (p : Addr) : Prop := ∃ a b c : Int, H p = some (.lst [.int a, .int b, .int c])
/-- all but the dice at p as it was, the dice still dice -/
def Roll (p : Addr) (H H' : Hp) : Prop := Dice H' p ∧ ∀ q o, q ≠ p → H q = some o → H' q = some o
def spRoll : Sp := fun vs H Q _ => ∃ p n, vs = [.ref p, .int n] ∧ Dice H p ∧ 0 < n ∧ n.natAbs < 2 ^ 8000 ∧
  ∀ r H', 0 ≤ r → r < n → Roll p H H' → Q (.int r) H'
theorem Roll.refl {p : Addr} {H : Hp} (h : Dice H p) : Roll p H H := ⟨h, fun _ _ _ e => e⟩
theorem Roll.trans {p : Addr} {H H1 H2 : Hp} (a : Roll p H H1) (b : Roll p H1 H2) : Roll p H H2 := ⟨b.1, fun q o n e => b.2 q o n (a.2 q o n e)⟩
theorem Roll.dice {p : Addr} {H H' : Hp} (a : Roll p H H') : Dice H' p := a.1
theorem Roll.new {p q : Addr} {H : Hp} {o : HO} (d : Dice H p) (h : H q = none) : Roll p H (upd H q o) := by
  obtain ⟨a, b, c, e⟩ := d
  exact ⟨⟨a, b, c, same_upd h _ _ e⟩, fun r u _ g => same_upd h _ _ g⟩
theorem Roll.set {p : Addr} {H : Hp} (a b c : Int) : Roll p H (upd H p (.lst [.int a, .int b, .int c])) :=
  ⟨⟨a, b, c, upd_same⟩, fun q o n e => by rw [upd_ne n]; exact e⟩
theorem Roll.same {p : Addr} {H0 H H' : Hp} (n : H0 p = none) (s : Same H0 H) (r : Roll p H H') : Same H0 H' := fun q o e => r.2 q o (ne_of_none e n) (s q o e)
theorem same_new {H0 H : Hp} {q : Addr} {o : HO} (s : Same H0 H) (h : H q = none) : Same H0 (upd H q o) := s.trans (same_upd h)
theorem same_upd2 {H : Hp} {q : Addr} {o o' : HO} (h : H q = none) : Same H (upd (upd H q o) q o') := fun b x e => by
  rw [upd_ne (ne_of_none e h), upd_ne (ne_of_none e h)]
  exact e
theorem Vk.roll {p : Addr} {H H' : Hp} {v : V} {n : String} (h : Vk H v n) (r : Roll p H H') (ne : v ≠ .ref p) : Vk H' v n := by
  cases h with
  | non => exact .non
  | bl b => exact .bl b
  | int i => exact .int i
  | str z => exact .str z
  | lst h => exact .lst (r.2 _ _ (fun z => ne (by rw [z])) h)
  | tup h => exact .tup (r.2 _ _ (fun z => ne (by rw [z])) h)
  | dK h => exact .dK (r.2 _ _ (fun z => ne (by rw [z])) h)
theorem Dice.same {p : Addr} {H H' : Hp} (d : Dice H p) (s : Same H H') : Dice H' p := by
  obtain ⟨a, b, c, e⟩ := d
  exact ⟨a, b, c, s _ _ e⟩
theorem Dice.ne {p q : Addr} {H : Hp} (d : Dice H p) (h : H q = none) : q ≠ p := by
  obtain ⟨a, b, c, e⟩ := d
  exact fun z => by
    rw [z, e] at h
    cases h
theorem Dice.lst {p : Addr} {H : Hp} (d : Dice H p) : ∃ xs, H p = some (.lst xs) := let ⟨_, _, _, e⟩ := d; ⟨_, e⟩
theorem ne_dice {p q : Addr} {H : Hp} {o : HO} (d : Dice H p) (h : H q = some o) (n : ∀ a b c : Int, o ≠ .lst [.int a, .int b, .int c]) : q ≠ p := fun e => by
  obtain ⟨a, b, c, z⟩ := d
  rw [e, z] at h
  exact n a b c (Option.some.inj h).symm
theorem pick_le {r : Int} {n : Nat} (h0 : 0 ≤ r) (h1 : r < (n : Int)) : ∃ j : Nat, r = (j : Int) ∧ j < n := ⟨r.toNat, by omega, by omega⟩
def spDice (K : PySem.W.Frag) : Sp := fun vs H Q _ => ∃ (a : Addr) (ns : List Int) (i : Int), vs = [.ref a, .int i] ∧ SqL K H a (ns.map V.int) ∧ 0 ≤ i ∧
  ∀ p H', Same H H' → H p = none → Dice H' p → Q (.ref p) H'
def spPick : Sp := fun vs H Q _ => ∃ (p l : Addr) (xs : List V), vs = [.ref p, .ref l] ∧ Dice H p ∧ H l = some (.lst xs) ∧ l ≠ p ∧ 0 < xs.length ∧ xs.length ≤ 1000 ∧
  ∀ v H', v ∈ xs → Roll p H H' → Q v H'
def spLimit : Sp := fun vs H Q _ => vs = [] ∧ Q (.int lim) H
theorem at_mem {α : Type} {xs : List α} {r : Int} (h0 : 0 ≤ r) (h1 : r < (xs.length : Int)) : ∃ v, atI xs r = some v ∧ v ∈ xs := by
  obtain ⟨j, rfl, hj⟩ := pick_le h0 h1
  exact ⟨xs[j], atI_nat (List.getElem?_eq_getElem hj), List.getElem_mem hj⟩
end Gq
set_option Elab.async false
set_option linter.all false
set_option maxRecDepth 100000
set_option maxHeartbeats 2000000
namespace K00
open PySem PySem.Spec PyProof.Rows L2 Gq
def topS (i : Nat) : Stmt := PySem.Challenge.pw_grownquorums_k00_integers_and_letters.main.body.getD i (.Pass ⟨0, 0, 0, 0⟩)
abbrev sis_integer : Stmt := topS 3
abbrev Nis_integer : List Str := ["value"]
theorem scis_integer : FnScope Nis_integer ["value"] (defScope sis_integer) := ⟨rfl, rfl, rfl, by decide +kernel, rfl, by decide +kernel, by decide +kernel⟩
abbrev sis_count : Stmt := topS 4
abbrev Nis_count : List Str := ["value"]
theorem scis_count : FnScope Nis_count ["value"] (defScope sis_count) := ⟨rfl, rfl, rfl, by decide +kernel, rfl, by decide +kernel, by decide +kernel⟩
abbrev sis_letter : Stmt := topS 5
abbrev Nis_letter : List Str := ["value"]
theorem scis_letter : FnScope Nis_letter ["value"] (defScope sis_letter) := ⟨rfl, rfl, rfl, by decide +kernel, rfl, by decide +kernel, by decide +kernel⟩
abbrev s_law_dice : Stmt := topS 7
abbrev N_law_dice : List Str := ["script", "spot", "cell", "left"]
theorem sc_law_dice : FnScope N_law_dice ["script", "spot"] (defScope s_law_dice) := ⟨rfl, rfl, rfl, by decide +kernel, rfl, by decide +kernel, by decide +kernel⟩
abbrev s_law_roll : Stmt := topS 8
abbrev N_law_roll : List Str := ["dice", "total", "found", "one", "two"]
theorem sc_law_roll : FnScope N_law_roll ["dice", "total"] (defScope s_law_roll) := ⟨rfl, rfl, rfl, by decide +kernel, rfl, by decide +kernel, by decide +kernel⟩
abbrev s_law_pick : Stmt := topS 9
abbrev N_law_pick : List Str := ["dice", "items"]
theorem sc_law_pick : FnScope N_law_pick ["dice", "items"] (defScope s_law_pick) := ⟨rfl, rfl, rfl, by decide +kernel, rfl, by decide +kernel, by decide +kernel⟩
abbrev s_law_limit : Stmt := topS 10
abbrev N_law_limit : List Str := []
theorem sc_law_limit : FnScope N_law_limit [] (defScope s_law_limit) := ⟨rfl, rfl, rfl, by decide +kernel, rfl, by decide +kernel, by decide +kernel⟩
abbrev s_law_number : Stmt := topS 11
abbrev N_law_number : List Str := ["dice", "near", "number"]
theorem sc_law_number : FnScope N_law_number ["dice"] (defScope s_law_number) := ⟨rfl, rfl, rfl, by decide +kernel, rfl, by decide +kernel, by decide +kernel⟩
abbrev slaw : Stmt := topS 12
abbrev Nlaw : List Str := ["script", "signs", "spot", "dice", "turn", "number", "sign", "text", "is_short", "told", "odd"]
theorem sclaw : FnScope Nlaw ["script"] (defScope slaw) := ⟨rfl, rfl, rfl, by decide +kernel, rfl, by decide +kernel, by decide +kernel⟩
structure Bn (mg : Str → Option Value) : Prop where
  abs : mg "abs" = none
  bool : mg "bool" = none
  int : mg "int" = none
  isinstance : mg "isinstance" = none
  len : mg "len" = none
  max : mg "max" = none
  min : mg "min" = none
  range : mg "range" = none
  repr : mg "repr" = none
  str : mg "str" = none
def isC : V → Bool
  | .int i => isI (.int i) && decide (0 ≤ i)
  | _ => false
def spIsC : Sp := fun vs H Q _ => ∃ x n, vs = [x] ∧ Vk H x n ∧ Q (.bl (isC x)) H
def isL : V → Bool
  | .str z => decide (V.int z.length = V.int 1) && ((!decide (z.cps.toList < ("a" : Str).cps.toList)) && !decide (("z" : Str).cps.toList < z.cps.toList))
  | _ => false
def spIsL : Sp := fun vs H Q _ => ∃ x n, vs = [x] ∧ Vk H x n ∧ (∀ z, x = .str z → z.length ≤ 1000) ∧ Q (.bl (isL x)) H
def nearI : List Int := [0, 1, 10, 10 ^ Int.toNat 20, lim / 10, lim, lim, lim * 10 ^ Int.toNat 50]
def NumOk (n : Int) : Prop := ∃ a, a ∈ nearI ∧ ∃ r : Int, 0 ≤ r ∧ r < 5 ∧ (n = a + r - 2 ∨ n = 0 - (a + r - 2))
def absI (n : Int) : Int := if n < 0 then -n else n
theorem absI_nat (n : Int) : absI n = Int.ofNat n.natAbs := by
  unfold absI
  show _ = ((n.natAbs : Nat) : Int)
  split <;> omega
theorem len_abs (n : Int) : (PySem.Str.ofString (toString (absI n))).length = (Nat.toDigits 10 n.natAbs).length := by
  rw [absI_nat, text_ofNat]
  show (((Nat.toDigits 10 n.natAbs).map Char.toNat).toArray).size = _
  rw [List.size_toArray, List.length_map]
theorem short_is (n : Int) : decide (((PySem.Str.ofString (toString (absI n))).length : Int) ≤ 400) = isI (.int n) := by
  rw [len_abs]
  show _ = (decide (-lim < n) && decide (n < lim))
  have hl : lim = (((10 : Nat) ^ 400 : Nat) : Int) := by decide +kernel
  by_cases h : n.natAbs < 10 ^ 400
  · have h1 := digits10_le (k := 400) (by decide) h
    rw [decide_eq_true (by omega), decide_eq_true (show -lim < n by omega), decide_eq_true (show n < lim by omega)]
    rfl
  · have h1 := digits10_ge (k := 400) (n := n.natAbs) (by omega)
    rw [decide_eq_false (by omega)]
    by_cases hn : n < 0
    · rw [decide_eq_false (show ¬ -lim < n by omega)]
      rfl
    · rw [decide_eq_false (show ¬ n < lim by omega), Bool.and_false]
theorem near_lt : ∀ a ∈ nearI, 0 ≤ a ∧ a < 10 ^ 455 := by decide +kernel
theorem NumOk.lt {n : Int} (h : NumOk n) : n.natAbs < 10 ^ 456 := by
  obtain ⟨a, ha, r, r0, r1, e⟩ := h
  obtain ⟨a0, a1⟩ := near_lt a ha
  have : (10 : Int) ^ 455 + 10 < 10 ^ 456 := by decide +kernel
  rw [show (10 : Nat) ^ 456 = (10 ^ 456 : Int).natAbs by decide +kernel]
  generalize (10 : Int) ^ 455 = x at *
  generalize (10 : Int) ^ 456 = y at *
  omega
theorem ten_two : (10 : Nat) ^ 456 ≤ 2 ^ 1600 := by decide +kernel
theorem NumOk.log {n : Int} (h : NumOk n) : (absI n).natAbs.log2 < 1920 := by
  rw [absI_nat]
  show n.natAbs.log2 < 1920
  exact Nat.lt_of_lt_of_le (PySem.Flt.log2_lt_of (k := 1600) (by decide) (Nat.lt_of_lt_of_le h.lt ten_two)) (by decide)
theorem NumOk.len {n : Int} (h : NumOk n) : (PySem.Str.ofString (toString (absI n))).length ≤ 1000 := by
  rw [len_abs]
  exact Nat.le_trans (digits10_le (k := 456) (by decide) h.lt) (by decide)
def spNum : Sp := fun vs H Q _ => ∃ p, vs = [.ref p] ∧ Dice H p ∧ ∀ n H', NumOk n → Roll p H H' → Q (.int n) H'
structure Cn (mg : Str → Option Value) : Prop where
  _OUT_OF_REACH : ∃ t, mg "_OUT_OF_REACH" = some (.int lim t)
  MAX_FIGURES : ∃ t, mg "MAX_FIGURES" = some (.int 400 t)
theorem in64 (x : Int) : -(2 ^ 64) < x % 2305843009213693907 ∧ x % 2305843009213693907 < 2 ^ 64 := by
  have o1 := Int.emod_nonneg x (show (2305843009213693907 : Int) ≠ 0 by decide)
  have o2 := Int.emod_lt_of_pos x (show (0 : Int) < 2305843009213693907 by decide)
  constructor <;> omega
section
variable {P : Program} {w : World} {K : PySem.W.Frag} {mg : Str → Option Value} {base : Heap} {f : Addr} {fd : FuncData}
theorem ok_is_integer (B : Bn mg) (C : Cn mg) (F : Fun K "is_integer" "is_integer" sis_integer f fd) : FnOk P w K mg base CX0 1 f fd ["value"] spIsI := by
  refine F.ok scis_integer (fun vs H Q E h => ?_) (fun cdv A outer s H vs Q E hr h => ?_)
  · obtain ⟨x, n, rfl, _⟩ := h
    rfl
  obtain ⟨x, n, rfl, hv, q⟩ := h
  refine ⟨_, (pss_cons (ps_if (PW.pt (pw_or (pt_not (pt_val (pe_callB call_isi rfl B.isinstance boot_isinstance (pa_cons (pv 0) (pa_cons (pe_ty (T := "int") rfl B.int (by decide +kernel)) pa_nil))))) (pw_or1 (pt_val (pe_callB call_isi rfl B.isinstance boot_isinstance (pa_cons (pv 0) (pa_cons (pe_ty (T := "bool") rfl B.bool (by decide +kernel)) pa_nil))))))) 
      (pss_one (ps_ret pe_bl)) pss_nil)
    (pss_one (ps_ret (pe_chain op_lt op_lt (pe_un un_neg (pe_gi rfl C._OUT_OF_REACH)) (pv 0) (pe_gi rfl C._OUT_OF_REACH))))), ?_⟩
  refine ⟨_, rfl, ?_⟩
  cases hv with
  | int i =>
    refine ⟨_, _, _, .type "int", true, rfl, .ty _, Vk.ty (.int i), kit_ty (by decide +kernel), ?_⟩
    refine ⟨_, rfl, ?_⟩
    refine iteF ?_
    refine ⟨_, rfl, ?_⟩
    refine ⟨_, _, _, .type "bool", false, rfl, .ty _, Vk.ty (.int i), kit_ty (by decide +kernel), ?_⟩
    refine ⟨_, rfl, ?_⟩
    refine iteF ?_
    refine ⟨lim, rfl, _, rfl, -lim, i, rfl, rfl, _, rfl, ?_⟩
    refine ite2 (fun c1 => ?_) (fun c1 => ?_)
    · refine ⟨i, lim, rfl, rfl, ?_⟩
      have e : isI (.int i) = decide (i < lim) := by
        show (decide (-lim < i) && decide (i < lim)) = _
        rw [c1, Bool.true_and]
      rw [e] at q
      exact q
    · have e : isI (.int i) = false := by
        show (decide (-lim < i) && decide (i < lim)) = _
        rw [Bool.eq_false_iff.mpr c1, Bool.false_and]
      rw [e] at q
      exact q
  | bl b =>
    refine ⟨_, _, _, .type "int", true, rfl, .ty _, Vk.ty (.bl b), kit_ty (by decide +kernel), ?_⟩
    refine ⟨_, rfl, ?_⟩
    refine iteF ?_
    refine ⟨_, rfl, ?_⟩
    refine ⟨_, _, _, .type "bool", true, rfl, .ty _, Vk.ty (.bl b), kit_ty (by decide +kernel), ?_⟩
    refine ⟨_, rfl, ?_⟩
    exact iteT q
  | non => refine ⟨_, _, _, .type "int", false, rfl, .ty _, Vk.ty (.non), kit_ty (by decide +kernel), ?_⟩; exact ⟨_, rfl, iteT (iteT q)⟩
  | str z => refine ⟨_, _, _, .type "int", false, rfl, .ty _, Vk.ty (.str z), kit_ty (by decide +kernel), ?_⟩; exact ⟨_, rfl, iteT (iteT q)⟩
  | lst h => refine ⟨_, _, _, .type "int", false, rfl, .ty _, Vk.ty (.lst h), kit_ty (by decide +kernel), ?_⟩; exact ⟨_, rfl, iteT (iteT q)⟩
  | tup h => refine ⟨_, _, _, .type "int", false, rfl, .ty _, Vk.ty (.tup h), kit_ty (by decide +kernel), ?_⟩; exact ⟨_, rfl, iteT (iteT q)⟩
  | dK h => refine ⟨_, _, _, .type "int", false, rfl, .ty _, Vk.ty (.dK h), kit_ty (by decide +kernel), ?_⟩; exact ⟨_, rfl, iteT (iteT q)⟩
theorem ok_is_count (D : Cl P w K mg base 1 "is_integer" spIsI) (F : Fun K "is_count" "is_count" sis_count f fd) : FnOk P w K mg base CX0 2 f fd ["value"] spIsC := by
  refine F.ok scis_count (fun vs H Q E h => ?_) (fun cdv A outer s H vs Q E hr h => ?_)
  · obtain ⟨x, n, rfl, _⟩ := h
    rfl
  obtain ⟨x, n, rfl, hv, q⟩ := h
  have Dis_integer := D
  refine ⟨_, (pss_one (ps_ret (pe_and (pe_c Dis_integer hr (by decide) rfl (pa_cons (pv 0) pa_nil)) (pe_one (pe_cmpR op_ge (pv 0) pe_int (nomark _)))))), ?_⟩
  refine ⟨_, rfl, x, n, rfl, hv, _, rfl, ?_⟩
  cases hv with
  | int i =>
    refine ite2 (fun c1 => ?_) (fun c1 => ?_)
    · refine ⟨_, rfl, i, 0, rfl, rfl, ?_⟩
      have e : isC (.int i) = decide (0 ≤ i) := by
        show (isI (.int i) && decide (0 ≤ i)) = _
        rw [c1, Bool.true_and]
      rw [e] at q
      exact q
    · have e : isC (.int i) = false := by
        show (isI (.int i) && decide (0 ≤ i)) = _
        rw [Bool.eq_false_iff.mpr c1, Bool.false_and]
      rw [e] at q
      exact q
  | bl b => exact iteF q
  | non => exact iteF q
  | str z => exact iteF q
  | lst h => exact iteF q
  | tup h => exact iteF q
  | dK h => exact iteF q
theorem ok_is_letter (B : Bn mg) (F : Fun K "is_letter" "is_letter" sis_letter f fd) : FnOk P w K mg base CX0 1 f fd ["value"] spIsL := by
  refine F.ok scis_letter (fun vs H Q E h => ?_) (fun cdv A outer s H vs Q E hr h => ?_)
  · obtain ⟨x, n, rfl, _⟩ := h
    rfl
  obtain ⟨x, n, rfl, hv, hz, q⟩ := h
  refine ⟨_, (pss_one (ps_ret (pe_and (pe_callB call_isi rfl B.isinstance boot_isinstance (pa_cons (pv 0) (pa_cons (pe_ty (T := "str") rfl B.str (by decide +kernel)) pa_nil))) (pe_and (pe_cmpR op_eq (pe_callB call_len_str rfl B.len boot_len (pa_cons (pv 0) pa_nil)) pe_int (nomark _)) (pe_one (pe_chain op_le_str op_le_str pe_str (pv 0) pe_str)))))), ?_⟩
  refine ⟨_, rfl, ?_⟩
  cases hv with
  | str z =>
    refine ⟨_, _, _, .type "str", true, rfl, .ty _, Vk.ty (.str z), kit_ty (by decide +kernel), _, rfl, iteT ?_⟩
    refine ⟨_, rfl, z, rfl, Nat.le_of_lt (small1000 (hz z rfl)), rfl, _, rfl, ?_⟩
    refine ite2 (fun c1 => ?_) (fun c1 => ?_)
    · refine ⟨_, rfl, _, _, rfl, rfl, _, rfl, ?_⟩
      refine ite2 (fun c2 => ?_) (fun c2 => ?_)
      · refine ⟨_, _, rfl, rfl, ?_⟩
        have e : isL (.str z) = !decide (("z" : Str).cps.toList < z.cps.toList) := by
          show (decide (V.int z.length = V.int 1) && ((!decide (z.cps.toList < ("a" : Str).cps.toList)) && !decide (("z" : Str).cps.toList < z.cps.toList))) = _
          rw [c1, c2, Bool.true_and, Bool.true_and]
        rw [e] at q
        exact q
      · have e : isL (.str z) = false := by
          show (decide (V.int z.length = V.int 1) && ((!decide (z.cps.toList < ("a" : Str).cps.toList)) && !decide (("z" : Str).cps.toList < z.cps.toList))) = _
          rw [c1, Bool.eq_false_iff.mpr c2, Bool.true_and, Bool.false_and]
        rw [e] at q
        exact q
    · have e : isL (.str z) = false := by
        show (decide (V.int z.length = V.int 1) && ((!decide (z.cps.toList < ("a" : Str).cps.toList)) && !decide (("z" : Str).cps.toList < z.cps.toList))) = _
        rw [Bool.eq_false_iff.mpr c1, Bool.false_and]
      rw [e] at q
      exact q
  | int i => exact ⟨_, _, _, .type "str", false, rfl, .ty _, Vk.ty (.int i), kit_ty (by decide +kernel), _, rfl, iteF q⟩
  | bl b => exact ⟨_, _, _, .type "str", false, rfl, .ty _, Vk.ty (.bl b), kit_ty (by decide +kernel), _, rfl, iteF q⟩
  | non => exact ⟨_, _, _, .type "str", false, rfl, .ty _, Vk.ty .non, kit_ty (by decide +kernel), _, rfl, iteF q⟩
  | lst h => exact ⟨_, _, _, .type "str", false, rfl, .ty _, Vk.ty (.lst h), kit_ty (by decide +kernel), _, rfl, iteF q⟩
  | tup h => exact ⟨_, _, _, .type "str", false, rfl, .ty _, Vk.ty (.tup h), kit_ty (by decide +kernel), _, rfl, iteF q⟩
  | dK h => exact ⟨_, _, _, .type "str", false, rfl, .ty _, Vk.ty (.dK h), kit_ty (by decide +kernel), _, rfl, iteF q⟩
theorem ok_law_roll (B : Bn mg) (F : Fun K "_law_roll" "_law_roll" s_law_roll f fd) : FnOk P w K mg base CX0 1 f fd ["dice", "total"] spRoll := by
  refine F.ok sc_law_roll (fun vs H Q E h => ?_) (fun cdv A outer s H vs Q E hr h => ?_)
  · obtain ⟨p, n, rfl, _⟩ := h
    rfl
  obtain ⟨p, n, rfl, ⟨a, b, c, hp⟩, hn, hn2, q⟩ := h
  refine ⟨_, (pss_cons (ps_if (pt_cmpR op_gt (pe_ix ix_list (pv 0) pe_int (fun _ _ => rfl)) pe_int (nomark _)) 
      (pss_cons (ps_set (i := 2) sc_law_roll.nd rfl (Or.inl rfl) (pe_op op_mod (pe_callTy call_int1 rfl B.int (by decide +kernel) (pa_cons (pe_ix ix_list (pv 0) pe_int (fun _ _ => rfl)) pa_nil)) (pv 1)))
      (pss_cons (ps_asg (pe_op op_fdivW (pe_ix ix_list (pv 0) pe_int (fun _ _ => rfl)) (pv 1)) (pg_sub (pv 0) pe_int set_list))
      (pss_one (ps_ret (pv 2))))) pss_nil)
    (pss_cons (ps_asg (pe_op op_add (pe_ix ix_list (pv 0) pe_int (fun _ _ => rfl)) pe_int) (pg_sub (pv 0) pe_int set_list))
    (pss_cons (ps_set (i := 3) sc_law_roll.nd rfl (Or.inl rfl) (pe_op op_mod (pe_callTy call_int1 rfl B.int (by decide +kernel) (pa_cons (pe_op op_add (pe_ix ix_list (pv 0) pe_int (fun _ _ => rfl)) (pe_op op_mul pe_int (pe_ix ix_list (pv 0) pe_int (fun _ _ => rfl)))) pa_nil)) pe_int))
    (pss_cons (ps_set (i := 4) sc_law_roll.nd rfl (Or.inl rfl) (pe_op op_add (pe_op op_mul (pe_op op_mod (pe_callTy call_int1 rfl B.int (by decide +kernel) (pa_cons (pe_op op_add (pe_op op_mul (pv 3) (pv 3)) (pe_op op_mul pe_int (pe_ix ix_list (pv 0) pe_int (fun _ _ => rfl)))) pa_nil)) pe_int) pe_int) (pv 3)))
    (pss_one (ps_ret (pe_op op_mod (pe_callTy call_int1 rfl B.int (by decide +kernel) (pa_cons (pe_op op_fdivW (pv 4) pe_int) pa_nil)) (pv 1)))))))), ?_⟩
  refine ⟨_, rfl, p, _, 0, .int a, rfl, rfl, SqL.of hp, rfl, a, 0, rfl, rfl, _, rfl, ?_⟩
  refine ite2 (fun c1 => ?_) (fun c1 => ?_)
  · refine ⟨_, rfl, p, _, 0, .int a, rfl, rfl, SqL.of hp, rfl, .inl ⟨a, rfl, _, rfl, a, n, rfl, rfl, hn, ?_⟩⟩
    refine ⟨_, rfl, p, _, 0, .int a, rfl, rfl, SqL.of hp, rfl, _, rfl, a, n, rfl, rfl, wide_div hn hn2 (by decide) (by decide), ?_⟩
    refine ⟨_, rfl, p, _, 0, 0, rfl, rfl, hp, rfl, ?_⟩
    refine ⟨_, rfl, ?_⟩
    exact q _ _ (Int.emod_nonneg _ (by omega)) (Int.emod_lt_of_pos _ hn) (Roll.set _ _ _)
  · refine ⟨_, rfl, p, _, 2, .int c, rfl, rfl, SqL.of hp, rfl, c, 1, rfl, rfl, ?_⟩
    refine ⟨_, rfl, p, _, 2, 2, rfl, rfl, hp, rfl, ?_⟩
    have hp2 : (upd H p (.lst ([.int a, .int b, .int c].set 2 (.int (c + 1))))) p = some (.lst [.int a, .int b, .int (c + 1)]) := upd_same
    refine ⟨_, rfl, p, _, 1, .int b, rfl, rfl, SqL.of hp2, rfl, _, rfl, p, _, 2, .int (c + 1), rfl, rfl, SqL.of hp2, rfl, 49979687, c + 1, rfl, rfl, .inl (by decide), b, _, rfl, rfl, .inl ⟨_, rfl, _, _, rfl, rfl, by show (0 : Int) < 2305843009213693907; decide, ?_⟩⟩
    refine ⟨_, rfl, _, rfl, _, _, rfl, rfl, .inl (in64 _), _, rfl, p, _, 2, .int (c + 1), rfl, rfl, SqL.of hp2, rfl, 89, c + 1, rfl, rfl, .inl (by decide), _, _, rfl, rfl, .inl ⟨_, rfl, _, _, rfl, rfl, by show (0 : Int) < 1152921504606846847; decide, _, _, rfl, rfl, .inr (by decide), _, rfl, _, _, rfl, rfl, ?_⟩⟩
    refine ⟨_, rfl, _, _, rfl, rfl, wide_div (b := 20) (by decide) (by decide) (by decide) (by decide), .inl ⟨_, rfl, _, rfl, _, n, rfl, rfl, hn, ?_⟩⟩
    exact q _ _ (Int.emod_nonneg _ (by omega)) (Int.emod_lt_of_pos _ hn) (Roll.set _ _ _)
theorem ok_law_dice (B : Bn mg) (F : Fun K "_law_dice" "_law_dice" s_law_dice f fd) : FnOk P w K mg base CX0 1 f fd ["script", "spot"] (spDice K) := by
  refine F.ok sc_law_dice (fun vs H Q E h => ?_) (fun cdv A outer s H vs Q E hr h => ?_)
  · obtain ⟨a, ns, i, rfl, _⟩ := h
    rfl
  obtain ⟨a, ns, i, rfl, hS, h0, q⟩ := h
  refine ⟨_, (pss_cons (ps_set (i := 2) sc_law_dice.nd rfl (Or.inl rfl) (pe_ifExp (pt_cmpR op_lt (pv 1) (pe_callB call_len_seq rfl B.len boot_len (pa_cons (pv 0) pa_nil)) (nomark _)) (pe_callTy call_int1 rfl B.int (by decide +kernel) (pa_cons (pe_ix ix_list (pv 0) (pv 1) (fun _ _ => rfl)) pa_nil)) (pe_op op_add (pe_op op_mul pe_int (pv 1)) pe_int)))
    (pss_cons (ps_set (i := 3) sc_law_dice.nd rfl (Or.inl rfl) (pe_op op_mod (pe_callB (call_max2 rfl) rfl B.max boot_max (pa_cons pe_int (pa_cons (pe_op op_sub (pe_callB call_abs rfl B.abs boot_abs (pa_cons (pv 2) pa_nil)) (pe_op op_pow pe_int pe_int)) pa_nil))) (pe_op op_mulW (pe_op op_pow pe_int pe_int) (pe_op op_pow pe_int pe_int))))
    (pss_one (ps_ret (pe_lst (pa_cons (pv 3) (pa_cons (pe_op op_add (pe_op op_add (pe_op op_add (pe_op op_mul (pe_op op_mod (pe_callB call_abs rfl B.abs boot_abs (pa_cons (pv 2) pa_nil)) pe_int) pe_int) (pe_op op_mul pe_int (pv 1))) (pe_op op_mul pe_int (pe_callTy call_int1 rfl B.int (by decide +kernel) (pa_cons (pe_cmpR op_lt (pv 2) pe_int (nomark _)) pa_nil)))) pe_int) (pa_cons pe_int pa_nil)))))))), ?_⟩
  have cm : ∀ c d : Int, c = 67 ∨ c = 907 ∨ c = 29 → CMul c d := fun c d h => .inl (by omega)
  refine ⟨_, rfl, _, rfl, a, _, rfl, .inl hS, _, _, rfl, rfl, _, rfl, ?_⟩
  refine ite2 (fun c1 => ?_) (fun c1 => ?_)
  focus
    have c2 : i < (((ns.map V.int).length : Nat) : Int) := of_decide_eq_true c1
    obtain ⟨v, hv, hm⟩ := at_mem h0 c2
    obtain ⟨cell, -, rfl⟩ := List.mem_map.mp hm
    refine ⟨_, rfl, _, rfl, a, _, _, _, rfl, rfl, hS, hv, .inl ⟨cell, rfl, ?_⟩⟩
  rotate_left
  focus
    refine ⟨_, rfl, _, _, rfl, rfl, cm _ _ (.inl rfl), _, _, rfl, rfl, ?_⟩
    generalize 67 * i + 23 = cell
  all_goals
    refine ⟨_, rfl, _, rfl, 10, 15, rfl, rfl, ⟨by decide, by decide, by decide⟩, _, _, rfl, rfl, _, _, rfl, ?_⟩
    refine ⟨10, 60, rfl, rfl, ⟨by decide, by decide, by decide⟩, 10, 60, rfl, rfl, ⟨by decide, by decide, by decide⟩, _, _, rfl, rfl, wide_mul (a := 200) (b := 200) (by decide +kernel) (by decide +kernel) (by decide) (by decide) (by decide), _, _, rfl, rfl, by show (0 : Int) < 10 ^ 60 * 10 ^ 60; decide +kernel, ?_⟩
    refine ⟨_, rfl, _, rfl, _, rfl, _, _, rfl, rfl, by show (0 : Int) < 1152921504606846959; decide, _, _, rfl, rfl, .inr (by decide), ?_⟩
    refine ⟨_, rfl, _, _, rfl, rfl, cm _ _ (.inr (.inl rfl)), _, _, rfl, rfl, _, rfl, _, _, rfl, rfl, .inr ⟨_, rfl, _, _, rfl, rfl, cm _ _ (.inr (.inr rfl)), _, _, rfl, rfl, _, _, rfl, rfl, (by show 3 ≤ sizeLine; decide), fun p hp => ?_⟩⟩
    exact q p _ (same_upd hp) hp ⟨_, _, _, upd_same⟩
theorem ok_law_pick (B : Bn mg) (D_law_roll : Cl P w K mg base 1 "_law_roll" spRoll) (F : Fun K "_law_pick" "_law_pick" s_law_pick f fd) : FnOk P w K mg base CX0 2 f fd ["dice", "items"] spPick := by
  refine F.ok sc_law_pick (fun vs H Q E h => ?_) (fun cdv A outer s H vs Q E hr h => ?_)
  · obtain ⟨p, l, xs, rfl, _⟩ := h
    rfl
  obtain ⟨p, l, xs, rfl, hd, hl, hne, h0, h1, q⟩ := h
  refine ⟨_, (pss_one (ps_ret (pe_ix ix_list (pv 1) (pe_c D_law_roll hr (by decide) rfl (pa_cons (pv 0) (pa_cons (pe_callB call_len_seq rfl B.len boot_len (pa_cons (pv 1) pa_nil)) pa_nil))) (fun _ _ => rfl)))), ?_⟩
  refine ⟨_, rfl, _, rfl, _, rfl, l, _, rfl, .inl (SqL.of hl), p, _, rfl, hd, by omega, ?_, fun r H' r0 r1 hR => ?_⟩
  · exact Nat.lt_of_le_of_lt (show xs.length ≤ 1000 from h1) (by decide +kernel)
  obtain ⟨v, hv, hm⟩ := at_mem r0 r1
  exact ⟨l, xs, r, v, rfl, rfl, SqL.of (hR.2 _ _ hne hl), hv, q v H' hm hR⟩
theorem ok_law_limit (F : Fun K "_law_limit" "_law_limit" s_law_limit f fd) : FnOk P w K mg base CX0 1 f fd [] spLimit := by
  refine F.ok sc_law_limit (fun vs H Q E h => ?_) (fun cdv A outer s H vs Q E hr h => ?_)
  · obtain ⟨rfl, _⟩ := h
    rfl
  obtain ⟨rfl, q⟩ := h
  refine ⟨_, (pss_one (ps_ret (pe_op op_powW (pe_op op_pow pe_int pe_int) pe_int))), ?_⟩
  exact ⟨_, _, rfl, rfl, ⟨by decide, by decide, by decide⟩, _, _, rfl, rfl, ⟨by decide, by decide +kernel⟩, q⟩
theorem ok_law_number (D_law_roll : Cl P w K mg base 1 "_law_roll" spRoll) (D_law_pick : Cl P w K mg base 2 "_law_pick" spPick) (D_law_limit : Cl P w K mg base 1 "_law_limit" spLimit) (F : Fun K "_law_number" "_law_number" s_law_number f fd) : FnOk P w K mg base CX0 3 f fd ["dice"] spNum := by
  refine F.ok sc_law_number (fun vs H Q E h => ?_) (fun cdv A outer s H vs Q E hr h => ?_)
  · obtain ⟨p, rfl, _⟩ := h
    rfl
  obtain ⟨p, rfl, hd, q⟩ := h
  refine ⟨_, (pss_cons (ps_set (i := 1) sc_law_number.nd rfl (Or.inl rfl) (pe_lst (pa_cons pe_int (pa_cons pe_int (pa_cons pe_int (pa_cons (pe_op op_pow pe_int pe_int) (pa_cons (pe_op op_fdivW (pe_c0 D_law_limit hr (by decide) rfl) pe_int) (pa_cons (pe_c0 D_law_limit hr (by decide) rfl) (pa_cons (pe_c0 D_law_limit hr (by decide) rfl) (pa_cons (pe_op op_mulW (pe_c0 D_law_limit hr (by decide) rfl) (pe_op op_pow pe_int pe_int)) pa_nil))))))))))
    (pss_cons (ps_set (i := 2) sc_law_number.nd rfl (Or.inl rfl) (pe_op op_sub (pe_op op_add (pe_c D_law_pick hr (by decide) rfl (pa_cons (pv 0) (pa_cons (pv 1) pa_nil))) (pe_c D_law_roll hr (by decide) rfl (pa_cons (pv 0) (pa_cons pe_int pa_nil)))) pe_int))
    (pss_one (ps_ret (pe_ifExp (pt_cmpR op_eq (pe_c D_law_roll hr (by decide) rfl (pa_cons (pv 0) (pa_cons pe_int pa_nil))) pe_int (nomark _)) (pe_op op_sub pe_int (pv 2)) (pv 2)))))), ?_⟩
  refine ⟨10, 20, rfl, rfl, ⟨by decide, by decide, by decide⟩, rfl, _, _, rfl, rfl, wide_div (b := 20) (by decide) (by decide) (by decide) (by decide), rfl, rfl, rfl, 10, 50, rfl, rfl, ⟨by decide, by decide, by decide⟩, _, _, rfl, rfl, wide_mul (a := 1400) (b := 200) (by decide +kernel) (by decide +kernel) (by decide) (by decide) (by decide), (by show 8 ≤ sizeLine; decide), fun l hl => ?_⟩
  refine ⟨_, rfl, _, rfl, p, l, nearI.map V.int, rfl, (Roll.new hd hl).1, upd_same, fun e => ?_, by decide, by decide, fun v H1 hv hR => ?_⟩
  · obtain ⟨_, _, _, z⟩ := hd
    rw [e, z] at hl
    cases hl
  obtain ⟨a, ha, rfl⟩ := List.mem_map.mp hv
  refine ⟨_, rfl, p, 5, rfl, hR.1, by decide, by decide, fun r H2 r0 r1 hR2 => ?_⟩
  refine ⟨_, _, rfl, rfl, _, _, rfl, rfl, ?_⟩
  refine ⟨_, rfl, p, 2, rfl, hR2.1, by decide, by decide, fun r3 H3 _ _ hR3 => ⟨rfl, _, rfl, ?_⟩⟩
  have hq := ((Roll.new hd hl).trans hR).trans (hR2.trans hR3)
  refine ite2 (fun _ => ?_) (fun _ => ?_)
  · exact ⟨_, rfl, _, _, rfl, rfl, q _ _ ⟨a, ha, r, r0, r1, .inr rfl⟩ hq⟩
  · exact ⟨_, rfl, q _ _ ⟨a, ha, r, r0, r1, .inl rfl⟩ hq⟩
def texts : List Str := ["", "", "", "a", " "]
theorem texts_le : ∀ t ∈ texts, t.length ≤ 1 := by decide +kernel
theorem quad (b1 b2 b3 b4 : Bool) : (PyData.list [.bool b1, .bool b2, .bool b3, .bool b4]).showable = true ∧ (PyData.list [.bool b1, .bool b2, .bool b3, .bool b4]).hasDict = false ∧
    (PyData.list [.bool b1, .bool b2, .bool b3, .bool b4]).depth ≤ 60 ∧ (PyData.list [.bool b1, .bool b2, .bool b3, .bool b4]).shown.length ≤ sizeLine := by
  cases b1 <;> cases b2 <;> cases b3 <;> cases b4 <;> decide +kernel
theorem eq4 {a1 a2 a3 b1 b2 b3 : Bool} (h1 : a1 = b1) (h2 : a2 = b2) (h3 : a3 = b3) : PyData.list [.bool a1, .bool a2, .bool a3, .bool false] = PyData.list [.bool b1, .bool b2, .bool b3, .bool false] := by
  rw [h1, h2, h3]
/-- a value that is_integer, is_count and is_letter deny -/
def Odd (H : Hp) (v : V) : Prop := ∃ n, Vk H v n ∧ isI v = false ∧ isC v = false ∧ isL v = false ∧ ∀ z, v = .str z → z.length ≤ 1000
theorem Odd.str {H : Hp} {z : Str} (h : isL (.str z) = false) (l : z.length ≤ 1000) : Odd H (.str z) := ⟨_, .str z, rfl, rfl, h, fun _ e => V.str.inj e ▸ l⟩
theorem Odd.ref {H : Hp} {a : Addr} {n : String} (h : Vk H (.ref a) n) : Odd H (.ref a) := ⟨_, h, rfl, rfl, rfl, fun _ e => nomatch e⟩
def spLaw (K : PySem.W.Frag) : Sp := fun vs H Q _ => ∃ (a : Addr) (ns : List Int), vs = [.ref a] ∧ SqL K H a (ns.map V.int) ∧ ns.length ≤ 63 ∧ ∀ H', Q (.bl true) H'
theorem ok_law (B : Bn mg) (C : Cn mg) (Dis_integer : Cl P w K mg base 1 "is_integer" spIsI) (Dis_count : Cl P w K mg base 2 "is_count" spIsC) (Dis_letter : Cl P w K mg base 1 "is_letter" spIsL)
    (D_law_dice : Cl P w K mg base 1 "_law_dice" (spDice K)) (D_law_roll : Cl P w K mg base 1 "_law_roll" spRoll) (D_law_pick : Cl P w K mg base 2 "_law_pick" spPick) (D_law_number : Cl P w K mg base 3 "_law_number" spNum)
    (F : Fun K "law" "law" slaw f fd) : FnG P w K mg base CX0 4 f fd ["script"] (spLaw K) := by
  refine okG0 F sclaw (fun vs H Q E h => ?_) (fun cdv A outer s H vs Q E gd hr h => ?_)
  · obtain ⟨a, ns, rfl, _⟩ := h
    rfl
  obtain ⟨a, ns, rfl, hS, h63, q⟩ := h
  refine ⟨_, (pss_cons (ps_set (i := 1) sclaw.nd rfl (Or.inl rfl) pe_str)
    (pss_cons (ps_for PassesOwn.never rfl (pi_range1 rfl B.range (pa_cons (pe_callB (call_max2 rfl) rfl B.max boot_max (pa_cons pe_int (pa_cons (pe_callB (call_min2 rfl) rfl B.min boot_min (pa_cons pe_int (pa_cons (pe_callB call_len_seq rfl B.len boot_len (pa_cons (pv 0) pa_nil)) pa_nil))) pa_nil))) pa_nil)) (pg_name (i := 2) sclaw.nd rfl (Or.inl rfl)) 
      (pss_cons (ps_set (i := 3) sclaw.nd rfl (Or.inl rfl) (pe_c D_law_dice hr (by decide) rfl (pa_cons (pv 0) (pa_cons (pv 2) pa_nil))))
      (pss_cons (ps_for PassesOwn.never rfl (pi_range1 rfl B.range (pa_cons pe_int pa_nil)) (pg_name (i := 4) sclaw.nd rfl (Or.inl rfl)) 
        (pss_cons (ps_par (i := 5) (j := 6) rfl sclaw.nd rfl rfl (by decide) rfl rfl (pa_cons (pe_c D_law_number hr (by decide) rfl (pa_cons (pv 3) pa_nil)) (pa_cons (pe_ix ix_str (pv 1) (pe_c D_law_roll hr (by decide) rfl (pa_cons (pv 3) (pa_cons (pe_callB call_len_str rfl B.len boot_len (pa_cons (pv 1) pa_nil)) pa_nil))) (fun _ _ => rfl)) pa_nil)) rfl)
        (pss_cons (ps_set (i := 7) sclaw.nd rfl (Or.inl rfl) (pe_op op_add_str (pv 6) (pe_c D_law_pick hr (by decide) rfl (pa_cons (pv 3) (pa_cons (pe_lst (pa_cons pe_str (pa_cons pe_str (pa_cons pe_str (pa_cons pe_str (pa_cons pe_str pa_nil)))))) pa_nil)))))
        (pss_cons (ps_set (i := 8) sclaw.nd rfl (Or.inl rfl) (pe_cmpR op_le (pe_callB call_len_str rfl B.len boot_len (pa_cons (pe_callTy call_str_int rfl B.str (by decide +kernel) (pa_cons (pe_callB call_abs rfl B.abs boot_abs (pa_cons (pv 5) pa_nil)) pa_nil)) pa_nil)) pe_int (nomark _)))
        (pss_cons (ps_set (i := 9) sclaw.nd rfl (Or.inl rfl) (pe_lst (pa_cons (pe_c Dis_integer hr (by decide) rfl (pa_cons (pv 5) pa_nil)) (pa_cons (pe_c Dis_count hr (by decide) rfl (pa_cons (pv 5) pa_nil)) (pa_cons (pe_c Dis_letter hr (by decide) rfl (pa_cons (pv 7) pa_nil)) (pa_cons (pe_c Dis_letter hr (by decide) rfl (pa_cons (pv 5) pa_nil)) pa_nil))))))
        (pss_one (ps_if (pt_cmpR op_ne (pe_callB (call_reprD gd hr.units) rfl B.repr boot_repr (pa_cons (pv 9) pa_nil)) (pe_callB (call_reprD gd hr.units) rfl B.repr boot_repr (pa_cons (pe_lst (pa_cons (pv 8) (pa_cons (pe_and (pv 8) (pe_one (pe_cmpR op_ge (pv 5) pe_int (nomark _)))) (pa_cons (pe_and (pe_cmpR op_eq (pe_callB call_len_str rfl B.len boot_len (pa_cons (pv 7) pa_nil)) pe_int (nomark _)) (pe_one (pe_chain op_le_str op_le_str pe_str (pv 7) pe_str))) (pa_cons pe_bl pa_nil))))) pa_nil)) (nomark _)) 
          (pss_one (ps_ret pe_bl)) pss_nil)))))))
      (pss_cons (ps_set (i := 10) sclaw.nd rfl (Or.inl rfl) (pe_c D_law_pick hr (by decide) rfl (pa_cons (pv 3) (pa_cons (pe_lst (pa_cons pe_non (pa_cons pe_bl (pa_cons pe_bl (pa_cons pe_str (pa_cons (pe_tup pa_nil) (pa_cons (pe_tup (pa_cons pe_int pa_nil)) (pa_cons (pe_lst (pa_cons pe_int pa_nil)) (pa_cons (pe_disp (pps_cons pe_int pe_int pps_nil) rfl rfl (by decide) (by decide)) (pa_cons (pe_tup (pa_cons pe_str pa_nil)) (pa_cons (pe_lst (pa_cons pe_str pa_nil)) (pa_cons pe_str (pa_cons pe_str (pa_cons (pe_disp (pps_cons pe_str pe_int pps_nil) rfl rfl (by decide) (by decide)) (pa_cons pe_str pa_nil))))))))))))))) pa_nil))))
      (pss_one (ps_if (pt_cmpR (op_neD hr.units) (pe_lst (pa_cons (pe_c Dis_integer hr (by decide) rfl (pa_cons (pv 10) pa_nil)) (pa_cons (pe_c Dis_count hr (by decide) rfl (pa_cons (pv 10) pa_nil)) (pa_cons (pe_c Dis_letter hr (by decide) rfl (pa_cons (pv 10) pa_nil)) pa_nil)))) (pe_lst (pa_cons pe_bl (pa_cons pe_bl (pa_cons pe_bl pa_nil)))) (nomark _)) 
        (pss_one (ps_ret pe_bl)) pss_nil))))))
    (pss_one (ps_ret (pe_cmpR (op_eqD hr.units) (pe_lst (pa_cons (pe_c Dis_integer hr (by decide) rfl (pa_cons pe_int pa_nil)) (pa_cons (pe_c Dis_count hr (by decide) rfl (pa_cons pe_int pa_nil)) (pa_cons (pe_c Dis_count hr (by decide) rfl (pa_cons (pe_op op_sub pe_int pe_int) pa_nil)) (pa_cons (pe_gi rfl C.MAX_FIGURES) pa_nil))))) (pe_lst (pa_cons pe_bl (pa_cons pe_bl (pa_cons pe_bl (pa_cons pe_int pa_nil))))) (nomark _)))))), ?_⟩
  refine ⟨_, rfl, a, _, rfl, .inl hS, _, _, rfl, _, _, rfl, _, rfl, ?_, ?_, ?_⟩
  · split <;> split <;> omega
  · split <;> split <;> omega
  refine for_range (lo := 0) (fun _ σ H' => ∃ y2 y3 y4 y5 y6 y7 y8 y9 y10, σ = [some (.ref a), some (.str "abcdefghijklmnopqrstuvwxyzAZ09 _-.,+{}[]@"), y2, y3, y4, y5, y6, y7, y8, y9, y10] ∧ Same H H') ⟨none, none, none, none, none, none, none, none, none, rfl, Same.refl H⟩ ?_ ?_
  rotate_left
  · -- behind the loop
    rintro σ H' ⟨y2, y3, y4, y5, y6, y7, y8, y9, y10, rfl, sm⟩
    refine ⟨_, _, rfl, .int 0, _, _, rfl, .int 0, _, _, rfl, rfl, _, _, rfl, .int (-1), (by show 4 ≤ sizeLine; decide), fun l1 hl1 => ?_⟩
    refine ⟨(by show 4 ≤ sizeLine; decide), fun l2 hl2 => ?_⟩
    refine ⟨.list [.bool (isI (.int 0)), .bool (isC (.int 0)), .bool (isC (.int (-1))), .int 400], .list [.bool true, .bool true, .bool false, .int 400], .lst (SqL.of (same_upd hl2 _ _ upd_same)) (.cons (.bl _) (.cons (.bl _) (.cons (.bl _) (.cons (.int _) .nil)))), .lst (SqL.of upd_same) (.cons (.bl _) (.cons (.bl _) (.cons (.bl _) (.cons (.int _) .nil)))), by decide +kernel, by decide, ?_⟩
    have ev : PyData.eqv (.list [.bool (isI (.int 0)), .bool (isC (.int 0)), .bool (isC (.int (-1))), .int 400]) (.list [.bool true, .bool true, .bool false, .int 400]) = true := by decide +kernel
    rw [ev]
    exact q _
  · -- a spot
    rintro i σ H' hi ⟨y2, y3, y4, y5, y6, y7, y8, y9, y10, rfl, sm⟩
    refine ⟨_, rfl, _, rfl, a, ns, _, rfl, sm.seq hS, by omega, fun p H1 s1 n1 d1 => ?_⟩
    have np : H p = none := sm.free n1
    refine ⟨_, rfl, by decide, by decide, ?_⟩
    refine for_range (lo := 0) (n := 4) (fun _ σ H' => ∃ y2 y4 y5 y6 y7 y8 y9 y10, σ = [some (.ref a), some (.str "abcdefghijklmnopqrstuvwxyzAZ09 _-.,+{}[]@"), y2, some (.ref p), y4, y5, y6, y7, y8, y9, y10] ∧ Same H H' ∧ Dice H' p) ⟨_, _, _, _, _, _, _, _, rfl, sm.trans s1, d1⟩ ?_ ?_
    · -- a turn
      rintro j σ H2 hj ⟨z2, z4, z5, z6, z7, z8, z9, z10, rfl, sm2, d2⟩
      refine ⟨_, rfl, p, rfl, d2, fun n H3 hn r3 => ?_⟩
      refine ⟨_, rfl, _, rfl, _, rfl, _, rfl, by decide, p, _, rfl, r3.1, by decide, by decide, fun r H4 r0 r1 r4 => ?_⟩
      obtain ⟨c, hc, -⟩ := at_mem (xs := ("abcdefghijklmnopqrstuvwxyzAZ09 _-.,+{}[]@" : Str).cps.toList) r0 r1
      refine ⟨_, _, c, rfl, rfl, by decide, hc, _, _, rfl, ?_⟩
      refine ⟨_, rfl, _, rfl, (by show 5 ≤ sizeLine; decide), fun l hl => ?_⟩
      refine ⟨p, l, texts.map V.str, rfl, (Roll.new r4.1 hl).1, upd_same, r4.1.ne hl, by decide, by decide, fun v H5 hv r5 => ?_⟩
      obtain ⟨t, ht, rfl⟩ := List.mem_map.mp hv
      have tl := texts_le t ht
      have tz : ((⟨#[c]⟩ : Str) ++ t).length ≤ 2 := by
        rw [strLen_append]
        show 1 + t.length ≤ 2
        omega
      refine ⟨_, _, rfl, rfl, Nat.le_trans (show 1 + t.length ≤ 2 by omega) (by decide), ?_⟩
      generalize (⟨#[c]⟩ : Str) ++ t = x at tz ⊢
      -- is_short
      refine ⟨_, rfl, n, rfl, _, rfl, hn.log, _, rfl, Nat.le_of_lt (small1000 hn.len), _, _, rfl, rfl, ?_⟩
      -- told
      refine ⟨_, rfl, _, _, rfl, .int n, _, rfl, _, _, rfl, .int n, _, rfl, _, _, rfl, .str x, fun z e => by cases e; omega, _, rfl, _, _, rfl, .int n, fun z e => (nomatch e), (by show 4 ≤ sizeLine; decide), fun l1 hl1 => ?_⟩
      refine ⟨_, rfl, l1, .list [.bool (isI (.int n)), .bool (isC (.int n)), .bool (isL (.str x)), .bool false], rfl, .lst (SqL.of upd_same) (.cons (.bl _) (.cons (.bl _) (.cons (.bl _) (.cons (.bl _) .nil)))), (quad _ _ _ _).1, (quad _ _ _ _).2.1, (quad _ _ _ _).2.2.1, (quad _ _ _ _).2.2.2, ?_⟩
      refine ⟨_, rfl, _, rfl, _, rfl, ?_⟩
      have sm5 : Same H H5 := (((sm2.trans (Same.refl H2) |> fun s => Roll.same np s r3) |> fun s => Roll.same np s r4) |> fun s => same_new s hl) |> fun s => Roll.same np s r5
      have d5 : Dice (upd H5 l1 (.lst [.bl (isI (.int n)), .bl (isC (.int n)), .bl (isL (.str x)), .bl false])) p := (Roll.new r5.1 hl1).1
      have sm6 : Same H (upd H5 l1 (.lst [.bl (isI (.int n)), .bl (isC (.int n)), .bl (isL (.str x)), .bl false])) := same_new sm5 hl1
      have dd := d5
      refine ite2 (fun c1 => ?_) (fun c1 => ?_)
      focus
        have e2 : isC (.int n) = decide (0 ≤ n) := by
          show (isI (.int n) && decide (0 ≤ n)) = _
          rw [show isI (.int n) = true from (short_is n).symm.trans c1, Bool.true_and]
        refine ⟨_, rfl, n, 0, rfl, rfl, ?_⟩
      rotate_left
      focus
        have e2 : isC (.int n) = false := by
          show (isI (.int n) && decide (0 ≤ n)) = _
          rw [show isI (.int n) = false from (short_is n).symm.trans (Bool.eq_false_iff.mpr c1), Bool.false_and]
      all_goals
        refine ⟨_, rfl, x, rfl, Nat.le_trans tz (by decide), rfl, _, rfl, ?_⟩
        refine ite2 (fun c2 => ?_) (fun c2 => ?_)
        focus
          refine ⟨_, rfl, _, _, rfl, rfl, _, rfl, ?_⟩
          refine ite2 (fun c3 => ?_) (fun c3 => ?_)
          focus
            have e3 : isL (.str x) = !decide (("z" : Str).cps.toList < x.cps.toList) := by
              show (decide (V.int x.length = V.int 1) && ((!decide (x.cps.toList < ("a" : Str).cps.toList)) && !decide (("z" : Str).cps.toList < x.cps.toList))) = _
              rw [c2, c3, Bool.true_and, Bool.true_and]
            refine ⟨_, _, rfl, rfl, ?_⟩
          rotate_left
          focus
            have e3 : isL (.str x) = false := by
              show (decide (V.int x.length = V.int 1) && ((!decide (x.cps.toList < ("a" : Str).cps.toList)) && !decide (("z" : Str).cps.toList < x.cps.toList))) = _
              rw [c2, Bool.eq_false_iff.mpr c3, Bool.true_and, Bool.false_and]
        rotate_right
        focus
          have e3 : isL (.str x) = false := by
            show (decide (V.int x.length = V.int 1) && ((!decide (x.cps.toList < ("a" : Str).cps.toList)) && !decide (("z" : Str).cps.toList < x.cps.toList))) = _
            rw [Bool.eq_false_iff.mpr c2, Bool.false_and]
        all_goals
          refine ⟨(by show 4 ≤ sizeLine; decide), fun l2 hl2 => ?_⟩
          refine ⟨l2, .list [.bool _, .bool _, .bool _, .bool false], rfl, .lst (SqL.of upd_same) (.cons (.bl _) (.cons (.bl _) (.cons (.bl _) (.cons (.bl _) .nil)))), (quad _ _ _ _).1, (quad _ _ _ _).2.1, (quad _ _ _ _).2.2.1, (quad _ _ _ _).2.2.2, rfl, _, rfl, ?_⟩
          refine iteNS (congrArg V.str (congrArg PyData.shown (eq4 (short_is n).symm e2 e3))) ?_
          exact ⟨_, _, _, _, _, _, _, _, rfl, same_new sm6 hl2, (Roll.new dd hl2).1⟩
    · -- behind the turns
      rintro σ H2 ⟨z2, z4, z5, z6, z7, z8, z9, z10, rfl, sm2, d2⟩
      refine ⟨_, rfl, (by show 0 ≤ sizeLine; decide), fun p1 h1 => ?_⟩
      refine ⟨(by show 1 ≤ sizeLine; decide), fun p2 h2 => ?_⟩
      refine ⟨(by show 1 ≤ sizeLine; decide), fun p3 h3 => ?_⟩
      refine fun p4 h4 => ⟨upd_same, [(Sum.inl 7, .int 7)], rfl, by decide, ?_⟩
      refine ⟨(by show 1 ≤ sizeLine; decide), fun p5 h5 => ?_⟩
      refine ⟨(by show 1 ≤ sizeLine; decide), fun p6 h6 => ?_⟩
      refine fun p7 h7 => ⟨upd_same, [(Sum.inr "a", .int 1)], rfl, by decide, ?_⟩
      refine ⟨(by show 14 ≤ sizeLine; decide), fun l hl => ?_⟩
      have s1 := same_upd (o := .tup []) h1
      have s2 := same_upd (o := .tup [.int 7]) h2
      have s3 := same_upd (o := .lst [.int 7]) h3
      have s4 := same_upd2 (o := .dK []) (o' := .dK (mergeK [] [(Sum.inl 7, .int 7)])) h4
      have s5 := same_upd (o := .tup [.str "a"]) h5
      have s6 := same_upd (o := .lst [.str "a"]) h6
      have s7 := same_upd2 (o := .dK []) (o' := .dK (mergeK [] [(Sum.inr "a", .int 1)])) h7
      have s8 := same_upd (o := .lst [.non, .bl true, .bl false, .str "7", .ref p1, .ref p2, .ref p3, .ref p4, .ref p5, .ref p6, .str "", .str "ab", .ref p7, .str "\n"]) hl
      have e2 := s1
      have e3 := e2.trans s2
      have e4 := e3.trans s3
      have e5 := e4.trans s4
      have e6 := e5.trans s5
      have e7 := e6.trans s6
      have e8 := e7.trans s7
      have e9 := e8.trans s8
      have t7 := s7.trans s8
      have t6 := s6.trans t7
      have t5 := s5.trans t6
      have t4 := s4.trans t5
      have t3 := s3.trans t4
      have t2 := s2.trans t3
      refine ⟨p, l, _, rfl, d2.same e9, upd_same, (d2.same e8).ne hl, by show 0 < 14; decide, by show 14 ≤ 1000; decide, fun v H3 hv r3 => ?_⟩
      have odd : Odd H3 v := by
        simp only [List.mem_cons, List.not_mem_nil, or_false] at hv
        rcases hv with rfl | rfl | rfl | rfl | rfl | rfl | rfl | rfl | rfl | rfl | rfl | rfl | rfl | rfl
        · exact ⟨_, .non, rfl, rfl, rfl, fun _ e => nomatch e⟩
        · exact ⟨_, .bl _, rfl, rfl, rfl, fun _ e => nomatch e⟩
        · exact ⟨_, .bl _, rfl, rfl, rfl, fun _ e => nomatch e⟩
        · exact .str (by decide +kernel) (by decide)
        · exact .ref (Vk.roll (.tup (t2 _ _ upd_same)) r3 (fun e => d2.ne h1 (V.ref.inj e)))
        · exact .ref (Vk.roll (.tup (t3 _ _ upd_same)) r3 (fun e => (d2.same e2).ne h2 (V.ref.inj e)))
        · exact .ref (Vk.roll (.lst (t4 _ _ upd_same)) r3 (fun e => (d2.same e3).ne h3 (V.ref.inj e)))
        · exact .ref (Vk.roll (.dK (t5 _ _ upd_same)) r3 (fun e => (d2.same e4).ne h4 (V.ref.inj e)))
        · exact .ref (Vk.roll (.tup (t6 _ _ upd_same)) r3 (fun e => (d2.same e5).ne h5 (V.ref.inj e)))
        · exact .ref (Vk.roll (.lst (t7 _ _ upd_same)) r3 (fun e => (d2.same e6).ne h6 (V.ref.inj e)))
        · exact .str (by decide +kernel) (by decide)
        · exact .str (by decide +kernel) (by decide)
        · exact .ref (Vk.roll (.dK (s8 _ _ upd_same)) r3 (fun e => (d2.same e7).ne h7 (V.ref.inj e)))
        · exact .str (by decide +kernel) (by decide)
      obtain ⟨n, hk, eI, eC, eL, hz⟩ := odd
      refine ⟨_, rfl, _, n, rfl, hk, _, rfl, _, n, rfl, hk, _, rfl, _, n, rfl, hk, hz, (by show 3 ≤ sizeLine; decide), fun l1 hl1 => ?_⟩
      refine ⟨(by show 3 ≤ sizeLine; decide), fun l2 hl2 => ?_⟩
      refine ⟨.list [.bool (isI v), .bool (isC v), .bool (isL v)], .list [.bool false, .bool false, .bool false], .lst (SqL.of (same_upd hl2 _ _ upd_same)) (.cons (.bl _) (.cons (.bl _) (.cons (.bl _) .nil))), .lst (SqL.of upd_same) (.cons (.bl _) (.cons (.bl _) (.cons (.bl _) .nil))), ?_, by decide, _, rfl, ?_⟩
      · rw [eI, eC, eL]
        decide
      · have ev : PyData.eqv (.list [.bool (isI v), .bool (isC v), .bool (isL v)]) (.list [.bool false, .bool false, .bool false]) = true := by
          rw [eI, eC, eL]
          decide +kernel
        rw [ev]
        refine iteF ?_
        exact ⟨_, _, _, _, _, _, _, _, _, rfl, same_new (same_new (Roll.same np (sm2.trans e9) r3) hl1) hl2⟩
end
theorem all_mk {l : PySem.W.OpenLaw} {w : World} {K : PySem.W.Frag} {h : Heap} {mg : Str → Option Value} {fa : Addr} (X : K.In h) (G : h.Ns mainGlobals mg) (hfa : mg "law" = some (.ref fa))
    {f0 : Addr} {od0 an0 : Option Addr} {sl0 : Array (Option Value)} {oc0 kV0 dc0 pm0 cd0 ct0 : Value} {f1 : Addr} {od1 an1 : Option Addr} {sl1 : Array (Option Value)} {oc1 kV1 dc1 pm1 cd1 ct1 : Value} {f2 : Addr} {od2 an2 : Option Addr} {sl2 : Array (Option Value)} {oc2 kV2 dc2 pm2 cd2 ct2 : Value} {f3 : Addr} {od3 an3 : Option Addr} {sl3 : Array (Option Value)} {oc3 kV3 dc3 pm3 cd3 ct3 : Value} {f4 : Addr} {od4 an4 : Option Addr} {sl4 : Array (Option Value)} {oc4 kV4 dc4 pm4 cd4 ct4 : Value} {f5 : Addr} {od5 an5 : Option Addr} {sl5 : Array (Option Value)} {oc5 kV5 dc5 pm5 cd5 ct5 : Value} {f6 : Addr} {od6 an6 : Option Addr} {sl6 : Array (Option Value)} {oc6 kV6 dc6 pm6 cd6 ct6 : Value} {f7 : Addr} {od7 an7 : Option Addr} {sl7 : Array (Option Value)} {oc7 kV7 dc7 pm7 cd7 ct7 : Value} {f8 : Addr} {od8 an8 : Option Addr} {sl8 : Array (Option Value)} {oc8 kV8 dc8 pm8 cd8 ct8 : Value}
    {t__OUT_OF_REACH : Tok}
    {t_MAX_FIGURES : Tok}
    (a0 : PySem.W.nsIn K mainGlobals "is_integer" = some (some (.ref f0))) (l0 : K.lookup f0 = some ⟨oc0, od0, .func (PySem.W.fnOf "is_integer" "is_integer" (defArgs sis_integer) (defBody sis_integer) (defScope sis_integer) .none kV0 dc0 pm0 an0 cd0 ct0), sl0⟩) (c0 : PySem.W.codeIn K cd0 "is_integer" = true) (k0 : PySem.W.keepIn K (.ref f0) = true)
    (a1 : PySem.W.nsIn K mainGlobals "is_count" = some (some (.ref f1))) (l1 : K.lookup f1 = some ⟨oc1, od1, .func (PySem.W.fnOf "is_count" "is_count" (defArgs sis_count) (defBody sis_count) (defScope sis_count) .none kV1 dc1 pm1 an1 cd1 ct1), sl1⟩) (c1 : PySem.W.codeIn K cd1 "is_count" = true) (k1 : PySem.W.keepIn K (.ref f1) = true)
    (a2 : PySem.W.nsIn K mainGlobals "is_letter" = some (some (.ref f2))) (l2 : K.lookup f2 = some ⟨oc2, od2, .func (PySem.W.fnOf "is_letter" "is_letter" (defArgs sis_letter) (defBody sis_letter) (defScope sis_letter) .none kV2 dc2 pm2 an2 cd2 ct2), sl2⟩) (c2 : PySem.W.codeIn K cd2 "is_letter" = true) (k2 : PySem.W.keepIn K (.ref f2) = true)
    (a3 : PySem.W.nsIn K mainGlobals "_law_dice" = some (some (.ref f3))) (l3 : K.lookup f3 = some ⟨oc3, od3, .func (PySem.W.fnOf "_law_dice" "_law_dice" (defArgs s_law_dice) (defBody s_law_dice) (defScope s_law_dice) .none kV3 dc3 pm3 an3 cd3 ct3), sl3⟩) (c3 : PySem.W.codeIn K cd3 "_law_dice" = true) (k3 : PySem.W.keepIn K (.ref f3) = true)
    (a4 : PySem.W.nsIn K mainGlobals "_law_roll" = some (some (.ref f4))) (l4 : K.lookup f4 = some ⟨oc4, od4, .func (PySem.W.fnOf "_law_roll" "_law_roll" (defArgs s_law_roll) (defBody s_law_roll) (defScope s_law_roll) .none kV4 dc4 pm4 an4 cd4 ct4), sl4⟩) (c4 : PySem.W.codeIn K cd4 "_law_roll" = true) (k4 : PySem.W.keepIn K (.ref f4) = true)
    (a5 : PySem.W.nsIn K mainGlobals "_law_pick" = some (some (.ref f5))) (l5 : K.lookup f5 = some ⟨oc5, od5, .func (PySem.W.fnOf "_law_pick" "_law_pick" (defArgs s_law_pick) (defBody s_law_pick) (defScope s_law_pick) .none kV5 dc5 pm5 an5 cd5 ct5), sl5⟩) (c5 : PySem.W.codeIn K cd5 "_law_pick" = true) (k5 : PySem.W.keepIn K (.ref f5) = true)
    (a6 : PySem.W.nsIn K mainGlobals "_law_limit" = some (some (.ref f6))) (l6 : K.lookup f6 = some ⟨oc6, od6, .func (PySem.W.fnOf "_law_limit" "_law_limit" (defArgs s_law_limit) (defBody s_law_limit) (defScope s_law_limit) .none kV6 dc6 pm6 an6 cd6 ct6), sl6⟩) (c6 : PySem.W.codeIn K cd6 "_law_limit" = true) (k6 : PySem.W.keepIn K (.ref f6) = true)
    (a7 : PySem.W.nsIn K mainGlobals "_law_number" = some (some (.ref f7))) (l7 : K.lookup f7 = some ⟨oc7, od7, .func (PySem.W.fnOf "_law_number" "_law_number" (defArgs s_law_number) (defBody s_law_number) (defScope s_law_number) .none kV7 dc7 pm7 an7 cd7 ct7), sl7⟩) (c7 : PySem.W.codeIn K cd7 "_law_number" = true) (k7 : PySem.W.keepIn K (.ref f7) = true)
    (a8 : PySem.W.nsIn K mainGlobals "law" = some (some (.ref f8))) (l8 : K.lookup f8 = some ⟨oc8, od8, .func (PySem.W.fnOf "law" "law" (defArgs slaw) (defBody slaw) (defScope slaw) .none kV8 dc8 pm8 an8 cd8 ct8), sl8⟩) (c8 : PySem.W.codeIn K cd8 "law" = true) (k8 : PySem.W.keepIn K (.ref f8) = true)
    (z_abs : PySem.W.nsIn K mainGlobals "abs" = some none)
    (z_bool : PySem.W.nsIn K mainGlobals "bool" = some none)
    (z_int : PySem.W.nsIn K mainGlobals "int" = some none)
    (z_isinstance : PySem.W.nsIn K mainGlobals "isinstance" = some none)
    (z_len : PySem.W.nsIn K mainGlobals "len" = some none)
    (z_max : PySem.W.nsIn K mainGlobals "max" = some none)
    (z_min : PySem.W.nsIn K mainGlobals "min" = some none)
    (z_range : PySem.W.nsIn K mainGlobals "range" = some none)
    (z_repr : PySem.W.nsIn K mainGlobals "repr" = some none)
    (z_str : PySem.W.nsIn K mainGlobals "str" = some none)
    (i__OUT_OF_REACH : PySem.W.nsIn K mainGlobals "_OUT_OF_REACH" = some (some (.int (lim) t__OUT_OF_REACH)))
    (i_MAX_FIGURES : PySem.W.nsIn K mainGlobals "MAX_FIGURES" = some (some (.int (400) t_MAX_FIGURES)))
    : ∃ fd : FuncData, (∀ (s : Shared) (v : Value), BindsTo s fd ⟨[v], []⟩ [("script", v)]) ∧ ∀ base : Heap, K.In base → base.Ns mainGlobals mg → FnG l.prog w K mg base CX0 4 fa fd ["script"] (spLaw K) := by
  have e := hfa.symm.trans (PySem.W.mg_of X G a8)
  cases e
  have B : Bn mg := ⟨PySem.W.mg_none_of X G z_abs, PySem.W.mg_none_of X G z_bool, PySem.W.mg_none_of X G z_int, PySem.W.mg_none_of X G z_isinstance, PySem.W.mg_none_of X G z_len, PySem.W.mg_none_of X G z_max, PySem.W.mg_none_of X G z_min, PySem.W.mg_none_of X G z_range, PySem.W.mg_none_of X G z_repr, PySem.W.mg_none_of X G z_str⟩
  have C : Cn mg := ⟨⟨_, PySem.W.mg_of X G i__OUT_OF_REACH⟩, ⟨_, PySem.W.mg_of X G i_MAX_FIGURES⟩⟩
  have FL := fun_mk (st := slaw) l8 c8 k8
  refine ⟨PySem.W.fnOf "law" "law" (defArgs slaw) (defBody slaw) (defScope slaw) .none kV8 dc8 pm8 an8 cd8 ct8, fun s v => .of_eq rfl, fun base _ _ => ?_⟩
  have F0 := fun_mk (st := sis_integer) l0 c0 k0
  have Dis_integer : Cl l.prog w K mg base 1 "is_integer" spIsI := ⟨_, _, ["value"], ok_is_integer B C F0, PySem.W.mg_of X G a0, k0, F0.binds (ps := ["value"]) fun _ _ _ _ _ _ us hl => match us, hl with | [_], _ => rfl⟩
  have F1 := fun_mk (st := sis_count) l1 c1 k1
  have Dis_count : Cl l.prog w K mg base 2 "is_count" spIsC := ⟨_, _, ["value"], ok_is_count Dis_integer F1, PySem.W.mg_of X G a1, k1, F1.binds (ps := ["value"]) fun _ _ _ _ _ _ us hl => match us, hl with | [_], _ => rfl⟩
  have F2 := fun_mk (st := sis_letter) l2 c2 k2
  have Dis_letter : Cl l.prog w K mg base 1 "is_letter" spIsL := ⟨_, _, ["value"], ok_is_letter B F2, PySem.W.mg_of X G a2, k2, F2.binds (ps := ["value"]) fun _ _ _ _ _ _ us hl => match us, hl with | [_], _ => rfl⟩
  have F3 := fun_mk (st := s_law_dice) l3 c3 k3
  have D_law_dice : Cl l.prog w K mg base 1 "_law_dice" (spDice K) := ⟨_, _, ["script", "spot"], ok_law_dice B F3, PySem.W.mg_of X G a3, k3, F3.binds (ps := ["script", "spot"]) fun _ _ _ _ _ _ us hl => match us, hl with | [_, _], _ => rfl⟩
  have F4 := fun_mk (st := s_law_roll) l4 c4 k4
  have D_law_roll : Cl l.prog w K mg base 1 "_law_roll" spRoll := ⟨_, _, ["dice", "total"], ok_law_roll B F4, PySem.W.mg_of X G a4, k4, F4.binds (ps := ["dice", "total"]) fun _ _ _ _ _ _ us hl => match us, hl with | [_, _], _ => rfl⟩
  have F5 := fun_mk (st := s_law_pick) l5 c5 k5
  have D_law_pick : Cl l.prog w K mg base 2 "_law_pick" spPick := ⟨_, _, ["dice", "items"], ok_law_pick B D_law_roll F5, PySem.W.mg_of X G a5, k5, F5.binds (ps := ["dice", "items"]) fun _ _ _ _ _ _ us hl => match us, hl with | [_, _], _ => rfl⟩
  have F6 := fun_mk (st := s_law_limit) l6 c6 k6
  have D_law_limit : Cl l.prog w K mg base 1 "_law_limit" spLimit := ⟨_, _, [], ok_law_limit  F6, PySem.W.mg_of X G a6, k6, F6.binds (ps := []) fun _ _ _ _ _ _ us hl => match us, hl with | [], _ => rfl⟩
  have F7 := fun_mk (st := s_law_number) l7 c7 k7
  have D_law_number : Cl l.prog w K mg base 3 "_law_number" spNum := ⟨_, _, ["dice"], ok_law_number D_law_roll D_law_pick D_law_limit F7, PySem.W.mg_of X G a7, k7, F7.binds (ps := ["dice"]) fun _ _ _ _ _ _ us hl => match us, hl with | [_], _ => rfl⟩
  exact ok_law B C Dis_integer Dis_count Dis_letter D_law_dice D_law_roll D_law_pick D_law_number FL
theorem walk {l : PySem.W.OpenLaw} {q : Program} {loose : List Str} {XP : (Str → Option Value) → Heap → Prop} {YP : World → Heap → Prop} {d : DefRec} {K : Params → PySem.W.Frag} (hn : l.most = some 63) (hdf : d.params.defaults = [])
    (hY : ∀ (w : World) (h : Heap), YP w h → (K w.params).In h)
    (F : ∀ (w : World) (mg : Str → Option Value) (fa : Addr) (h : Heap), (K w.params).In h → h.Ns mainGlobals mg → mg d.name = some (.ref fa) →
      ∃ fd : FuncData, (∀ (s : Shared) (u : Value), BindsTo s fd ⟨[u], []⟩ [("script", u)]) ∧ ∀ base : Heap, (K w.params).In base → base.Ns mainGlobals mg → FnG l.prog w (K w.params) mg base CX0 4 fa fd ["script"] (spLaw (K w.params))) :
    PySem.W.WalkO q loose XP YP l.row.toRowW d [] (fun f vs => PySem.call f vs) :=
  walkG (n := 63) (k := 4) (x := "script") (CX := fun _ => CX0) (sp := fun w => spLaw (K w.params)) hn (by decide) hdf ⟨rfl, by decide, by decide⟩ hY F (fun _ _ a ns hl _ hS => ⟨a, ns, rfl, hS, hl, fun _ => rfl⟩) fun _ _ _ _ _ z => z
end K00
open PySem PySem.W PyProof.Rows
set_option maxRecDepth 100000 in
set_option maxHeartbeats 0 in
theorem PySem.Challenge.cw_grownquorums_k00_integers_and_letters_holds : PySem.Challenge.rw_grownquorums_k00_integers_and_letters.Holds := by
  w_on; o_law; k_head; (case hw => w_witness2)
  k_fill
  refine K00.walk (l := PySem.Challenge.rw_grownquorums_k00_integers_and_letters) rfl rfl (fun w h Y => PySem.W.kIn_of Y) ?F
  case F =>
    intro w mg fa h KX G hmg
    refine' K00.all_mk KX G hmg ?a0 ?l0 ?c0 ?k0 ?a1 ?l1 ?c1 ?k1 ?a2 ?l2 ?c2 ?k2 ?a3 ?l3 ?c3 ?k3 ?a4 ?l4 ?c4 ?k4 ?a5 ?l5 ?c5 ?k5 ?a6 ?l6 ?c6 ?k6 ?a7 ?l7 ?c7 ?k7 ?a8 ?l8 ?c8 ?k8 ?z_abs ?z_bool ?z_int ?z_isinstance ?z_len ?z_max ?z_min ?z_range ?z_repr ?z_str ?i__OUT_OF_REACH ?i_MAX_FIGURES
    (case a0 => k_is)
    (case l0 => k_is)
    (case c0 => k_is)
    (case k0 => k_is)
    (case a1 => k_is)
    (case l1 => k_is)
    (case c1 => k_is)
    (case k1 => k_is)
    (case a2 => k_is)
    (case l2 => k_is)
    (case c2 => k_is)
    (case k2 => k_is)
    (case a3 => k_is)
    (case l3 => k_is)
    (case c3 => k_is)
    (case k3 => k_is)
    (case a4 => k_is)
    (case l4 => k_is)
    (case c4 => k_is)
    (case k4 => k_is)
    (case a5 => k_is)
    (case l5 => k_is)
    (case c5 => k_is)
    (case k5 => k_is)
    (case a6 => k_is)
    (case l6 => k_is)
    (case c6 => k_is)
    (case k6 => k_is)
    (case a7 => k_is)
    (case l7 => k_is)
    (case c7 => k_is)
    (case k7 => k_is)
    (case a8 => k_is)
    (case l8 => k_is)
    (case c8 => k_is)
    (case k8 => k_is)
    (case z_abs => k_is)
    (case z_bool => k_is)
    (case z_int => k_is)
    (case z_isinstance => k_is)
    (case z_len => k_is)
    (case z_max => k_is)
    (case z_min => k_is)
    (case z_range => k_is)
    (case z_repr => k_is)
    (case z_str => k_is)
    (case i__OUT_OF_REACH => k_is)
    (case i_MAX_FIGURES => k_is)
