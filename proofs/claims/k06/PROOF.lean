import PyProof.Rows.All
import Wide.All
import OpenK.AllK
import Wide.FinOn
import HandS.ForMost
import HandS.ForExc
import HandS.IsInst
import HandS.Wide
import HandS.Evl
import PyProof.ReprRoads
import HandS.TupSets
import HandS.SortOrd
import HandS.SetFor
import HandS.TupAny
import HandS.Zip
import HandS.FStrTup
import HandS.NoneIn
import HandS.Strs
import HandS.Sort
import HandS.SortInts
import HandS.Comp
import PyProof.SeqIndex
import HandS.Exc
import HandS.TryOnly
import PySem.Challenge.RW_grownquorums_k06_whole_completed_familie
set_option Elab.async false
set_option linter.all false
set_option maxRecDepth 100000
set_option maxHeartbeats 2000000
/-! Own base: defs that want the guards known (repr of containers), repr, powers of great ints. -/
namespace Gq
open PySem PySem.Spec PyProof.Rows L2

/-- a def's promise where no repr is under way around its call -/
structure FnG (P : Program) (w : World) (K : PySem.W.Frag) (mg : Str → Option Value) (base : Heap)
    (CX : CXT) (k : Nat) (f : Addr) (fd : FuncData) (ps : List Str) (sp : Sp) : Prop where
  lenG : ∀ vs H Q E, sp vs H Q E → vs.length = ps.length
  runG : ∀ (A : Around) (outer : List Env) (s : Shared) (H : Hp) (args : Args) (us : List Value)
    (vs : List V) (Q : VK) (E : XK), A.guards = some [] → Room k A → Env0 P w K mg base A outer s H →
    BindsTo s fd args (ps.zip us) → Vals vs us → sp vs H Q E →
    codeAny (model P w) A (.call (.ref f) args) (CR CX outer P w H s Q E) s

theorem FnG.of {P : Program} {w : World} {K : PySem.W.Frag} {mg : Str → Option Value} {base : Heap}
    {CX : CXT} {k : Nat} {f : Addr} {fd : FuncData} {ps : List Str} {sp : Sp}
    (F : FnOk P w K mg base CX k f fd ps sp) : FnG P w K mg base CX k f fd ps sp :=
  ⟨F.len, fun A outer s H args us vs Q E _ => F.run A outer s H args us vs Q E⟩

/-- a def of the text, by its body, the guards known -/
theorem okG {CX : CXT} {P : Program} {w : World} {K : PySem.W.Frag} {mg : Str → Option Value} {base : Heap}
    {x qual : Str} {st : Stmt} {f : Addr} {fd : FuncData} {N ps : List Str} {k : Nat} {sp : Sp}
    (F : Fun K x qual st f fd) (S : FnScope N ps (defScope st))
    (len : ∀ vs H Q E, sp vs H Q E → vs.length = ps.length)
    (body : ∀ (cdv : Value) (A : Around) (outer : List Env) (s : Shared) (H : Hp) (vs : List V) (Q : VK) (E : XK),
      A.guards = some [] → Room k (A.deeper (envOfC qual (defScope st) s.heap.objs.size f cdv)) → sp vs H Q E →
      ∃ t, PSs (cxOf CX P w K mg base N qual (defScope st) f cdv A outer s H E) (defBody st) t ∧
        t { nx := fun _ H' => Q .non H', rt := Q } (start N vs) H) :
    FnG P w K mg base CX (k + 1) f fd ps sp := by
  obtain ⟨oc, od, kV, doc, pm, an, cdv, ct, osl, rfl, lk, hcd⟩ := F.ex
  refine ⟨len, ?_⟩
  intro A outer s H args us vs Q E hg hr e0 hb r hsp
  have l1 := len _ _ _ _ hsp
  have inK : K.In s.heap := e0.mod.kin.keeps (fun b o e => (e0.bs b o e).1)
  have nl : s.heap.NoLimit := e0.mod.nolimit.keeps (fun b o e => (e0.bs b o e).1)
  refine codeAny_call_function hr.depth (inK _ _ lk) rfl S.co S.gen rfl (PySem.W.codeRec_of inK hcd) (hb _ _ _ _ ?_)
  refine wpAny_newFunctionEnv_cells S.kind (fun y hy => ?_) (fun env he s1 x => ?_)
  · obtain ⟨n, v⟩ := y
    have z := S.par n (List.of_mem_zip hy).1
    cases z with
    | inl q => exact Or.inl q
    | inr q => exact Or.inr ⟨q, PySem.W.cellsFrom_some _ _ _ (Or.inl q)⟩
  · subst he
    refine ⟨nl.keeps x.toInCall.keep, codeAny_func ?_⟩
    obtain ⟨t, ht, hq⟩ := body cdv A outer s H vs Q E hg (hr.deeper _) hsp
    have I : Inv (cxOf CX P w K mg base N qual (defScope st) f cdv A outer s H E) [] (start N vs) H s1 :=
      inv_start S hr.hd e0 l1 r x
    refine wpAny_mono (ht.run [] s1 (start N vs) H _ I hq) ?_ (fun e s' hs => hs)
    intro fl s' hs
    cases fl with
    | ret u =>
      obtain ⟨v, σ', H', J, rv, q⟩ := hs
      exact ⟨v, H', J.os, J.bare, J.base, J.hok, rv, q⟩
    | next =>
      obtain ⟨σ', H', J, q⟩ := hs
      exact ⟨V.non, H', J.os, J.bare, J.base, J.hok, rfl, q⟩
    | brk => obtain ⟨_, _, _, q⟩ := hs; exact q.elim
    | cont => obtain ⟨_, _, _, q⟩ := hs; exact q.elim

section
variable {X : Cx}
theorem runG_fn {CX : CXT} {k : Nat} {f : Addr} {fd : FuncData} {ps : List Str} {sp : Sp} {ds : List Value}
    {dvs : List V} {E : XK} {pins : List (Addr × Obj)} {σ : L2.St} {H : Hp} {s : Shared} {Q : VK} {us : List Value} {vs : List V}
    (F : FnG X.prog X.w X.K X.mg X.base CX k f fd ps sp) (hg : X.A.guards = some []) (hr : Room k X.A)
    (hb : Binds X.K fd ps ds) (hd : Vals dvs ds) (hx : Passes CX X E)
    (I : Inv X pins σ H s) (r : Vals vs us) (h : sp (vs ++ dvs) H Q E) :
    wpAny (model X.prog X.w) X.A (call (.ref f) us) (EP X pins σ Q) X.xe s := by
  have r2 : Vals (vs ++ dvs) (us ++ ds) := r.append hd
  have l2 : (us ++ ds).length = ps.length := r2.length.symm.trans (F.lenG _ _ _ _ h)
  have z := F.runG X.A X.stack s H ⟨us, []⟩ (us ++ ds) (vs ++ dvs) Q E hg hr I.env0 (hb s us I.kIn l2) r2 h
  refine wpAny_call (codeAny_mono z ?_)
  intro r s' hq
  match r, hq with
  | .error e, hq => exact hx pins σ H s e s' I hq
  | .ok (.ret u), hq => exact I.after hq
  | .ok .next, hq => exact hq.elim
  | .ok .brk, hq => exact hq.elim
  | .ok .cont, hq => exact hq.elim

theorem pe_callG {CX : CXT} {k : Nat} {f : Addr} {fd : FuncData} {ps : List Str} {sp : Sp} {ds : List Value}
    {dvs : List V} {E : XK} {x : Str} {p pos : Pos} {e : Expr} {es : List Expr} {t : TA}
    (F : FnG X.prog X.w X.K X.mg X.base CX k f fd ps sp) (gd : X.A.guards = some []) (hr : Room k X.A) (hg : Gl X x)
    (hm : X.mg x = some (.ref f)) (hk : PySem.W.keepIn X.K (.ref f) = true)
    (hb : Binds X.K fd ps ds) (hd : Vals dvs ds) (hx : Passes CX X E) (ha : PA X (e :: es) t)
    (hdb : (x == ("__debug__" : Str)) = false := by decide)
    (he : starEach (e :: es) X.env = (false, eval e X.env) :: starEach es X.env := by rfl)
    (hpl : (backTo pos (starEach es X.env)).any (·.1) = false := by rfl) :
    PE X (.Call (.Name x p) (e :: es) [] pos) (tCall sp dvs E t) := by
  constructor
  intro pins s σ H Q I h
  apply wpAny_Call_Name_kw
  refine ld_glob I hg hm ?_ hdb
  refine PySem.W.callWith_K (h₀ := X.base) I.ok.mod.kin hk ?_ he hpl
  refine thn (ha.run pos pins s σ H _ I h) ?_
  intro us s1 q0
  obtain ⟨vs, H1, I1, r, q⟩ := q0
  exact ⟨I1.kIn, runG_fn F gd hr hb hd hx I1 r q⟩

/-- repr of lists and tuples, nested -/
def rReprD (K : PySem.W.Frag) : List V → Hp → VK → Prop := fun xs H Q =>
  ∃ (a : Addr) (d : PyData), xs = [.ref a] ∧ Dp K H (.ref a) d ∧ d.showable = true ∧ d.hasDict = false ∧ d.depth ≤ 60 ∧
    d.shown.length ≤ sizeLine ∧ Q (.str d.shown) H
theorem call_reprD (hg : X.A.guards = some []) (hu : X.A.units + 64 < cLine) : CallR X (.builtin "repr") (rReprD X.K) := by
  intro pins s σ H xs us Q I r h
  obtain ⟨a, d, rfl, hd, hs, hn, hz, hl, q⟩ := h
  obtain ⟨u, rfl, hu1⟩ := vals1 r
  obtain ⟨as, r1⟩ := Dp.reads I d (.ref a) u hd hu1
  cases (show u = Value.ref a from hu1)
  exact repr_of_reads' r1 hs (PyData.noDict_hsm hn) hg (by omega) (fun _ _ e => e)
    (fun h' u tk hk => ⟨.str _, H, I.kept hk, ⟨_, rfl⟩, q⟩) hl

/-- a ** n of a great base -/
def CPowW (i j : Int) : Prop := 0 ≤ j ∧ (Builtin.Int.intBits i : Int) * j ≤ 2 ^ 27
theorem op_powW : OpR X (binaryOp .Pow) (rI CPowW fun i j => .int (i ^ j.toNat)) := opI fun _ _ _ _ _ _ _ hc q => pow_int hc.1 hc.2 q
end

/-- the law's own call, its def with the guards known -/
theorem lawG {P : Program} {w : World} {K : PySem.W.Frag} {mg mb : Str → Option Value} {CX : CXT} {k : Nat} {fa a : Addr}
    {fd : FuncData} {x : Str} {sp : Sp} {s₁ : Shared} {vs : List Value} {ns : List Int}
    (KX : K.In s₁.heap) (hns : s₁.heap.Ns mainGlobals mg) (hb : s₁.heap.Ns builtinsNs mb)
    (hbb : ∀ x : Str, x ≠ "__name__" → mb x = bootBuiltins x) (hlim : s₁.heap.NoLimit) (hg : s₁.gens = #[])
    (ha : s₁.heap.get? a = some { cls := .type "list", data := .seq vs.toArray }) (hi : IntsAre vs ns)
    (hl : ns.length ≤ sizeLine) (hr : Room k callerA)
    (F : ∀ base : Heap, K.In base → base.Ns mainGlobals mg → FnG P w K mg base CX k fa fd [x] sp)
    (hbind : ∀ (s : Shared) (u : Value), BindsTo s fd ⟨[u], []⟩ [(x, u)])
    (hsp : ∀ H : Hp, Only H → SqL K H a (ns.map V.int) → sp [.ref a] H (fun v _ => v = .bl true) fun _ _ _ => False)
    (hCX : ∀ H e s', CX [] H s₁ (fun _ _ _ => False) e s' → False) :
    codeAny (model P w) callerA (.call (.ref fa) ⟨[.ref a], []⟩)
      (fun r s' => r = .ok (.ret (.bool true)) ∧ OldK s₁.heap s'.heap ∧ s'.os = s₁.os ∧ AllBare s'.gens) s₁ := by
  let o0 : Obj := { cls := .type "list", data := .seq vs.toArray }
  have rv := vals_ints hi
  have lv := hi.length
  have run : ∀ H : Hp, Only H → SqL K H a (ns.map V.int) → HOk P w H s₁.heap → (∀ b u, H b = some u → b = a ∧ K.lookup a = none) →
      codeAny (model P w) callerA (.call (.ref fa) ⟨[.ref a], []⟩)
        (fun r s' => r = .ok (.ret (.bool true)) ∧ OldK s₁.heap s'.heap ∧ s'.os = s₁.os ∧ AllBare s'.gens) s₁ := by
    intro H hO hS hok hA
    have dictFree : ∀ {b : Addr} {o : Obj} {es : Array DictEntry} {ep : Nat},
        s₁.heap.get? b = some o → o.data = .dict es ep → H b = none := by
      intro b o es ep e d
      rcases hb1 : H b with _ | u
      · rfl
      · obtain ⟨rfl, _⟩ := hA b u hb1
        rw [ha] at e
        cases e
        cases d
    have ns1 : ∀ {b : Addr} {m : Str → Option Value}, s₁.heap.Ns b m → (hidT s₁.heap H).Ns b m := by
      intro b m z
      obtain ⟨o, es, ep, e, d, r⟩ := z
      exact ⟨o, es, ep, hidT_get e (dictFree e d), d, r⟩
    have kin : K.In (hidT s₁.heap H) := by
      intro b o e
      refine hidT_get (KX b o e) ?_
      rcases hb1 : H b with _ | u
      · rfl
      · obtain ⟨rfl, n1⟩ := hA b u hb1
        rw [n1] at e
        cases e
    obtain ⟨mc, c1, c2⟩ := hlim
    have md : Mod K mg (hidT s₁.heap H) := ⟨kin, ns1 hns, ⟨mb, ns1 hb, hbb⟩, ⟨mc, ns1 c1, c2⟩⟩
    have env : Env0 P w K mg (hidT s₁.heap H) callerA [] s₁ H :=
      ⟨rfl, md, fun b o e => of_hidT e, Nat.le_of_eq (hidT_size _ _), trivial, fun b hb => absurd (show b ∈ ([] : List Addr) from hb) List.not_mem_nil, hok, AllBare.of_eq hg⟩
    have go := (F _ kin (ns1 hns)).runG callerA [] s₁ H ⟨[.ref a], []⟩ [.ref a] [.ref a] _ _ rfl hr env
      (hbind s₁ (.ref a)) (.cons rfl .nil) (hsp H hO hS)
    refine codeAny_mono go ?_
    intro r s' h
    match r, h with
    | .error e, h => exact (hCX H e s' h).elim
    | .ok .next, h => exact h.elim
    | .ok .brk, h => exact h.elim
    | .ok .cont, h => exact h.elim
    | .ok (.ret u), h =>
      obtain ⟨v, H', os, bare, un, hok', r', q⟩ := h
      cases (show v = .bl true from q)
      cases (show u = Value.bool true from r')
      refine ⟨rfl, OldK.of_keep ?_, os, bare⟩
      intro b o e
      rcases hb1 : H b with _ | u
      · exact un.keep b o e hb1 (fun z => absurd (show b ∈ ([] : List Addr) from z) List.not_mem_nil) List.not_mem_nil
      · rcases hO b with z | ⟨ob, xs, z⟩
        · rw [hb1] at z
          cases z
        · obtain ⟨e1, _⟩ := hok b _ z
          obtain ⟨e2, _⟩ := hok' b _ (un.frzs b ob _ z)
          rw [e] at e1
          cases e1
          exact e2
  rcases hk : K.lookup a with _ | o
  · have at1 : ∀ b u, (fun b => if b = a then some (HO.frz o0 (.lst (ns.map V.int))) else none : Hp) b = some u → b = a ∧ u = HO.frz o0 (.lst (ns.map V.int)) := by
      intro b u z
      by_cases hb1 : b = a
      · refine ⟨hb1, ?_⟩
        have z1 := (if_pos hb1).symm.trans z
        cases z1
        rfl
      · have z1 := (if_neg hb1).symm.trans z
        cases z1
    refine run (fun b => if b = a then some (.frz o0 (.lst (ns.map V.int))) else none) ?_ (.inl (.inr ⟨o0, if_pos rfl⟩)) ?_ (fun b u z => ⟨(at1 b u z).1, hk⟩)
    · intro b
      by_cases hb1 : b = a
      · exact .inr ⟨_, _, if_pos hb1⟩
      · exact .inl (if_neg hb1)
    · intro b u z
      obtain ⟨rfl, rfl⟩ := at1 b u z
      exact ⟨ha, by rw [List.length_map]; exact hl, vs, _, rv, ha⟩
  · have e := KX a o hk
    rw [ha] at e
    cases e
    refine run (fun _ => none) (fun _ => .inl rfl) (.inr ⟨_, vs.toArray, _, hk, rfl, rfl, rfl, ?_, ?_⟩) (fun b u z => ?_) (fun b u z => ?_)
    · rw [List.size_toArray, lv]
      exact hl
    · simpa using rv
    · cases (show (none : Option HO) = some u from z)
    · cases (show (none : Option HO) = some u from z)

theorem walkG {l : PySem.W.OpenLaw} {n k : Nat} {q : Program} {loose : List Str} {XP : (Str → Option Value) → Heap → Prop}
    {YP : World → Heap → Prop} {d : DefRec} {K : Params → PySem.W.Frag} {CX : World → CXT} {sp : World → Sp} {x : Str}
    (hn : l.most = some n) (hn2 : n ≤ sizeLine) (hdf : d.params.defaults = []) (hr : Room k callerA)
    (hY : ∀ (w : World) (h : Heap), YP w h → (K w.params).In h)
    (F : ∀ (w : World) (mg : Str → Option Value) (fa : Addr) (h : Heap), (K w.params).In h → h.Ns mainGlobals mg →
      mg d.name = some (.ref fa) → ∃ fd : FuncData, (∀ (s : Shared) (u : Value), BindsTo s fd ⟨[u], []⟩ [(x, u)]) ∧
        ∀ base : Heap, (K w.params).In base → base.Ns mainGlobals mg → FnG l.prog w (K w.params) mg base (CX w) k fa fd [x] (sp w))
    (hsp : ∀ (w : World) (H : Hp) (a : Addr) (ns : List Int), ns.length ≤ n → Only H → SqL (K w.params) H a (ns.map V.int) →
      sp w [.ref a] H (fun v _ => v = .bl true) fun _ _ _ => False)
    (hCX : ∀ (w : World) (H : Hp) (s : Shared) (e : Value) (s' : Shared), CX w [] H s (fun _ _ _ => False) e s' → False) :
    PySem.W.WalkO q loose XP YP l.row.toRowW d [] (fun f vs => PySem.call f vs) := by
  apply Att.attach_call hn hdf
  intro w s₀ s₁ mg mb fa o pm cd doc a vs ns G Y ho hd hcd hmg hobj hints hlen hg
  have KX := hY w _ Y
  obtain ⟨fd, hb, hF⟩ := F w mg fa _ KX G.T.g hmg
  exact lawG KX G.T.g G.T.b G.T.builtins G.T.nolimit hg hobj hints (Nat.le_trans hlen hn2) hr hF hb
    (fun H hO hS => hsp w H a ns hlen hO hS) (fun H e s' => hCX w H s₁ e s')
end Gq
set_option Elab.async false
set_option linter.all false
set_option maxRecDepth 100000
set_option maxHeartbeats 2000000
/-! Own base 2: kinds of values, the law's dice. -/
namespace Gq
open PySem PySem.Spec PyProof.Rows L2

/-- the same where no exception leaves it -/
theorem okG0 {P : Program} {w : World} {K : PySem.W.Frag} {mg : Str → Option Value} {base : Heap}
    {x qual : Str} {st : Stmt} {f : Addr} {fd : FuncData} {N ps : List Str} {k : Nat} {sp : Sp}
    (F : Fun K x qual st f fd) (S : FnScope N ps (defScope st))
    (len : ∀ vs H Q E, sp vs H Q E → vs.length = ps.length)
    (body : ∀ (cdv : Value) (A : Around) (outer : List Env) (s : Shared) (H : Hp) (vs : List V) (Q : VK) (E : XK),
      A.guards = some [] → Room k (A.deeper (envOfC qual (defScope st) s.heap.objs.size f cdv)) → sp vs H Q E →
      ∃ t, PSs (cxOf CX0 P w K mg base N qual (defScope st) f cdv A outer s H E).nox (defBody st) t ∧
        t { nx := fun _ H' => Q .non H', rt := Q } (start N vs) H) :
    FnG P w K mg base CX0 (k + 1) f fd ps sp :=
  okG F S len fun cdv A outer s H vs Q E hg hr h => by
    obtain ⟨t, h1, h2⟩ := body cdv A outer s H vs Q E hg hr h
    exact ⟨t, h1.nox, h2⟩
/-- a def of the text, found by its name, with its promise -/
structure Cl (P : Program) (w : World) (K : PySem.W.Frag) (mg : Str → Option Value) (base : Heap) (k : Nat) (x : Str) (sp : Sp) : Prop where
  here : ∃ (f : Addr) (fd : FuncData) (ps : List Str), FnOk P w K mg base CX0 k f fd ps sp ∧ mg x = some (.ref f) ∧
    PySem.W.keepIn K (.ref f) = true ∧ Binds K fd ps []
section
variable {X : Cx} {k j : Nat} {x : Str} {sp : Sp} {p pos : Pos} {e : Expr} {es : List Expr} {t : TA}
theorem pe_c (c : Cl X.prog X.w X.K X.mg X.base k x sp) (hr : Room j X.A) (hk : k ≤ j) (hg : Gl X x) (ha : PA X (e :: es) t)
    (hdb : (x == ("__debug__" : Str)) = false := by decide)
    (he : starEach (e :: es) X.env = (false, eval e X.env) :: starEach es X.env := by rfl)
    (hpl : (backTo pos (starEach es X.env)).any (·.1) = false := by rfl) : PE X (.Call (.Name x p) (e :: es) [] pos) (tCall sp [] E0 t) := by
  obtain ⟨f, fd, ps, F, hm, kp, b⟩ := c.here
  exact pe_call F (hr.mono hk) hg hm kp b .nil pass0 ha hdb he hpl
theorem pe_c0 (c : Cl X.prog X.w X.K X.mg X.base k x sp) (hr : Room j X.A)
    (hk : k ≤ j) (hg : Gl X x) (hdb : (x == ("__debug__" : Str)) = false := by decide) : PE X (.Call (.Name x p) [] [] pos) (tCall sp [] E0 tNil) := by
  obtain ⟨f, fd, ps, F, hm, kp, b⟩ := c.here
  exact pe_call0 F (hr.mono hk) hg hm kp b .nil pass0 hdb
end

section
variable {X : Cx} {x : Str} {p : Pos}
theorem pe_ty {T : String} (hg : Gl X x) (hm : X.mg x = none) (hv : bootBuiltins x = some (.type T)) (hn : x ≠ "__name__" := by decide) (hd : (x == ("__debug__" : Str)) = false := by decide) : PE X (.Name x p) (tC (.ty T)) :=
  pe_bltn (v := .ty T) hg hm hv rfl hn hd
theorem pe_gi {i : Int} (hg : Gl X x) (hm : ∃ t, X.mg x = some (.int i t)) (hd : (x == ("__debug__" : Str)) = false := by decide) : PE X (.Name x p) (tC (.int i)) := by
  obtain ⟨t, h⟩ := hm
  exact pe_glob (v := .int i) hg h ⟨t, rfl⟩ hd
end
/-- a value and its class, of the kinds that the laws draw -/
inductive Vk (H : Hp) : V → String → Prop
  | non : Vk H .non "NoneType"
  | bl (b : Bool) : Vk H (.bl b) "bool"
  | int (i : Int) : Vk H (.int i) "int"
  | str (z : Str) : Vk H (.str z) "str"
  | lst {a : Addr} {xs : List V} (h : H a = some (.lst xs)) : Vk H (.ref a) "list"
  | tup {a : Addr} {xs : List V} (h : H a = some (.tup xs)) : Vk H (.ref a) "tuple"
  | dK {a : Addr} {kvs : List (Key × V)} (h : H a = some (.dK kvs)) : Vk H (.ref a) "dict"
theorem Vk.ty {K : PySem.W.Frag} {H : Hp} {x : V} {n : String} (h : Vk H x n) : TyX K H x (.type n) := by
  cases h with
  | non => exact .base .non
  | bl b => exact .base (.bl b)
  | int i => exact .base (.int i)
  | str z => exact .base (.str z)
  | lst h => exact .base (.lst h)
  | tup h => exact .base (.tup h)
  | dK h => exact .base (.dK h)
theorem Vk.same {H H' : Hp} {x : V} {n : String} (h : Vk H x n) (s : Same H H') : Vk H' x n := by
  cases h with
  | non => exact .non
  | bl b => exact .bl b
  | int i => exact .int i
  | str z => exact .str z
  | lst h => exact .lst (s _ _ h)
  | tup h => exact .tup (s _ _ h)
  | dK h => exact .dK (s _ _ h)
/-- isinstance(x, T), x of a known class -/
theorem isi_at {K : PySem.W.Frag} {H : Hp} {x : V} {n T : String} {b : Bool} {Q : VK} (h : Vk H x n) (e : kitB n T = some b) (q : Q (.bl b) H) :
    rIsi K [x, .ty T] H Q := ⟨x, .ty T, _, _, b, rfl, .ty T, h.ty, kit_ty e, q⟩

theorem same_upd {H : Hp} {p : Addr} {o : HO} (h : H p = none) : Same H (upd H p o) := fun b x e => by
  rw [upd_ne (ne_of_none e h)]
  exact e

/-! ### integers -/
def lim : Int := (10 ^ 50) ^ 8
def isI : V → Bool
  | .int i => decide (-lim < i) && decide (i < lim)
  | _ => false
def spIsI : Sp := fun vs H Q _ => ∃ x n, vs = [x] ∧ Vk H x n ∧ Q (.bl (isI x)) H

/-! ### dice -/
def Dice (H : Hp) (p : Addr) : Prop := ∃ a b c : Int, H p = some (.lst [.int a, .int b, .int c])
/-- all but the dice at p as it was, the dice still dice -/
def Roll (p : Addr) (H H' : Hp) : Prop := Dice H' p ∧ ∀ q o, q ≠ p → H q = some o → H' q = some o
def spRoll : Sp := fun vs H Q _ => ∃ p n, vs = [.ref p, .int n] ∧ Dice H p ∧ 0 < n ∧ n.natAbs < 2 ^ 8000 ∧
  ∀ r H', 0 ≤ r → r < n → Roll p H H' → Q (.int r) H'
theorem Roll.refl {p : Addr} {H : Hp} (h : Dice H p) : Roll p H H := ⟨h, fun _ _ _ e => e⟩
theorem Roll.trans {p : Addr} {H H1 H2 : Hp} (a : Roll p H H1) (b : Roll p H1 H2) : Roll p H H2 := ⟨b.1, fun q o n e => b.2 q o n (a.2 q o n e)⟩
theorem Roll.dice {p : Addr} {H H' : Hp} (a : Roll p H H') : Dice H' p := a.1
theorem Roll.new {p q : Addr} {H : Hp} {o : HO} (d : Dice H p) (h : H q = none) : Roll p H (upd H q o) := by
  obtain ⟨a, b, c, e⟩ := d
  exact ⟨⟨a, b, c, same_upd h _ _ e⟩, fun r u _ g => same_upd h _ _ g⟩
theorem Roll.set {p : Addr} {H : Hp} (a b c : Int) : Roll p H (upd H p (.lst [.int a, .int b, .int c])) :=
  ⟨⟨a, b, c, upd_same⟩, fun q o n e => by rw [upd_ne n]; exact e⟩
theorem Roll.same {p : Addr} {H0 H H' : Hp} (n : H0 p = none) (s : Same H0 H) (r : Roll p H H') : Same H0 H' := fun q o e => r.2 q o (ne_of_none e n) (s q o e)
theorem same_new {H0 H : Hp} {q : Addr} {o : HO} (s : Same H0 H) (h : H q = none) : Same H0 (upd H q o) := s.trans (same_upd h)
theorem same_upd2 {H : Hp} {q : Addr} {o o' : HO} (h : H q = none) : Same H (upd (upd H q o) q o') := fun b x e => by
  rw [upd_ne (ne_of_none e h), upd_ne (ne_of_none e h)]
  exact e
theorem Vk.roll {p : Addr} {H H' : Hp} {v : V} {n : String} (h : Vk H v n) (r : Roll p H H') (ne : v ≠ .ref p) : Vk H' v n := by
  cases h with
  | non => exact .non
  | bl b => exact .bl b
  | int i => exact .int i
  | str z => exact .str z
  | lst h => exact .lst (r.2 _ _ (fun z => ne (by rw [z])) h)
  | tup h => exact .tup (r.2 _ _ (fun z => ne (by rw [z])) h)
  | dK h => exact .dK (r.2 _ _ (fun z => ne (by rw [z])) h)
theorem Dice.same {p : Addr} {H H' : Hp} (d : Dice H p) (s : Same H H') : Dice H' p := by
  obtain ⟨a, b, c, e⟩ := d
  exact ⟨a, b, c, s _ _ e⟩
theorem Dice.ne {p q : Addr} {H : Hp} (d : Dice H p) (h : H q = none) : q ≠ p := by
  obtain ⟨a, b, c, e⟩ := d
  exact fun z => by
    rw [z, e] at h
    cases h
theorem Dice.lst {p : Addr} {H : Hp} (d : Dice H p) : ∃ xs, H p = some (.lst xs) := let ⟨_, _, _, e⟩ := d; ⟨_, e⟩
theorem ne_dice {p q : Addr} {H : Hp} {o : HO} (d : Dice H p) (h : H q = some o) (n : ∀ a b c : Int, o ≠ .lst [.int a, .int b, .int c]) : q ≠ p := fun e => by
  obtain ⟨a, b, c, z⟩ := d
  rw [e, z] at h
  exact n a b c (Option.some.inj h).symm
theorem pick_le {r : Int} {n : Nat} (h0 : 0 ≤ r) (h1 : r < (n : Int)) : ∃ j : Nat, r = (j : Int) ∧ j < n := ⟨r.toNat, by omega, by omega⟩
def spDice (K : PySem.W.Frag) : Sp := fun vs H Q _ => ∃ (a : Addr) (ns : List Int) (i : Int), vs = [.ref a, .int i] ∧ SqL K H a (ns.map V.int) ∧ 0 ≤ i ∧
  ∀ p H', Same H H' → H p = none → Dice H' p → Q (.ref p) H'
def spPick : Sp := fun vs H Q _ => ∃ (p l : Addr) (xs : List V), vs = [.ref p, .ref l] ∧ Dice H p ∧ H l = some (.lst xs) ∧ l ≠ p ∧ 0 < xs.length ∧ xs.length ≤ 1000 ∧
  ∀ v H', v ∈ xs → Roll p H H' → Q v H'
def spLimit : Sp := fun vs H Q _ => vs = [] ∧ Q (.int lim) H
theorem at_mem {α : Type} {xs : List α} {r : Int} (h0 : 0 ≤ r) (h1 : r < (xs.length : Int)) : ∃ v, atI xs r = some v ∧ v ∈ xs := by
  obtain ⟨j, rfl, hj⟩ := pick_le h0 h1
  exact ⟨xs[j], atI_nat (List.getElem?_eq_getElem hj), List.getElem_mem hj⟩
end Gq
set_option Elab.async false
set_option linter.all false
set_option maxRecDepth 100000
set_option maxHeartbeats 2000000
/-! Own base 3: sorted(set(..)) of tuples of ints of any lengths, none empty. -/
namespace Gq
open PySem PySem.Spec PyProof.Rows L2

/-! ### the tuples' order -/
def lexLt := HT.lexLt
theorem lex_cons (x y : Int) (xs ys : List Int) : lexLt (x :: xs) (y :: ys) = if x = y then lexLt xs ys else decide (x < y) := rfl
theorem lex_asym : ∀ xs ys : List Int, lexLt xs ys = true → lexLt ys xs = false
  | [], [], h => by cases h
  | [], _ :: _, _ => rfl
  | _ :: _, [], h => by cases h
  | x :: xs, y :: ys, h => by
    rw [lex_cons] at h ⊢
    by_cases e : x = y
    · rw [if_pos e] at h
      rw [if_pos e.symm]
      exact lex_asym xs ys h
    · rw [if_neg e] at h
      rw [if_neg (fun z => e z.symm)]
      exact decide_eq_false (by have := of_decide_eq_true h; omega)
theorem lex_tr : ∀ xs ys zs : List Int, lexLt ys xs = false → lexLt zs ys = false → lexLt zs xs = false
  | [], _, [], _, _ => rfl
  | [], _, _ :: _, _, _ => rfl
  | _ :: _, [], _, h, _ => by cases h
  | _ :: _, _ :: _, [], _, h => by cases h
  | x :: xs, y :: ys, z :: zs, h1, h2 => by
    rw [lex_cons] at h1 h2 ⊢
    by_cases e : y = x
    · rw [if_pos e] at h1
      by_cases e2 : z = y
      · rw [if_pos e2] at h2
        rw [if_pos (e2.trans e)]
        exact lex_tr xs ys zs h1 h2
      · rw [if_neg e2] at h2
        rw [if_neg (fun q => e2 (q.trans e.symm))]
        exact decide_eq_false (by have := of_decide_eq_false h2; omega)
    · rw [if_neg e] at h1
      have g1 := of_decide_eq_false h1
      by_cases e2 : z = y
      · rw [if_neg (fun q => e (e2.symm.trans q))]
        exact decide_eq_false (by omega)
      · rw [if_neg e2] at h2
        have g2 := of_decide_eq_false h2
        rw [if_neg (by omega)]
        exact decide_eq_false (by omega)
theorem lex_tot : ∀ xs ys : List Int, lexLt xs ys = false → lexLt ys xs = false → xs = ys
  | [], [], _, _ => rfl
  | [], _ :: _, h, _ => by cases h
  | _ :: _, [], _, h => by cases h
  | x :: xs, y :: ys, h1, h2 => by
    rw [lex_cons] at h1 h2
    by_cases e : x = y
    · rw [if_pos e] at h1
      rw [if_pos e.symm] at h2
      rw [e, lex_tot xs ys h1 h2]
    · rw [if_neg e] at h1
      rw [if_neg (fun q => e q.symm)] at h2
      have g1 := of_decide_eq_false h1
      have g2 := of_decide_eq_false h2
      omega
theorem lex_swo (k : Value → List Int) : SrtO.Swo fun v u => lexLt (k v) (k u) :=
  ⟨fun x y => lex_asym _ _, fun x y z => lex_tr _ _ _⟩

section
variable {prog : Program} {w : World} {A : Around} {E : Value → Shared → Prop} {s : Shared}
theorem lex_run : ∀ {vs us : List Value} {xs ys : List Int}, IntsAre vs xs → IntsAre us ys → ∀ (fin : Bool) (Q : Bool → Shared → Prop) (i : Nat),
    fin = decide (xs.length < ys.length) → Q (lexLt xs ys) s → PySem.W.KatLex prog w A true fin Q (vs.zip us) i s
  | _, _, _, _, .nil, .nil, fin, Q, i, hf, q => PySem.W.kat_nil (by rw [hf]; exact q)
  | _, _, _, _, .nil, .cons y t r, fin, Q, i, hf, q => PySem.W.kat_nil (by rw [hf, show decide (([] : List Int).length < (y :: _).length) = true from decide_eq_true (Nat.succ_pos _)]; exact q)
  | _, _, _, _, .cons x t r, .nil, fin, Q, i, hf, q => PySem.W.kat_nil (by rw [hf, show decide ((x :: _).length < ([] : List Int).length) = false from decide_eq_false (Nat.not_lt_zero _)]; exact q)
  | _, _, _, _, .cons x t r, .cons y u r2, fin, Q, i, hf, q => by
    refine PySem.W.kat_cons (SeqAt.EqAt.int_int x t y u prog w _ _ ?_)
    rw [lex_cons] at q
    refine PySem.W.kat_go (fun e1 => ?_) (fun e1 => ?_)
    · have ex : x = y := by simpa using e1
      rw [if_pos ex] at q
      refine PySem.W.kat_yes (lex_run r r2 fin Q (i + 1) ?_ q)
      rw [hf]
      simp only [List.length_cons, Nat.add_lt_add_iff_right]
    · have ex : ¬ x = y := by simpa using e1
      rw [if_neg ex] at q
      exact PySem.W.kat_no (TS.oneLt_ints _ q)
theorem tups_cmp {vs : List Value} {k : Value → List Int} (hp : ∀ v ∈ vs, TS.TupInts s.heap v (k v)) :
    SrtO.Cmp prog w A s (tuples' true) (fun p => p.1 ∈ vs) (SrtO.lt2 fun v u => lexLt (k v) (k u)) := by
  intro p q hm hm'
  have h1 := hp _ hm
  have h2 := hp _ hm'
  show wpAny (model prog w) A (keyLt' (tuples' true) p.1 q.1) (fun r s' => s' = s ∧ r = lexLt (k p.1) (k q.1)) (fun _ _ => False) s
  generalize k p.1 = x at h1 ⊢
  generalize k q.1 = y at h2 ⊢
  obtain ⟨a, xs, e, ⟨o, ho, hc, n, hd⟩, i⟩ := h1
  obtain ⟨a', xs', e', ⟨o', ho', hc', n', hd'⟩, i'⟩ := h2
  rw [e, e']
  refine PySem.W.kat_lt ho hd ho' hd' (lex_run i i' _ _ 0 ?_ ⟨rfl, rfl⟩)
  rw [← i.length, ← i'.length, Array.length_toList, Array.length_toList]
theorem firsts_of : ∀ {h : Heap} {vs : List Value}, (∀ v ∈ vs, ∃ ns, TS.TupInts h v ns ∧ ns ≠ []) → ∃ fs, PySem.W.KatTups h vs fs ∧ fs.length = vs.length ∧ ∀ f ∈ fs, ∃ n t, f = Value.int n t
  | _, [], _ => ⟨[], PySem.W.KatTups.nil, rfl, fun f hf => by cases hf⟩
  | h, v :: vs, x => by
    obtain ⟨fs, k, hl, hi⟩ := firsts_of (h := h) (vs := vs) fun u hu => x u (List.mem_cons_of_mem _ hu)
    obtain ⟨ns, ⟨a, xs, rfl, ⟨o, ho, hc, n, hd⟩, i⟩, hn⟩ := x v List.mem_cons_self
    obtain ⟨l⟩ := xs
    cases i with
    | nil => exact absurd rfl hn
    | cons y t r =>
      refine ⟨.int y t :: fs, PySem.W.KatTups.cons ho hc hd rfl k, by rw [List.length_cons, List.length_cons, hl], fun f hf => ?_⟩
      rcases List.mem_cons.mp hf with rfl | hf
      · exact ⟨y, t, rfl⟩
      · exact hi f hf
theorem tups_sortable {a : Addr} {vs : List Value} {k : Value → List Int} (h0 : 0 < vs.length) (hp : ∀ v ∈ vs, TS.TupInts s.heap v (k v)) (hn : ∀ v ∈ vs, k v ≠ [])
    (ha : ∀ o, s.heap.get? a = some o → o.cls ≠ .type "tuple") : SrtO.SortableO prog w A s a vs fun v u => lexLt (k v) (k u) := by
  intro h' keep
  have hp' : ∀ v ∈ vs, TS.TupInts h' v (k v) := fun v hm => (hp v hm).keeps fun b o e c => keep b o (fun z => by subst z; exact ha o e c) e
  obtain ⟨fs, h1, h2, h3⟩ := firsts_of fun v hm => ⟨_, hp' v hm, hn v hm⟩
  refine ⟨tuples' true, fun Q E hq => ?_, tups_cmp hp'⟩
  refine PySem.W.kat_kind (T := .type "int") h1 (by omega) (fun f hm => ?_) (by rfl) ?_
  · obtain ⟨x, t, rfl⟩ := h3 f hm
    exact PySem.W.Looks.now
  · have e : (Value.type "int" != Value.type "tuple") = true := by decide +kernel
    rw [e]
    exact hq
end
end Gq
namespace Gq
open PySem PySem.Spec PyProof.Rows L2
/-- the set's tuples, sorted -/
theorem sorted_setL {P : Program} {w : World} {A : Around} {E : Value → Shared → Prop} {s : Shared} {a : Addr} {L : List (Addr × List Int)} {es : Array (Int × Value)} {ep : Nat} {t : SetTable}
    {Q : Value → Shared → Prop} (R : SetTR P w s.heap a L es ep t) (hh : A.handled = none) (hne : ∀ p ∈ L, p.2 ≠ [])
    (hQ : ∀ s' p (out : Array Value) (c : Nat) (L' : List (Addr × List Int)), (∀ b o, s.heap.get? b = some o → s'.heap.get? b = some o) → s'.gens = s.gens → s'.os = s.os →
      s.heap.objs.size ≤ p → s'.heap.get? p = some (seqObj "list" out c) → out.toList = L'.map (fun q => Value.ref q.1) → L'.Perm L →
      L'.Pairwise (fun q r => lexLt r.2 q.2 = false) → Q (.ref p) s') :
    wpAny (model P w) A (call (.builtin "sorted") [.ref a]) Q E s := by
  obtain ⟨o, ho, hex, hd⟩ := R.ob
  have few := R.few
  -- every value is the address of one row
  let k : Value → List Int := fun v => match L.find? (fun q => Value.ref q.1 == v) with
    | some q => q.2
    | none => []
  have addr : ∀ q ∈ L, ∀ r ∈ L, q.1 = r.1 → q = r := by
    intro q hq r hr e
    have z1 := R.tup q hq
    have z2 := R.tup r hr
    rw [e] at z1
    exact Prod.ext e (z1.inj z2)
  have kat : ∀ q ∈ L, k (.ref q.1) = q.2 := by
    intro q hq
    show (match L.find? (fun z => Value.ref z.1 == Value.ref q.1) with | some z => z.2 | none => []) = q.2
    cases f : L.find? (fun z => Value.ref z.1 == Value.ref q.1) with
    | none =>
      have z := List.find?_eq_none.mp f q hq
      simp at z
    | some r =>
      have m := List.mem_of_find?_eq_some f
      have z := List.find?_some f
      have e : r.1 = q.1 := by simpa using z
      show r.2 = q.2
      rw [addr r m q hq e]
  have rowsV : es.toList.map (·.2) = L.map fun q => Value.ref q.1 := by
    rw [R.rows]
    unfold rowsOf
    rw [List.map_map]
    rfl
  refine Calls.call_function_entry kind_sorted plain_sorted entry_sorted (args_sorted1 _) ?_
  unfold Builtin.«sorted»
  refine wpAny_bind (m := checkCount "sorted" 1 1 _) (wpAny_pure ?_)
  have szs := R.size
  refine wpAny_bind (collect_set (A := A.in1) hh ⟨o, ho, hex.1, hd⟩ R.fits (by unfold scanBound; omega) R.tab.ris R.led ?_)
  intro s1 vs k1 hz g1 o1 pm
  rw [rowsV] at pm
  have mem : ∀ v ∈ vs, ∃ q ∈ L, v = Value.ref q.1 := by
    intro v hv
    obtain ⟨q, hq, e⟩ := List.mem_map.mp (pm.mem_iff.mp hv)
    exact ⟨q, hq, e.symm⟩
  have lenV : vs.length = L.length := by rw [pm.length_eq, List.length_map]
  have lineV : vs.length ≤ sizeLine := by rw [sizeLine_eq]; omega
  refine wpAny_bind (wpAny_newList ?_ lineV)
  have hL : (s1.heap.push (seqObj "list" vs.toArray 0)).get? s1.heap.objs.size = some (seqObj "list" vs.toArray 0) := Heap.get?_push_size _ rfl
  have tup : ∀ v ∈ vs, TS.TupInts (s1.heap.push (seqObj "list" vs.toArray 0)) v (k v) := by
    intro v hv
    obtain ⟨q, hq, rfl⟩ := mem v hv
    rw [kat q hq]
    exact tupInts_of (P := P) (w := w) (isT_keep (R.tup q hq) fun b u e => Heap.get?_push_of_some _ (k1 b u e))
  have some1 : ∀ v ∈ vs, k v ≠ [] := by
    intro v hv
    obtain ⟨q, hq, rfl⟩ := mem v hv
    rw [kat q hq]
    exact hne q hq
  refine wpAny_bind (wpAny_holding (wpAny_call_entry slot_list_sort ⟨_, hL, rfl⟩ entry_list_sort
    (SrtO.list_sort_ord (s := { s1 with heap := s1.heap.push (seqObj "list" vs.toArray 0) }) (lex_swo k) hL lineV
      (fun h2 => tups_sortable (by omega) tup some1 (fun u hu => ?_)) fun out hs hb => ⟨_, rfl, ?_⟩) (args_list_sort _)))
  · rw [hL] at hu
    cases hu
    intro z
    injection (show Value.type "list" = Value.type "tuple" from z) with z
    exact absurd z (by decide)
  have pmo : out.Perm (L.map fun q => Value.ref q.1) := hb.perm.trans pm
  obtain ⟨c, hc⟩ := sortedHeap_at (vs := vs) (out := out.toArray) hL
  have back : ∀ l : List Value, (∀ v ∈ l, ∃ q ∈ L, v = Value.ref q.1) → ∃ L1 : List (Addr × List Int), l = L1.map (fun q => Value.ref q.1) ∧ ∀ q ∈ L1, q ∈ L := by
    intro l
    induction l with
    | nil => exact fun _ => ⟨[], rfl, fun q hq => by cases hq⟩
    | cons v l ih =>
      intro hv
      obtain ⟨q, hq, e⟩ := hv v List.mem_cons_self
      obtain ⟨L1, e1, h1⟩ := ih fun u hu => hv u (List.mem_cons_of_mem _ hu)
      refine ⟨q :: L1, by rw [List.map_cons, e, e1], ?_⟩
      intro r hr
      cases List.mem_cons.mp hr with
      | inl z => exact z ▸ hq
      | inr z => exact h1 r z
  obtain ⟨L', e', in'⟩ := back out fun v hv => mem v (hb.perm.mem_iff.mp hv)
  have nodL : L.Nodup := nodup_of_map R.nd
  have permL : L'.Perm L := by
    have nref : (L.map fun q => Value.ref q.1).Nodup := by
      refine List.pairwise_map.mpr (List.Pairwise.imp_of_mem ?_ nodL)
      intro q r hq hr ne e
      injection e with e
      exact ne (addr q hq r hr e)
    rw [e'] at pmo
    have n1 : L'.Nodup := nodup_of_map (pmo.nodup_iff.mpr nref)
    refine (List.perm_ext_iff_of_nodup n1 nodL).mpr fun q => ⟨in' q, fun hq => ?_⟩
    obtain ⟨r, hr, e⟩ := List.mem_map.mp (pmo.mem_iff.mpr (List.mem_map.mpr ⟨q, hq, rfl⟩))
    injection e with e
    rw [← addr r (in' r hr) q hq e]
    exact hr
  have ordL : L'.Pairwise (fun q r => lexLt r.2 q.2 = false) := by
    rw [e'] at hs
    refine List.Pairwise.imp_of_mem ?_ (List.pairwise_map.mp hs)
    intro q r hq hr hlt
    have z : lexLt (k (.ref r.1)) (k (.ref q.1)) = false := hlt
    rw [kat r (in' r hr), kat q (in' q hq)] at z
    exact z
  refine wpAny_pure ⟨_, rfl, hQ _ s1.heap.objs.size out.toArray c L' ?_ g1 o1 hz hc (by rw [List.toList_toArray]; exact e') permL ordL⟩
  intro b u e
  have q := k1 b u e
  have lt := Heap.lt_size q
  show (sortedHeap (s1.heap.push (seqObj "list" vs.toArray 0)) s1.heap.objs.size vs out.toArray).get? b = some u
  rw [sortedHeap_old (Nat.ne_of_lt lt) (by rw [size_push']; exact Nat.lt_succ_of_lt lt)]
  exact Heap.get?_push_of_some _ q
/-- sorted(set of tuples of ints, none empty) -/
def rSortedL (K : PySem.W.Frag) (P : Program) (w : World) : List V → Hp → VK → Prop := fun vs H Q =>
  ∃ (a : Addr) (L : List (Addr × List Int)), vs = [V.ref a] ∧ H a = some (SetTO P w a L) ∧ (∀ p ∈ L, SqT K H p.1 (p.2.map V.int)) ∧ (∀ p ∈ L, p.2 ≠ []) ∧
    ∀ (L' : List (Addr × List Int)) (p : Addr), L'.Perm L → (L'.map (·.2)).Pairwise (fun x y => lexLt x y = true) → H p = none → Q (.ref p) (upd H p (.lst (L'.map fun q => V.ref q.1)))
theorem cr_sortedL {X : Cx} (hc : X.calm = true) : CallR X (.builtin "sorted") (rSortedL X.K X.prog X.w) := by
  intro pins s σ H vs us Q I r h
  obtain ⟨a, L, rfl, ha, hk, hn, q⟩ := h
  have R0 : SetT0 X.prog X.w s.heap a L := (I.hok a _ ha).1
  obtain ⟨es, ep, t, R⟩ := R0.full fun p hp => I.isT (hk p hp)
  rw [Vals.ref1 r]
  refine sorted_setL R (I.ok.hd hc) hn ?_
  intro s' p out c L' keep g o hp hg hout pm pw
  have few : L'.length < 64 := by rw [pm.length_eq]; exact R.few
  have line : (L'.map fun q => V.ref q.1).length ≤ sizeLine := by rw [List.length_map, sizeLine_eq]; omega
  have np : H p = none := I.hok.fresh hp
  have hv : Vals (L'.map fun q => V.ref q.1) out.toList := by rw [hout]; exact vals_of_refs L'
  have J : Inv X pins σ (upd H p (.lst (L'.map fun q => V.ref q.1))) { s with heap := s'.heap, gens := s'.gens, drawn := s'.drawn, toks := s'.toks } :=
    I.call (ch := []) (Un.laid keep hp np) (I.hok.laid keep hp ⟨line, out.toList, c, hv, hg⟩) (by rw [g]; exact I.bare) (fun _ z => nomatch z)
  have e : s' = { s with heap := s'.heap, gens := s'.gens, drawn := s'.drawn, toks := s'.toks } := by
    cases s'
    cases s
    cases o
    rfl
  have nd : (L'.map (·.2)).Nodup := (pm.map (·.2)).nodup_iff.mpr R.nd
  have strict : (L'.map (·.2)).Pairwise (fun x y => lexLt x y = true) := by
    refine List.Pairwise.imp ?_ (List.Pairwise.and nd ((List.pairwise_map (R := fun x y => lexLt y x = false)).mpr pw))
    intro x y z
    cases h : lexLt x y with
    | true => rfl
    | false => exact absurd (lex_tot x y h z.2) z.1
  rw [e]
  exact ⟨.ref p, _, J, rfl, q L' p pm strict np⟩
end Gq
set_option Elab.async false
set_option linter.all false
set_option maxRecDepth 100000
/-! Own base 4: set(t) of a tuple of tuples of ints. -/
namespace Gq
open PySem PySem.Spec PyProof.Rows L2
section
variable {P : Program} {w : World} {A : Around} {E : Value → Shared → Prop} {s : Shared}
set_option maxHeartbeats 3200000 in
theorem set_of_tuple {l : Addr} {its : Array Value} (ks : List (Addr × List Int)) {Q : Value → Shared → Prop}
    (hh : A.handled = none) (hl : s.heap.IsTuple l its) (hit : its.toList = ks.map fun p => Value.ref p.1)
    (hk : ∀ p ∈ ks, IsT P w s.heap p.2 p.1) (few : ks.length < 64) (hu : A.units + 3 < cLine)
    (h : ∀ (h' : Heap) (tk : Nat) L es ep t, SetTR P w h' s.heap.objs.size L es ep t → Got ks ks.length L →
      (∀ b o, s.heap.get? b = some o → h'.get? b = some o) → Q (.ref s.heap.objs.size) { s with heap := h', toks := tk }) :
    wpAny (model P w) A (call (.type "set") [.ref l]) Q E s := by
  have szI : its.size = ks.length := by
    have z := congrArg List.length hit
    rwa [Array.length_toList, List.length_map] at z
  have gone : ∀ b, s.heap.objs.size ≤ b → s.heap.get? b = none := by
    intro b hb
    cases z : s.heap.get? b with
    | none => rfl
    | some o => exact absurd (Nat.lt_of_lt_of_le (Heap.lt_size z) hb) (Nat.lt_irrefl _)
  obtain ⟨c, tl, hmro⟩ := F.called_set.mro
  have m1 := F.called_set.made
  have m2 := F.called_set.sub
  refine wpAny_call (codeAny_of_tree ?_)
  show wpAny _ _ (callAny (.type "set") _) _ _ _
  refine wpAny_pure ⟨Code.quiet_builtin _ (by decide +kernel),
    codeAny_builtin F.entry_type_call ?_⟩
  rw [Around.under_plain (weight_type_call_type "set" [.ref l] []) rfl]
  have m3 := F.called_set.notType
  have m4 := F.called_set.canCreate
  have m5 := F.typeCall_set_1 (.ref l)
  repeat (any_goals (first | assumption | wp_step))
  refine codeAny_mono (code_set_led1 (.ref l) (E := E)
    (Q₁ := fun obj s₁ => obj = .ref s.heap.objs.size ∧
      s₁ = { s with heap := s.heap.push { cls := .type "set", dict := none, data := .set #[] 0 (.fresh 0 0 (!w.params.followText "set-order")) } }) ⟨rfl, rfl⟩) ?_
  intro r s₁ hr
  match r, hr with
  | .error e, hr => exact hr
  | .ok .next, hr => exact hr.elim
  | .ok .brk, hr => exact hr.elim
  | .ok .cont, hr => exact hr.elim
  | .ok (.ret obj), hr =>
    obtain ⟨rfl, rfl⟩ := hr
    have at0 : (s.heap.push { cls := .type "set", dict := none, data := .set #[] 0 (.fresh 0 0 (!w.params.followText "set-order")) }).get? s.heap.objs.size =
      some { cls := .type "set", dict := none, data := .set #[] 0 (.fresh 0 0 (!w.params.followText "set-order")) } := Heap.get?_push_size _ rfl
    have ty0 : Shared.TypeIs { s with heap := s.heap.push { cls := .type "set", dict := none, data := .set #[] 0 (.fresh 0 0 (!w.params.followText "set-order")) } } (.ref s.heap.objs.size) "set" := ⟨_, at0, rfl⟩
    have m6 := F.called_set.init.lookup
    have m7 := F.called_set.init.bind (.ref s.heap.objs.size)
    repeat (any_goals (first | assumption | wp_step))
    refine codeAny_mono (codeAny_call_builtin
      (R := wants (fun r s₂ => r = .none ∧ ∃ h' tk L es ep t, s₂ = { s with heap := h', toks := tk } ∧
        SetTR P w h' s.heap.objs.size L es ep t ∧ Got ks ks.length L ∧
        (∀ b o, s.heap.get? b = some o → h'.get? b = some o)) E)
      F.called_set.init.plain F.entry_set_init (check_set_init_1 ty0 ?_)) ?_
    · obtain ⟨ol, hol, hcl, nl, hdl⟩ := hl
      obtain ⟨ocls, odict, odata, oslots⟩ := ol
      simp only at hcl hdl
      subst hcl
      subst hdl
      have at1 : (s.heap.push { cls := .type "set", dict := none, data := .set #[] 0 (.fresh 0 0 (!w.params.followText "set-order")) }).get? l =
        some { cls := .type "tuple", dict := odict, data := .seq its nl, slots := oslots } := Heap.get?_push_of_some _ hol
      have n1 := F.sub_tuple_set
      have n2 := F.sub_tuple_frozenset
      have n3 : (Value.type "tuple" == Value.type "dict") = false := by decide
      have tup1 : (s.heap.push { cls := .type "set", dict := none, data := .set #[] 0 (.fresh 0 0 (!w.params.followText "set-order")) }).IsTuple l its := ⟨_, at1, rfl, nl, rfl⟩
      unfold Builtin.«set.__init__» noKeywords
      unfold Builtin.Frozenset.updateFrom
      generalize hPI : pyIter = PI
      wp_walk
      subst hPI
      refine wpAny_pyIter_tuple tup1 ?_
      refine wpAny_bind (wpAny_runValue ?_)
      have lt1 : l < s.heap.objs.size := Heap.lt_size hol
      have hn3 : A.in1.in1.in1.handled = none := by simp [hh]
      have sz1 : (s.heap.push { cls := .type "set", dict := none, data := .set #[] 0 (.fresh 0 0 (!w.params.followText "set-order")) }).objs.size = s.heap.objs.size + 1 := Heap.size_push ..
      have ne1 : l ≠ (s.heap.push { cls := .type "set", dict := none, data := .set #[] 0 (.fresh 0 0 (!w.params.followText "set-order")) }).objs.size := by
        rw [Heap.size_push]
        exact Nat.ne_of_lt (Nat.lt_succ_of_lt lt1)
      have out1 : s.heap.objs.size ∉ [(s.heap.push { cls := .type "set", dict := none, data := .set #[] 0 (.fresh 0 0 (!w.params.followText "set-order")) }).objs.size, l] := by
        rw [Heap.size_push]
        simp only [List.mem_cons, List.mem_singleton, List.not_mem_nil, or_false, not_or]
        exact ⟨Nat.ne_of_lt (Nat.lt_succ_self _), Nat.ne_of_gt lt1⟩
      have vals : ∀ (i : Nat) (v : Value), its[i]? = some v → ∃ p, ks[i]? = some p ∧ v = .ref p.1 := by
        intro i v hv
        have z : its.toList[i]? = some v := by rw [Array.getElem?_toList]; exact hv
        rw [hit, List.getElem?_map] at z
        cases hq : ks[i]? with
        | none =>
          rw [hq] at z
          cases z
        | some p =>
          rw [hq] at z
          exact ⟨p, rfl, (Option.some.inj z).symm⟩
      refine set_update_tups ((Walks.tuple hn3 _ l ne1 its).toS) s.heap.objs.size
        out1 ks szI few vals s.heap hk (gone _ (Nat.le_refl _)) ?hw hu (its.size - 0) 0 _
        (by omega) (Nat.zero_le _) ⟨⟨_, Heap.get?_push_size _ rfl, rfl, rfl⟩, (tup1.push _)⟩
        (fun b o e => Heap.get?_push_of_some _ (Heap.get?_push_of_some _ e)) ?hS0 ?hR
      case hw =>
        intro b hb
        refine gone b ?_
        rw [List.mem_singleton.mp hb, Heap.size_push]
        exact Nat.le_succ _
      case hS0 =>
        exact ⟨[], #[], 0, _, setTR_fresh (Heap.get?_push_of_some _ at0), Got.zero ks⟩
      case hR =>
        intro s' L es ep t hm hS' g' keep
        obtain ⟨h', g2, d', tk', os'⟩ := s'
        cases (show g2 = s.gens from hm.gens)
        cases (show d' = s.drawn from hm.drawn)
        cases (show os' = s.os from hm.os)
        show wpAny _ _ _ _ _ _
        refine wpAny_pure ?_
        show wpAny _ _ (ret Value.none) _ _ _
        rw [szI] at g'
        exact wpAny_pure ⟨rfl, h', tk', L, es, ep, t, rfl, hS', g', keep⟩
    · intro r₂ s₂ hr₂
      match r₂, hr₂ with
      | .error e, hr₂ => exact hr₂
      | .ok .next, hr₂ => exact hr₂.elim
      | .ok .brk, hr₂ => exact hr₂.elim
      | .ok .cont, hr₂ => exact hr₂.elim
      | .ok (.ret r), hr₂ =>
        obtain ⟨rfl, h', tk, L, es, ep, t, rfl, hS', g', keep⟩ := hr₂
        repeat (any_goals (first | assumption | wp_step))
        exact h _ _ _ _ _ _ hS' g' keep
end
/-- set(l) of a list or a tuple of tuples of ints -/
def rSetOfU (K : PySem.W.Frag) (P : Program) (w : World) : List V → Hp → VK → Prop := fun xs H Q =>
  ∃ (l : Addr) (ks : List (Addr × List Int)), xs = [V.ref l] ∧ (SqL K H l (ks.map fun p => V.ref p.1) ∨ SqT K H l (ks.map fun p => V.ref p.1)) ∧
    (∀ p ∈ ks, SqT K H p.1 (p.2.map V.int)) ∧ ks.length < 64 ∧
    ∀ a L, H a = none → (∀ p ∈ L, p ∈ ks) → (∀ p ∈ ks, p.2 ∈ L.map (·.2)) → Q (.ref a) (upd H a (SetTO P w a L))
theorem cr_setOfU {X : Cx} (hc : X.calm = true) (hu : X.A.units + 64 < cLine) : CallR X (.type "set") (rSetOfU X.K X.prog X.w) := by
  intro pins s σ H xs us Q I r h
  obtain ⟨l, ks, rfl, hl | hl, hk, hf, q⟩ := h
  · exact cr_setOfT hc hu pins s σ H _ us Q I r ⟨l, ks, rfl, hl, hk, hf, q⟩
  · rw [Vals.ref1 r]
    obtain ⟨its, rv, pl, hz⟩ := I.tuple hl
    have np : H s.heap.objs.size = none := I.hok.fresh (Nat.le_refl _)
    refine set_of_tuple (P := X.prog) (w := X.w) ks (I.ok.hd hc) pl (by simpa using refs_of_vals rv) (fun p hp => I.isT (hk p hp)) hf (by omega) ?_
    intro h' tk L es ep t R g k
    refine ⟨.ref s.heap.objs.size, upd H s.heap.objs.size (SetTO X.prog X.w s.heap.objs.size L), I.laid (t' := tk) k (Nat.le_refl _) (setTO_new R.t0), rfl, ?_⟩
    refine q _ L np (fun p hp => List.mem_of_mem_take (g.sub p hp)) ?_
    intro p hp
    exact g.all p (by rw [List.take_length]; exact hp)
end Gq
set_option Elab.async false
set_option linter.all false
set_option maxRecDepth 100000
set_option maxHeartbeats 1000000
/-! Own base 5: what an expression gives, told by relations that stay as the heap grows. -/
namespace Gq
open PySem PySem.Spec PyProof.Rows L2

def Er (te : TE) (σ : L2.St) (H : Hp) (R : V → Hp → Prop) : Prop :=
  ∀ H1, Same H H1 → ∀ Q : VK, (∀ v H2, Same H1 H2 → R v H2 → Q v H2) → te σ H1 Q
def Et (tt : TT) (σ : L2.St) (H : Hp) (b : Bool) : Prop :=
  ∀ H1, Same H H1 → ∀ Q : Bool → Hp → Prop, (∀ H2, Same H1 H2 → Q b H2) → tt σ H1 Q
def Is (x : V) : V → Hp → Prop := fun v _ => v = x
/-- what stays as the heap grows, and as a list changes -/
structure Mo (R : V → Hp → Prop) : Prop where
  mono : ∀ v H H', Same H H' → R v H → R v H'
  lst : ∀ v H p (o o' : List V), H p = some (.lst o) → R v H → R v (upd H p (.lst o'))
theorem Mo.is (x : V) : Mo (Is x) := ⟨fun _ _ _ _ r => r, fun _ _ _ _ _ _ r => r⟩
inductive Rel {α : Type} (R : α → V → Hp → Prop) (H : Hp) : List V → List α → Prop
  | nil : Rel R H [] []
  | cons {v : V} {vs : List V} {a : α} {as : List α} : R a v H → Rel R H vs as → Rel R H (v :: vs) (a :: as)
section rel
variable {α : Type} {R : α → V → Hp → Prop} {H H' : Hp}
theorem Rel.imp (f : ∀ a v, R a v H → R a v H') : ∀ {vs : List V} {as : List α}, Rel R H vs as → Rel R H' vs as
  | _, _, .nil => .nil
  | _, _, .cons h t => .cons (f _ _ h) (Rel.imp f t)
theorem Rel.len : ∀ {vs : List V} {as : List α}, Rel R H vs as → vs.length = as.length
  | _, _, .nil => rfl
  | _, _, .cons _ t => congrArg Nat.succ t.len
theorem Rel.app : ∀ {vs ws : List V} {as bs : List α}, Rel R H vs as → Rel R H ws bs → Rel R H (vs ++ ws) (as ++ bs)
  | _, _, _, _, .nil, u => u
  | _, _, _, _, .cons h t, u => .cons h (t.app u)
theorem Rel.get : ∀ {vs : List V} {as : List α} {i : Nat} {x : V}, Rel R H vs as → vs[i]? = some x → ∃ a, as[i]? = some a ∧ R a x H
  | _, _, _, _, .nil, e => by simp at e
  | _, _, 0, _, .cons h t, e => ⟨_, rfl, by cases e; exact h⟩
  | _, _, i + 1, _, .cons h t, e => by
    obtain ⟨a, h1, h2⟩ := t.get (i := i) e
    exact ⟨a, h1, h2⟩
theorem Rel.get2 : ∀ {vs : List V} {as : List α} {i : Nat} {a : α}, Rel R H vs as → as[i]? = some a → ∃ x, vs[i]? = some x ∧ R a x H
  | _, _, _, _, .nil, e => by simp at e
  | _, _, 0, _, .cons h t, e => ⟨_, rfl, by cases e; exact h⟩
  | _, _, i + 1, _, .cons h t, e => by
    obtain ⟨a, h1, h2⟩ := t.get2 (i := i) e
    exact ⟨a, h1, h2⟩
theorem Rel.drop : ∀ (n : Nat) {vs : List V} {as : List α}, Rel R H vs as → Rel R H (vs.drop n) (as.drop n)
  | 0, _, _, h => h
  | _ + 1, _, _, .nil => .nil
  | n + 1, _, _, .cons _ t => Rel.drop n t
theorem Rel.of_map {f : α → V} : ∀ {vs : List V} {as : List α}, Rel (fun a v _ => v = f a) H vs as → vs = as.map f
  | _, _, .nil => rfl
  | _, _, .cons h t => by rw [h, t.of_map, List.map_cons]
theorem Rel.mk_map {f : α → V} : ∀ {as : List α}, (∀ a ∈ as, R a (f a) H) → Rel R H (as.map f) as
  | [], _ => .nil
  | a :: as, h => .cons (h a List.mem_cons_self) (Rel.mk_map fun b hb => h b (List.mem_cons_of_mem _ hb))
end rel
def LstR {α : Type} (R : α → V → Hp → Prop) (as : List α) : V → Hp → Prop := fun v H => ∃ p xs, v = .ref p ∧ H p = some (.lst xs) ∧ Rel R H xs as
def TupR {α : Type} (R : α → V → Hp → Prop) (as : List α) : V → Hp → Prop := fun v H => ∃ p xs, v = .ref p ∧ H p = some (.tup xs) ∧ Rel R H xs as
theorem Mo.tup {α : Type} {R : α → V → Hp → Prop} (m : ∀ a, Mo (R a)) (as : List α) : Mo (TupR R as) := by
  refine ⟨?_, ?_⟩
  · rintro v H H' s ⟨p, xs, rfl, hp, r⟩
    exact ⟨p, xs, rfl, s _ _ hp, r.imp fun a v => (m a).mono v H H' s⟩
  · rintro v H q o o' hq ⟨p, xs, rfl, hp, r⟩
    have ne : p ≠ q := fun e => by
      rw [e, hq] at hp
      cases hp
    exact ⟨p, xs, rfl, by rw [upd_ne ne]; exact hp, r.imp fun a v => (m a).lst v H q o o' hq⟩
theorem LstR.mono {α : Type} {R : α → V → Hp → Prop} (m : ∀ a, Mo (R a)) {as : List α} {v : V} {H H' : Hp} (s : Same H H') (h : LstR R as v H) : LstR R as v H' := by
  obtain ⟨p, xs, rfl, hp, r⟩ := h
  exact ⟨p, xs, rfl, s _ _ hp, r.imp fun a v => (m a).mono v H H' s⟩
/-- a tuple of ints -/
def SetV (A : List Int) : V → Hp → Prop := fun v H => ∃ p, v = .ref p ∧ H p = some (.tup (A.map V.int))
theorem Mo.set (A : List Int) : Mo (SetV A) := by
  refine ⟨?_, ?_⟩
  · rintro v H H' s ⟨p, rfl, hp⟩
    exact ⟨p, rfl, s _ _ hp⟩
  · rintro v H q o o' hq ⟨p, rfl, hp⟩
    have ne : p ≠ q := fun e => by
      rw [e, hq] at hp
      cases hp
    exact ⟨p, rfl, by rw [upd_ne ne]; exact hp⟩
def FamT (F : List (List Int)) := TupR SetV F
def FamL (F : List (List Int)) := LstR SetV F
theorem Mo.fam (F : List (List Int)) : Mo (FamT F) := Mo.tup Mo.set F
theorem FamL.mono {F : List (List Int)} {v : V} {H H' : Hp} (s : Same H H') (h : FamL F v H) : FamL F v H' := LstR.mono Mo.set s h

theorem same_mut {H H' : Hp} {p : Addr} {o : HO} (s : Same H H') (h : H p = none) : Same H (upd H' p o) := fun a u e => by
  rw [upd_ne (ne_of_none e h)]
  exact s a u e

section
variable {K : PySem.W.Frag} {σ : L2.St} {H H' : Hp} {ta tb te tl : TE} {t u : TT} {R Ra Rb : V → Hp → Prop}
theorem Er.mono (s : Same H H') (h : Er te σ H R) : Er te σ H' R := fun H1 e Q q => h H1 (s.trans e) Q q
theorem Et.mono {b : Bool} (s : Same H H') (h : Et t σ H b) : Et t σ H' b := fun H1 e Q q => h H1 (s.trans e) Q q
theorem Er.imp {R' : V → Hp → Prop} (h : Er te σ H R) (f : ∀ v H1, Same H H1 → R v H1 → R' v H1) : Er te σ H R' := fun H1 e Q q =>
  h H1 e Q fun v H2 e2 r => q v H2 e2 (f v H2 (e.trans e2) r)
theorem er_var {i : Nat} {v : V} (m : ∀ H1, Same H H1 → R v H1) (h : σ[i]? = some (some v)) : Er (tVar i) σ H R := fun H1 e Q q => ⟨v, h, q v H1 (Same.refl H1) (m H1 e)⟩
theorem er_c {x : V} : Er (tC x) σ H (Is x) := fun H1 e Q q => q x H1 (Same.refl H1) rfl
theorem er_op {r : R2} (ha : Er ta σ H Ra) (hb : Er tb σ H Rb) (ma : ∀ v H1 H2, Same H1 H2 → Ra v H1 → Ra v H2)
    (hr : ∀ x y H1, Same H H1 → Ra x H1 → Rb y H1 → ∀ Q : VK, (∀ v H2, Same H1 H2 → R v H2 → Q v H2) → r x y H1 Q) : Er (tOp r ta tb) σ H R := fun H1 e Q q =>
  ha H1 e _ fun x H2 e2 rx => hb H2 (e.trans e2) _ fun y H3 e3 ry => hr x y H3 ((e.trans e2).trans e3) (ma x H2 H3 e3 rx) ry Q fun v H4 e4 rv => q v H4 ((e2.trans e3).trans e4) rv
theorem er_un {r : V → Hp → VK → Prop} (ha : Er ta σ H Ra)
    (hr : ∀ x H1, Same H H1 → Ra x H1 → ∀ Q : VK, (∀ v H2, Same H1 H2 → R v H2 → Q v H2) → r x H1 Q) : Er (tUn r ta) σ H R := fun H1 e Q q =>
  ha H1 e _ fun x H2 e2 rx => hr x H2 (e.trans e2) rx Q fun v H3 e3 rv => q v H3 (e2.trans e3) rv
theorem er_call1 {sp : Sp} (ha : Er ta σ H Ra)
    (hr : ∀ x H1, Same H H1 → Ra x H1 → ∀ Q : VK, (∀ v H2, Same H1 H2 → R v H2 → Q v H2) → sp [x] H1 Q E0) : Er (tCall sp [] E0 (tCons ta tNil)) σ H R := fun H1 e Q q =>
  ha H1 e _ fun x H2 e2 rx => hr x H2 (e.trans e2) rx Q fun v H3 e3 rv => q v H3 (e2.trans e3) rv
theorem er_call2 {sp : Sp} (ha : Er ta σ H Ra) (hb : Er tb σ H Rb) (ma : ∀ v H1 H2, Same H1 H2 → Ra v H1 → Ra v H2)
    (hr : ∀ x y H1, Same H H1 → Ra x H1 → Rb y H1 → ∀ Q : VK, (∀ v H2, Same H1 H2 → R v H2 → Q v H2) → sp [x, y] H1 Q E0) : Er (tCall sp [] E0 (tCons ta (tCons tb tNil))) σ H R := fun H1 e Q q =>
  ha H1 e _ fun x H2 e2 rx => hb H2 (e.trans e2) _ fun y H3 e3 ry => hr x y H3 ((e.trans e2).trans e3) (ma x H2 H3 e3 rx) ry Q fun v H4 e4 rv => q v H4 ((e2.trans e3).trans e4) rv
theorem er_call3 {sp : Sp} {tc : TE} {Rc : V → Hp → Prop} (ha : Er ta σ H Ra) (hb : Er tb σ H Rb) (hc : Er tc σ H Rc) (ma : ∀ v H1 H2, Same H1 H2 → Ra v H1 → Ra v H2) (mb : ∀ v H1 H2, Same H1 H2 → Rb v H1 → Rb v H2)
    (hr : ∀ x y z H1, Same H H1 → Ra x H1 → Rb y H1 → Rc z H1 → ∀ Q : VK, (∀ v H2, Same H1 H2 → R v H2 → Q v H2) → sp [x, y, z] H1 Q E0) : Er (tCall sp [] E0 (tCons ta (tCons tb (tCons tc tNil)))) σ H R := fun H1 e Q q =>
  ha H1 e _ fun x H2 e2 rx => hb H2 (e.trans e2) _ fun y H3 e3 ry => hc H3 ((e.trans e2).trans e3) _ fun z H4 e4 rz =>
    hr x y z H4 (((e.trans e2).trans e3).trans e4) (ma x H2 H4 (e3.trans e4) rx) (mb y H3 H4 e4 ry) rz Q fun v H5 e5 rv => q v H5 (((e2.trans e3).trans e4).trans e5) rv
theorem er_cb1 {r : List V → Hp → VK → Prop} (ha : Er ta σ H Ra)
    (hr : ∀ x H1, Same H H1 → Ra x H1 → ∀ Q : VK, (∀ v H2, Same H1 H2 → R v H2 → Q v H2) → r [x] H1 Q) : Er (tCB r (tCons ta tNil)) σ H R := fun H1 e Q q =>
  ha H1 e _ fun x H2 e2 rx => hr x H2 (e.trans e2) rx Q fun v H3 e3 rv => q v H3 (e2.trans e3) rv
theorem er_and {a b : Bool} (h1 : Er ta σ H (Is (.bl a))) (h2 : a = true → Er tb σ H (Is (.bl b))) : Er (tAndV ta tb) σ H (Is (.bl (a && b))) := fun H1 e Q q =>
  h1 H1 e _ fun v H2 e2 r => ⟨a, r, by
    cases a with
    | true => exact iteT (h2 rfl H2 (e.trans e2) Q fun v H3 e3 r3 => q v H3 (e2.trans e3) r3)
    | false => exact iteF (q _ H2 e2 rfl)⟩
theorem er_or {a b : Bool} (h1 : Er ta σ H (Is (.bl a))) (h2 : a = false → Er tb σ H (Is (.bl b))) : Er (tOrV ta tb) σ H (Is (.bl (a || b))) := fun H1 e Q q =>
  h1 H1 e _ fun v H2 e2 r => ⟨a, r, by
    cases a with
    | true => exact iteT (q _ H2 e2 rfl)
    | false => exact iteF (h2 rfl H2 (e.trans e2) Q fun v H3 e3 r3 => q v H3 (e2.trans e3) r3)⟩
theorem er_notV {a : Bool} (h1 : Er ta σ H (Is (.bl a))) : Er (tNotV ta) σ H (Is (.bl (!a))) := fun H1 e Q q => h1 H1 e _ fun v H2 e2 r => ⟨a, r, q _ H2 e2 rfl⟩
theorem er_if {b : Bool} (h : Et t σ H b) (h1 : b = true → Er ta σ H R) (h2 : b = false → Er tb σ H R) : Er (tIf t ta tb) σ H R := fun H1 e Q q => h H1 e _ fun H2 e2 => by
  cases b with
  | true => exact iteT (h1 rfl H2 (e.trans e2) Q fun v H3 e3 r => q v H3 (e2.trans e3) r)
  | false => exact iteF (h2 rfl H2 (e.trans e2) Q fun v H3 e3 r => q v H3 (e2.trans e3) r)
theorem et_test {b : Bool} (h : Er te σ H (Is (.bl b))) : Et (tTest te) σ H b := fun H1 e Q q => h H1 e _ fun v H2 e2 r => ⟨b, r, q H2 e2⟩
theorem et_B {b : Bool} (h : Er te σ H (Is (.bl b))) : Et (tB te) σ H b := fun H1 e Q q => h H1 e _ fun v H2 e2 r => ⟨b, r, q H2 e2⟩
theorem et_not {b : Bool} (h : Et t σ H b) : Et (tNot t) σ H (!b) := fun H1 e Q q => h H1 e _ fun H2 e2 => q H2 e2
theorem et_and {a b : Bool} (h1 : Et t σ H a) (h2 : a = true → Et u σ H b) : Et (tAnd t u) σ H (a && b) := fun H1 e Q q => h1 H1 e _ fun H2 e2 => by
  cases a with
  | true => exact iteT (h2 rfl H2 (e.trans e2) Q fun H3 e3 => q H3 (e2.trans e3))
  | false => exact iteF (q H2 e2)
theorem et_or {a b : Bool} (h1 : Et t σ H a) (h2 : a = false → Et u σ H b) : Et (tOr t u) σ H (a || b) := fun H1 e Q q => h1 H1 e _ fun H2 e2 => by
  cases a with
  | true => exact iteT (q H2 e2)
  | false => exact iteF (h2 rfl H2 (e.trans e2) Q fun H3 e3 => q H3 (e2.trans e3))
theorem et_yes : Et tYes σ H true := fun H1 e Q q => q H1 (Same.refl H1)
theorem Er.bl {a b : Bool} (h : Er te σ H (Is (.bl a))) (e : a = b) : Er te σ H (Is (.bl b)) := e ▸ h
theorem Et.bl {a b : Bool} (h : Et t σ H a) (e : a = b) : Et t σ H b := e ▸ h

/-! ### statements -/
variable {D : Ends} {tz tu tw : TS} {i : Nat}
theorem q_set (h : Er te σ H R) (k : ∀ v H1, Same H H1 → R v H1 → tz D (σ.set i (some v)) H1) : tSeq (tAsg te (gName i)) tz D σ H := h H (Same.refl H) _ k
theorem q_ret (h : Er te σ H R) (k : ∀ v H1, Same H H1 → R v H1 → D.rt v H1) : tRet te D σ H := h H (Same.refl H) _ k
theorem q_skip (h : Et t σ H false) (k : ∀ H1, Same H H1 → tz D σ H1) : tSeq (tIfS t tu tNext) tz D σ H := h H (Same.refl H) _ fun H1 e => iteF (k H1 e)
theorem q_when {b : Bool} (h : Et t σ H b) (h1 : b = true → ∀ H1, Same H H1 → tu { D with nx := tz D } σ H1) (h2 : b = false → ∀ H1, Same H H1 → tz D σ H1) : tSeq (tIfS t tu tNext) tz D σ H := h H (Same.refl H) _ fun H1 e => by
  cases b with
  | true => exact iteT (h1 rfl H1 e)
  | false => exact iteF (h2 rfl H1 e)
theorem q_drop (h : Er te σ H R) (k : ∀ H1, Same H H1 → tz D σ H1) : tSeq (tDrop te) tz D σ H := h H (Same.refl H) _ fun _ H1 e _ => k H1 e

/-! ### comprehensions -/
def Pv {β : Type} (RO : β → V → Hp → Prop) (H1 : Hp) (Dl : Addr) (zs : List β) (H' : Hp) : Prop := ∃ ys, Same H1 H' ∧ H' Dl = some (.lst ys) ∧ Rel RO H' ys zs
theorem lc_turn {β : Type} {RO : β → V → Hp → Prop} (mo : ∀ b, Mo (RO b)) {H1 : Hp} {Dl : Addr} (hD : H1 Dl = none) {zs : List β} {fa : Bool} {ga : β} (pv : Pv RO H1 Dl zs H') (hn : zs.length ≤ 1000)
    (ht : Et t σ H1 fa) (he : fa = true → Er te σ H1 (RO ga)) :
    t σ H' fun b H3 => if b = true then te σ H3 fun y H4 => ∃ acc, H4 Dl = some (.lst acc) ∧ acc.length < sizeLine ∧ Pv RO H1 Dl (if fa = true then zs ++ [ga] else zs) (upd H4 Dl (.lst (acc ++ [y])))
      else Pv RO H1 Dl (if fa = true then zs ++ [ga] else zs) H3 := by
  obtain ⟨ys, s1, hy, rel⟩ := pv
  refine ht H' s1 _ fun H3 e3 => ?_
  cases fa with
  | true =>
    refine iteT (he rfl H3 (s1.trans e3) _ fun y H4 e4 ry => ⟨ys, e4 _ _ (e3 _ _ hy), ?_, ?_⟩)
    · rw [rel.len]
      exact small1000 hn
    · have h4 := e4 _ _ (e3 _ _ hy)
      refine ⟨ys ++ [y], same_mut ((s1.trans e3).trans e4) hD, upd_same, ?_⟩
      rw [if_pos rfl]
      refine Rel.app (rel.imp fun b v r => (mo b).lst v H4 Dl ys _ h4 ((mo b).mono v _ _ (e3.trans e4) r)) ?_
      exact .cons ((mo ga).lst y H4 Dl ys _ h4 ry) .nil
  | false =>
    refine iteF ⟨ys, s1.trans e3, e3 _ _ hy, ?_⟩
    rw [if_neg Bool.false_ne_true]
    exact rel.imp fun b v r => (mo b).mono v _ _ e3 r
theorem take_f {α β : Type} {as : List α} {i : Nat} {a : α} (f : α → Bool) (g : α → β) (h : as[i]? = some a) :
    ((as.take (i + 1)).filter f).map g = if f a = true then ((as.take i).filter f).map g ++ [g a] else ((as.take i).filter f).map g := by
  rw [List.take_add_one, h]
  cases e : f a <;> simp [List.filter_append, e]
theorem take_len {α β : Type} {as : List α} {i : Nat} (f : α → Bool) (g : α → β) : (((as.take i).filter f).map g).length ≤ as.length := by
  rw [List.length_map]
  exact Nat.le_trans (List.length_filter_le _ _) (by rw [List.length_take]; exact Nat.min_le_right _ _)
theorem er_lcT {α β : Type} {j : Nat} {ws : List Nat} (as : List α) {RI : α → V → Hp → Prop} {RO : β → V → Hp → Prop} (mo : ∀ b, Mo (RO b)) (f : α → Bool) (g : α → β)
    (hl : Er tl σ H (TupR RI as)) (hn : as.length ≤ 1000) (hw : ∀ x, wipe ((wipe σ ws).set j (some x)) ws = wipe σ ws)
    (ht : ∀ a, a ∈ as → ∀ x H1, Same H H1 → RI a x H1 → Et t ((wipe σ ws).set j (some x)) H1 (f a))
    (he : ∀ a, a ∈ as → f a = true → ∀ x H1, Same H H1 → RI a x H1 → Er te ((wipe σ ws).set j (some x)) H1 (RO (g a))) :
    Er (tLc (iTup K tl) (gName j) t te ws) σ H (LstR RO ((as.filter f).map g)) := by
  intro H0 e0 Q q
  refine hl H0 e0 _ fun v H1 s1 r1 => ?_
  obtain ⟨p, xs, rfl, hp, rel⟩ := r1
  refine ⟨p, rfl, ⟨xs, SqT.of hp⟩, fun D hD => ?_⟩
  have e1 := e0.trans s1
  refine lc_tup (xs := xs) (fun i H' => Pv RO H1 D (((as.take i).filter f).map g) H') ⟨[], same_upd hD, upd_same, .nil⟩ (fun i H' _ pv => SqT.of (pv.choose_spec.1 _ _ hp)) (fun i x H' hx pv => ⟨hw x, ?_⟩) (fun H' pv => ?_)
  · obtain ⟨a, ha, ra⟩ := rel.get hx
    have ma := List.mem_of_getElem? ha
    show t _ H' _
    have z := lc_turn (te := te) mo hD pv (Nat.le_trans (take_len f g) hn) (ht a ma x H1 e1 ra) (fun hf => he a ma hf x H1 e1 ra)
    rw [← take_f f g ha] at z
    exact z
  · obtain ⟨ys, s2, hy, r2⟩ := pv
    rw [rel.len, List.take_length] at r2
    exact q _ H' (s1.trans s2) ⟨D, ys, rfl, hy, r2⟩
theorem er_lcL {α β : Type} {j : Nat} {ws : List Nat} (as : List α) {RI : α → V → Hp → Prop} {RO : β → V → Hp → Prop} (mo : ∀ b, Mo (RO b)) (f : α → Bool) (g : α → β)
    (hl : Er tl σ H (LstR RI as)) (hn : as.length ≤ 1000) (hw : ∀ x, wipe ((wipe σ ws).set j (some x)) ws = wipe σ ws)
    (ht : ∀ a, a ∈ as → ∀ x H1, Same H H1 → RI a x H1 → Et t ((wipe σ ws).set j (some x)) H1 (f a))
    (he : ∀ a, a ∈ as → f a = true → ∀ x H1, Same H H1 → RI a x H1 → Er te ((wipe σ ws).set j (some x)) H1 (RO (g a))) :
    Er (tLc (iList K tl) (gName j) t te ws) σ H (LstR RO ((as.filter f).map g)) := by
  intro H0 e0 Q q
  refine hl H0 e0 _ fun v H1 s1 r1 => ?_
  obtain ⟨p, xs, rfl, hp, rel⟩ := r1
  refine ⟨p, rfl, ⟨xs, SqL.of hp⟩, fun D hD => ?_⟩
  have e1 := e0.trans s1
  refine lc_list (xs := xs) (fun i H' => Pv RO H1 D (((as.take i).filter f).map g) H') ⟨[], same_upd hD, upd_same, .nil⟩ (fun i H' _ pv => SqL.of (pv.choose_spec.1 _ _ hp)) (fun i x H' hx pv => ⟨hw x, ?_⟩) (fun H' pv => ?_)
  · obtain ⟨a, ha, ra⟩ := rel.get hx
    have ma := List.mem_of_getElem? ha
    show t _ H' _
    have z := lc_turn (te := te) mo hD pv (Nat.le_trans (take_len f g) hn) (ht a ma x H1 e1 ra) (fun hf => he a ma hf x H1 e1 ra)
    rw [← take_f f g ha] at z
    exact z
  · obtain ⟨ys, s2, hy, r2⟩ := pv
    rw [rel.len, List.take_length] at r2
    exact q _ H' (s1.trans s2) ⟨D, ys, rfl, hy, r2⟩
/-- over range(n) -/
theorem er_lcR {β : Type} {j : Nat} {ws : List Nat} (n : Nat) {RO : β → V → Hp → Prop} (mo : ∀ b, Mo (RO b)) (f : Nat → Bool) (g : Nat → β)
    (hl : Er tl σ H (Is (.int (n : Int)))) (hn : n ≤ 1000) (hw : ∀ x, wipe ((wipe σ ws).set j (some x)) ws = wipe σ ws)
    (ht : ∀ i : Nat, i < n → ∀ H1, Same H H1 → Et t ((wipe σ ws).set j (some (.int (i : Int)))) H1 (f i))
    (he : ∀ i : Nat, i < n → f i = true → ∀ H1, Same H H1 → Er te ((wipe σ ws).set j (some (.int (i : Int)))) H1 (RO (g i))) :
    Er (tLc (iRng1 (tCons tl tNil)) (gName j) t te ws) σ H (LstR RO (((List.range n).filter f).map g)) := by
  intro H0 e0 Q q
  refine hl H0 e0 _ fun v H1 s1 r1 => ?_
  cases (show v = .int (n : Int) from r1)
  refine ⟨(n : Int), rfl, by omega, by omega, fun D hD => ?_⟩
  have e1 := e0.trans s1
  have hl2 : (List.range n).length = n := List.length_range
  show ∃ W : Nat → Nat → Hp → Prop, _
  rw [show ((n : Int)).toNat = n from Int.toNat_natCast n]
  refine lc_range (lo := 0) (n := n) (fun i H' => Pv RO H1 D ((((List.range n).take i).filter f).map g) H') ⟨[], same_upd hD, upd_same, .nil⟩ (fun i H' hi pv => ⟨hw _, ?_⟩) (fun H' pv => ?_)
  · have ha : (List.range n)[i]? = some i := by rw [List.getElem?_range hi]
    have z := lc_turn (te := te) mo hD pv (Nat.le_trans (take_len f g) (by omega)) (ht i hi H1 e1) (fun hf => he i hi hf H1 e1)
    rw [← take_f f g ha] at z
    rw [show ((0 : Int) + (i : Int)) = (i : Int) by omega]
    exact z
  · obtain ⟨ys, s2, hy, r2⟩ := pv
    rw [List.take_of_length_le (by omega)] at r2
    exact q _ H' (s1.trans s2) ⟨D, ys, rfl, hy, r2⟩
end
end Gq
set_option Elab.async false
set_option linter.all false
set_option maxRecDepth 100000
set_option maxHeartbeats 1000000
/-! Own base 6: the mathematics of families of sets of places. -/
namespace Gq

abbrev LI := List Int
/-- A contains B -/
def sub (A B : LI) : Bool := B.all fun p => decide (p ∈ A)
def meets (A B : LI) : Bool := B.any fun p => decide (p ∈ A)
def has (F : List LI) (A : LI) : Bool := F.any fun f => sub A f
theorem sub_iff {A B : LI} : sub A B = true ↔ ∀ p ∈ B, p ∈ A := by
  unfold sub
  rw [List.all_eq_true]
  exact ⟨fun h p hp => of_decide_eq_true (h p hp), fun h p hp => decide_eq_true (h p hp)⟩
theorem meets_iff {A B : LI} : meets A B = true ↔ ∃ p ∈ B, p ∈ A := by
  unfold meets
  rw [List.any_eq_true]
  exact ⟨fun ⟨p, hp, h⟩ => ⟨p, hp, of_decide_eq_true h⟩, fun ⟨p, hp, h⟩ => ⟨p, hp, decide_eq_true h⟩⟩
theorem has_iff {F : List LI} {A : LI} : has F A = true ↔ ∃ f ∈ F, ∀ p ∈ f, p ∈ A := by
  unfold has
  rw [List.any_eq_true]
  exact ⟨fun ⟨f, hf, h⟩ => ⟨f, hf, sub_iff.mp h⟩, fun ⟨f, hf, h⟩ => ⟨f, hf, sub_iff.mpr h⟩⟩

/-! ### ascending sets -/
def Pl (w : Nat) (A : LI) : Prop := A.Pairwise (· < ·) ∧ ∀ p ∈ A, 0 ≤ p ∧ p < (w : Int)
theorem asc_ext : ∀ {A B : LI}, A.Pairwise (· < ·) → B.Pairwise (· < ·) → (∀ p, p ∈ A ↔ p ∈ B) → A = B
  | [], [], _, _, _ => rfl
  | [], b :: B, _, _, h => absurd ((h b).mpr List.mem_cons_self) List.not_mem_nil
  | a :: A, [], _, _, h => absurd ((h a).mp List.mem_cons_self) List.not_mem_nil
  | a :: A, b :: B, h1, h2, h => by
    obtain ⟨a1, a2⟩ := List.pairwise_cons.mp h1
    obtain ⟨b1, b2⟩ := List.pairwise_cons.mp h2
    have e : a = b := by
      rcases List.mem_cons.mp ((h a).mp List.mem_cons_self) with e | e
      · exact e
      · rcases List.mem_cons.mp ((h b).mpr List.mem_cons_self) with e2 | e2
        · exact e2.symm
        · have := b1 a e
          have := a1 b e2
          omega
    subst e
    rw [asc_ext a2 b2 fun p => ?_]
    constructor
    · intro hp
      rcases List.mem_cons.mp ((h p).mp (List.mem_cons_of_mem _ hp)) with e | e
      · have := a1 p hp
        omega
      · exact e
    · intro hp
      rcases List.mem_cons.mp ((h p).mpr (List.mem_cons_of_mem _ hp)) with e | e
      · have := b1 p hp
        omega
      · exact e
theorem asc_sub : ∀ {A B : LI}, A.Pairwise (· < ·) → B.Pairwise (· < ·) → (∀ p ∈ B, p ∈ A) → B.Sublist A
  | [], [], _, _, _ => List.Sublist.slnil
  | [], b :: B, _, _, h => absurd (h b List.mem_cons_self) List.not_mem_nil
  | a :: A, [], _, _, _ => List.nil_sublist _
  | a :: A, b :: B, h1, h2, h => by
    obtain ⟨a1, a2⟩ := List.pairwise_cons.mp h1
    obtain ⟨b1, b2⟩ := List.pairwise_cons.mp h2
    by_cases e : b = a
    · rw [e]
      refine List.Sublist.cons₂ a (asc_sub a2 b2 fun p hp => ?_)
      rcases List.mem_cons.mp (h p (List.mem_cons_of_mem _ hp)) with z | z
      · have := b1 p hp
        omega
      · exact z
    · have hb : b ∈ A := by
        rcases List.mem_cons.mp (h b List.mem_cons_self) with z | z
        · exact absurd z e
        · exact z
      refine List.Sublist.cons a (asc_sub a2 h2 fun p hp => ?_)
      rcases List.mem_cons.mp (h p hp) with z | z
      · rcases List.mem_cons.mp hp with y | y
        · exact absurd (y.symm.trans z) e
        · have := b1 p y
          have := a1 b hb
          omega
      · exact z
theorem sub_eq {A B : LI} (hA : A.Pairwise (· < ·)) (hB : B.Pairwise (· < ·)) (h1 : ∀ p ∈ B, p ∈ A) (h2 : ∀ p ∈ A, p ∈ B) : A = B := asc_ext hA hB fun p => ⟨h2 p, h1 p⟩
theorem sub_lt {A B : LI} (hA : A.Pairwise (· < ·)) (hB : B.Pairwise (· < ·)) (h : ∀ p ∈ B, p ∈ A) (ne : B ≠ A) : B.length < A.length := by
  rcases Nat.lt_or_ge B.length A.length with l | l
  · exact l
  · have sl := asc_sub hA hB h
    exact absurd (sl.eq_of_length (Nat.le_antisymm sl.length_le l)) ne

/-! ### sorted sets of sets -/
def insL (A : LI) : List LI → List LI
  | [] => [A]
  | B :: r => if A = B then B :: r else if lexLt A B = true then A :: B :: r else B :: insL A r
def sortS (X : List LI) : List LI := X.foldr insL []
theorem mem_insL {A C : LI} : ∀ {r : List LI}, C ∈ insL A r ↔ C = A ∨ C ∈ r
  | [] => by unfold insL; simp
  | B :: r => by
    unfold insL
    split
    · rename_i e
      subst e
      simp
    · split
      · simp
      · rw [List.mem_cons, mem_insL, List.mem_cons]
        constructor
        · rintro (h | h | h)
          · exact .inr (.inl h)
          · exact .inl h
          · exact .inr (.inr h)
        · rintro (h | h | h)
          · exact .inr (.inl h)
          · exact .inl h
          · exact .inr (.inr h)
theorem mem_sortS {C : LI} : ∀ {X : List LI}, C ∈ sortS X ↔ C ∈ X
  | [] => Iff.rfl
  | A :: X => by
    show C ∈ insL A (sortS X) ↔ _
    rw [mem_insL, mem_sortS, List.mem_cons]
abbrev Srt (X : List LI) : Prop := X.Pairwise fun x y => lexLt x y = true
theorem lex_trans {x y z : LI} (h1 : lexLt x y = true) (h2 : lexLt y z = true) : lexLt x z = true := by
  cases h : lexLt x z with
  | true => rfl
  | false =>
    have a := lex_asym _ _ h1
    have := lex_tr z x y h a
    rw [h2] at this
    cases this
theorem lex_irr (x : LI) : lexLt x x = false := by
  cases h : lexLt x x with
  | false => rfl
  | true => have := lex_asym _ _ h; rw [h] at this; cases this
theorem insL_srt {A : LI} : ∀ {r : List LI}, Srt r → Srt (insL A r)
  | [], _ => List.pairwise_singleton _ _
  | B :: r, h => by
    obtain ⟨h1, h2⟩ := List.pairwise_cons.mp h
    unfold insL
    split
    · exact h
    · rename_i ne
      split
      · rename_i lt
        refine List.pairwise_cons.mpr ⟨fun C hC => ?_, h⟩
        rcases List.mem_cons.mp hC with rfl | hC
        · exact lt
        · exact lex_trans lt (h1 C hC)
      · rename_i nlt
        refine List.pairwise_cons.mpr ⟨fun C hC => ?_, insL_srt h2⟩
        rcases mem_insL.mp hC with rfl | hC
        · cases hl : lexLt B C with
          | true => rfl
          | false => exact absurd (lex_tot C B (by simpa using nlt) hl) ne
        · exact h1 C hC
theorem sortS_srt : ∀ X : List LI, Srt (sortS X)
  | [] => List.Pairwise.nil
  | A :: X => insL_srt (sortS_srt X)
theorem srt_ext : ∀ {X Y : List LI}, Srt X → Srt Y → (∀ A, A ∈ X ↔ A ∈ Y) → X = Y
  | [], [], _, _, _ => rfl
  | [], b :: B, _, _, h => absurd ((h b).mpr List.mem_cons_self) List.not_mem_nil
  | a :: A, [], _, _, h => absurd ((h a).mp List.mem_cons_self) List.not_mem_nil
  | a :: A, b :: B, h1, h2, h => by
    obtain ⟨a1, a2⟩ := List.pairwise_cons.mp h1
    obtain ⟨b1, b2⟩ := List.pairwise_cons.mp h2
    have no : ∀ {x y : LI}, lexLt x y = true → lexLt y x = true → False := fun h1 h2 => by
      have := lex_asym _ _ h1
      rw [h2] at this
      cases this
    have e : a = b := by
      rcases List.mem_cons.mp ((h a).mp List.mem_cons_self) with e | e
      · exact e
      · rcases List.mem_cons.mp ((h b).mpr List.mem_cons_self) with e2 | e2
        · exact e2.symm
        · exact (no (b1 a e) (a1 b e2)).elim
    subst e
    rw [srt_ext a2 b2 fun p => ?_]
    constructor
    · intro hp
      rcases List.mem_cons.mp ((h p).mp (List.mem_cons_of_mem _ hp)) with e | e
      · have z := a1 p hp
        rw [e, lex_irr] at z
        cases z
      · exact e
    · intro hp
      rcases List.mem_cons.mp ((h p).mpr (List.mem_cons_of_mem _ hp)) with e | e
      · have z := b1 p hp
        rw [e, lex_irr] at z
        cases z
      · exact e
theorem srt_sortS {X Y : List LI} (h : Srt Y) (m : ∀ A, A ∈ Y ↔ A ∈ X) : Y = sortS X := srt_ext h (sortS_srt X) fun A => (m A).trans mem_sortS.symm

/-! ### the least ones -/
def minS (X : List LI) : List LI := (sortS X).filter fun A => !((sortS X).filter fun o => decide (o ≠ A)).any fun o => sub A o
theorem mem_minS {X : List LI} {A : LI} : A ∈ minS X ↔ A ∈ X ∧ ∀ B ∈ X, B ≠ A → ¬ ∀ p ∈ B, p ∈ A := by
  unfold minS
  rw [List.mem_filter, mem_sortS, Bool.not_eq_true', ← Bool.not_eq_true, List.any_eq_true]
  constructor
  · rintro ⟨h1, h2⟩
    refine ⟨h1, fun B hB ne hs => h2 ⟨B, ?_, sub_iff.mpr hs⟩⟩
    rw [List.mem_filter, mem_sortS]
    exact ⟨hB, decide_eq_true ne⟩
  · rintro ⟨h1, h2⟩
    refine ⟨h1, ?_⟩
    rintro ⟨B, hB, hs⟩
    rw [List.mem_filter, mem_sortS] at hB
    exact h2 B hB.1 (of_decide_eq_true hB.2) (sub_iff.mp hs)
theorem minS_srt (X : List LI) : Srt (minS X) := (sortS_srt X).sublist List.filter_sublist
theorem minS_congr {X Y : List LI} (h : ∀ A, A ∈ X ↔ A ∈ Y) : minS X = minS Y := by
  have e : sortS X = sortS Y := srt_sortS (sortS_srt X) fun A => mem_sortS.trans (h A)
  unfold minS
  rw [e]
def AscAll (X : List LI) : Prop := ∀ A ∈ X, A.Pairwise (· < ·)
/-- below each set of X stands a least one -/
theorem below {X : List LI} (hX : AscAll X) : ∀ (n : Nat) (A : LI), A.length ≤ n → A ∈ X → ∃ B ∈ minS X, ∀ p ∈ B, p ∈ A
  | n, A, hn, hA => by
    by_cases h : ∀ B ∈ X, B ≠ A → ¬ ∀ p ∈ B, p ∈ A
    · exact ⟨A, mem_minS.mpr ⟨hA, h⟩, fun p hp => hp⟩
    · have ⟨B, hB⟩ := Classical.not_forall.mp h
      have ⟨h1, h2⟩ := Classical.not_imp.mp hB
      have ⟨h3, h4⟩ := Classical.not_imp.mp h2
      have h5 := Classical.not_not.mp h4
      have lt := sub_lt (hX A hA) (hX B h1) h5 h3
      match n with
      | 0 => omega
      | n + 1 =>
        obtain ⟨C, hC, hs⟩ := below hX n B (by omega) h1
        exact ⟨C, hC, fun p hp => h5 p (hs p hp)⟩
theorem has_minS {X : List LI} (hX : AscAll X) (A : LI) : has (minS X) A = has X A := by
  rw [Bool.eq_iff_iff, has_iff, has_iff]
  constructor
  · rintro ⟨f, hf, h⟩
    exact ⟨f, (mem_minS.mp hf).1, h⟩
  · rintro ⟨f, hf, h⟩
    obtain ⟨C, hC, hs⟩ := below hX f.length f (Nat.le_refl _) hf
    exact ⟨C, hC, fun p hp => h p (hs p hp)⟩

/-! ### families -/
structure Fm (w : Nat) (F : List LI) : Prop where
  ne : F ≠ []
  pl : ∀ A ∈ F, A ≠ [] ∧ Pl w A
  min : minS F = F
theorem Fm.asc {w : Nat} {F : List LI} (h : Fm w F) : AscAll F := fun A hA => (h.pl A hA).2.1
theorem Fm.srt {w : Nat} {F : List LI} (h : Fm w F) : Srt F := by
  rw [← h.min]
  exact minS_srt F
theorem Fm.anti {w : Nat} {F : List LI} (h : Fm w F) {A B : LI} (hA : A ∈ F) (hB : B ∈ F) (hs : ∀ p ∈ B, p ∈ A) : B = A := by
  rw [← h.min] at hA
  by_cases e : B = A
  · exact e
  · exact absurd hs ((mem_minS.mp hA).2 B hB e)
theorem minS_ne {X : List LI} (hX : AscAll X) (ne : X ≠ []) : minS X ≠ [] := by
  obtain ⟨A, hA⟩ := List.exists_mem_of_ne_nil X ne
  obtain ⟨C, hC, _⟩ := below hX A.length A (Nat.le_refl _) hA
  exact List.ne_nil_of_mem hC
theorem minS_min {X : List LI} : minS (minS X) = minS X := by
  refine srt_ext (minS_srt _) (minS_srt _) fun A => ?_
  constructor
  · intro h
    exact (mem_minS.mp h).1
  · intro h
    refine mem_minS.mpr ⟨h, fun B hB ne hs => ?_⟩
    exact (mem_minS.mp h).2 B (mem_minS.mp hB).1 ne hs
theorem Fm.of {w : Nat} {X : List LI} (ne : X ≠ []) (pl : ∀ A ∈ X, A ≠ [] ∧ Pl w A) : Fm w (minS X) :=
  ⟨minS_ne (fun A hA => (pl A hA).2.1) ne, fun A hA => pl A (mem_minS.mp hA).1, minS_min⟩
theorem Fm.ext {w : Nat} {F G : List LI} (hF : Fm w F) (hG : Fm w G) (h : ∀ A, Pl w A → has F A = has G A) : F = G := by
  have half : ∀ {F G : List LI}, Fm w F → Fm w G → (∀ A, Pl w A → has F A = has G A) → ∀ A ∈ F, A ∈ G := by
    intro F G hF hG h A hA
    have h1 : has F A = true := has_iff.mpr ⟨A, hA, fun p hp => hp⟩
    rw [h A (hF.pl A hA).2] at h1
    obtain ⟨g, hg, s1⟩ := has_iff.mp h1
    have h2 : has G g = true := has_iff.mpr ⟨g, hg, fun p hp => hp⟩
    rw [← h g (hG.pl g hg).2] at h2
    obtain ⟨f, hf, s2⟩ := has_iff.mp h2
    have e : f = A := hF.anti hA hf fun p hp => s1 p (s2 p hp)
    subst e
    have e2 : f = g := sub_eq (hF.pl f hA).2.1 (hG.pl g hg).2.1 s1 s2
    rw [e2]
    exact hg
  exact srt_ext hF.srt hG.srt fun A => ⟨half hF hG h A, half hG hF (fun B hB => (h B hB).symm) A⟩

/-! ### all sets, the rest, the dual -/
def places (w : Nat) : LI := (List.range w).map fun i : Nat => (i : Int)
def placesIn (w bits : Nat) : LI := ((List.range w).filter fun i => decide (bits / 2 ^ i % 2 ≠ 0)).map fun i : Nat => (i : Int)
def allS (w : Nat) : List LI := ((List.range (2 ^ w - 1)).map fun i => placesIn w (i + 1))
theorem pl_filter {w : Nat} {A : LI} (h : Pl w A) : A = (places w).filter fun p => decide (p ∈ A) := by
  have asc : (places w).Pairwise (· < ·) := by
    unfold places
    refine List.pairwise_map.mpr ?_
    exact List.pairwise_lt_range.imp fun {a b} h => by omega
  refine asc_ext h.1 (asc.sublist List.filter_sublist) fun p => ?_
  rw [List.mem_filter]
  constructor
  · intro hp
    refine ⟨?_, decide_eq_true hp⟩
    obtain ⟨h0, h1⟩ := h.2 p hp
    unfold places
    exact List.mem_map.mpr ⟨p.toNat, List.mem_range.mpr (by omega), by omega⟩
  · rintro ⟨_, hp⟩
    exact of_decide_eq_true hp
def Wd (w : Nat) : Prop := w = 2 ∨ w = 3 ∨ w = 4 ∨ w = 5
theorem mem_allS {w : Nat} (hw : Wd w) {A : LI} : A ∈ allS w ↔ A ≠ [] ∧ Pl w A := by
  constructor
  · intro h
    have key : ∀ B ∈ allS w, B ≠ [] ∧ (B.Pairwise (· < ·) ∧ ∀ p ∈ B, 0 ≤ p ∧ p < (w : Int)) := by
      rcases hw with rfl | rfl | rfl | rfl <;> decide +kernel
    exact key A h
  · rintro ⟨ne, hp⟩
    have e := pl_filter hp
    generalize hq : (fun p : Int => decide (p ∈ A)) = q at e
    rw [e] at ne ⊢
    clear e hq hp
    rcases hw with rfl | rfl | rfl | rfl
    · rw [show (places 2).filter q = ([0, 1] : LI).filter q from rfl] at ne ⊢
      revert ne
      simp only [List.filter_cons, List.filter_nil]
      cases q 0 <;> cases q 1 <;> decide +kernel
    · rw [show (places 3).filter q = ([0, 1, 2] : LI).filter q from rfl] at ne ⊢
      revert ne
      simp only [List.filter_cons, List.filter_nil]
      cases q 0 <;> cases q 1 <;> cases q 2 <;> decide +kernel
    · rw [show (places 4).filter q = ([0, 1, 2, 3] : LI).filter q from rfl] at ne ⊢
      revert ne
      simp only [List.filter_cons, List.filter_nil]
      cases q 0 <;> cases q 1 <;> cases q 2 <;> cases q 3 <;> decide +kernel
    · rw [show (places 5).filter q = ([0, 1, 2, 3, 4] : LI).filter q from rfl] at ne ⊢
      revert ne
      simp only [List.filter_cons, List.filter_nil]
      cases q 0 <;> cases q 1 <;> cases q 2 <;> cases q 3 <;> cases q 4 <;> decide +kernel
def restS (w : Nat) (A : LI) : LI := (places w).filter fun p => decide (p ∉ A)
theorem mem_places {w : Nat} {p : Int} : p ∈ places w ↔ 0 ≤ p ∧ p < (w : Int) := by
  unfold places
  rw [List.mem_map]
  constructor
  · rintro ⟨i, hi, rfl⟩
    have := List.mem_range.mp hi
    omega
  · rintro ⟨h0, h1⟩
    exact ⟨p.toNat, List.mem_range.mpr (by omega), by omega⟩
theorem mem_rest {w : Nat} {A : LI} {p : Int} : p ∈ restS w A ↔ (0 ≤ p ∧ p < (w : Int)) ∧ p ∉ A := by
  unfold restS
  rw [List.mem_filter, mem_places]
  exact ⟨fun ⟨h, g⟩ => ⟨h, of_decide_eq_true g⟩, fun ⟨h, g⟩ => ⟨h, decide_eq_true g⟩⟩
theorem places_asc (w : Nat) : (places w).Pairwise (· < ·) := by
  unfold places
  refine List.pairwise_map.mpr ?_
  exact List.pairwise_lt_range.imp fun {a b} h => by omega
theorem rest_pl (w : Nat) (A : LI) : Pl w (restS w A) := ⟨(places_asc w).sublist List.filter_sublist, fun p hp => (mem_rest.mp hp).1⟩
theorem rest_rest {w : Nat} {A : LI} (h : Pl w A) : restS w (restS w A) = A := by
  refine asc_ext (rest_pl _ _).1 h.1 fun p => ?_
  rw [mem_rest, mem_rest]
  constructor
  · rintro ⟨h1, h2⟩
    exact Classical.not_not.mp fun h3 => h2 ⟨h1, h3⟩
  · intro hp
    exact ⟨h.2 p hp, fun h3 => h3.2 hp⟩
def blocksS (w : Nat) (F : List LI) : List LI := minS ((allS w).filter fun A => F.all fun f => meets A f)
theorem places_pl (w : Nat) : Pl w (places w) := ⟨places_asc w, fun p hp => mem_places.mp hp⟩
theorem Fm.blocks {w : Nat} (hw : Wd w) {F : List LI} (h : Fm w F) : Fm w (blocksS w F) := by
  refine Fm.of ?_ fun A hA => (mem_allS hw).mp (List.mem_filter.mp hA).1
  have hp : places w ≠ [] := by rcases hw with rfl | rfl | rfl | rfl <;> decide
  refine List.ne_nil_of_mem (a := places w) (List.mem_filter.mpr ⟨(mem_allS hw).mpr ⟨hp, places_pl w⟩, ?_⟩)
  rw [List.all_eq_true]
  intro f hf
  obtain ⟨ne, pl⟩ := h.pl f hf
  obtain ⟨p, hp⟩ := List.exists_mem_of_ne_nil f ne
  exact meets_iff.mpr ⟨p, hp, mem_places.mpr (pl.2 p hp)⟩
theorem meets_rest {w : Nat} {A f : LI} (hf : Pl w f) : meets A f = !sub (restS w A) f := by
  rw [Bool.eq_iff_iff, meets_iff, Bool.not_eq_true', ← Bool.not_eq_true, sub_iff]
  constructor
  · rintro ⟨p, hp, ha⟩ h
    exact (mem_rest.mp (h p hp)).2 ha
  · intro h
    have ⟨p, hp⟩ := Classical.not_forall.mp h
    have ⟨h1, h2⟩ := Classical.not_imp.mp hp
    exact ⟨p, h1, Classical.not_not.mp fun z => h2 (mem_rest.mpr ⟨hf.2 p h1, z⟩)⟩
theorem has_blocks {w : Nat} (hw : Wd w) {F : List LI} (h : Fm w F) {A : LI} (hA : Pl w A) : has (blocksS w F) A = !has F (restS w A) := by
  have asc : AscAll ((allS w).filter fun A => F.all fun f => meets A f) := fun B hB => ((mem_allS hw).mp (List.mem_filter.mp hB).1).2.1
  unfold blocksS
  rw [has_minS asc]
  have all : (F.all fun f => meets A f) = !has F (restS w A) := by
    unfold has
    rw [Bool.eq_iff_iff, List.all_eq_true, Bool.not_eq_true', ← Bool.not_eq_true, List.any_eq_true]
    constructor
    · rintro g ⟨f, hf, hs⟩
      have := g f hf
      rw [meets_rest (h.pl f hf).2, hs] at this
      cases this
    · intro g f hf
      rw [meets_rest (h.pl f hf).2]
      cases e : sub (restS w A) f with
      | false => rfl
      | true => exact absurd ⟨f, hf, e⟩ g
  rw [← all, Bool.eq_iff_iff, has_iff, List.all_eq_true]
  constructor
  · rintro ⟨B, hB, hs⟩ f hf
    obtain ⟨p, hp, hb⟩ := meets_iff.mp (List.all_eq_true.mp (List.mem_filter.mp hB).2 f hf)
    exact meets_iff.mpr ⟨p, hp, hs p hb⟩
  · intro g
    refine ⟨A, List.mem_filter.mpr ⟨(mem_allS hw).mpr ⟨?_, hA⟩, List.all_eq_true.mpr g⟩, fun p hp => hp⟩
    obtain ⟨f, hf⟩ := List.exists_mem_of_ne_nil F h.ne
    obtain ⟨p, _, ha⟩ := meets_iff.mp (g f hf)
    exact List.ne_nil_of_mem ha
theorem blocks_blocks {w : Nat} (hw : Wd w) {F : List LI} (h : Fm w F) : blocksS w (blocksS w F) = F := by
  refine Fm.ext ((h.blocks hw).blocks hw) h fun A hA => ?_
  rw [has_blocks hw (h.blocks hw) hA, has_blocks hw h (rest_pl w A), rest_rest hA, Bool.not_not]
end Gq
set_option Elab.async false
set_option linter.all false
set_option maxRecDepth 100000
set_option maxHeartbeats 1000000
/-! Own base 7: promises of the defs on sets and families, and the small steps for them. -/
namespace Gq
open PySem PySem.Spec PyProof.Rows L2
theorem wd_isI {n : Nat} (h : Wd n) : isI (.int (n : Int)) = true := by rcases h with rfl | rfl | rfl | rfl <;> decide +kernel
theorem filter_yes {α : Type} (l : List α) : l.filter (fun _ => true) = l := List.filter_eq_self.mpr fun _ _ => rfl
def spCkW : Sp := fun vs H Q _ => ∃ n : Nat, vs = [.int (n : Int)] ∧ Wd n ∧ Q .non H
def spIsPl : Sp := fun vs H Q _ => ∃ (n : Nat) (p : Int), vs = [.int (n : Int), .int p] ∧ Wd n ∧ 0 ≤ p ∧ p < (n : Int) ∧ ∀ H', Same H H' → Q (.bl true) H'
def spSub : Sp := fun vs H Q _ => ∃ (x y : V) (a b : LI), vs = [x, y] ∧ SetV a x H ∧ SetV b y H ∧ b.length ≤ 1000 ∧ ∀ H', Same H H' → Q (.bl (sub a b)) H'
theorem setTup {b : LI} {v : V} {H : Hp} (h : SetV b v H) : TupR (fun (p : Int) v _ => v = .int p) b v H := by
  obtain ⟨p, rfl, hp⟩ := h
  exact ⟨p, _, rfl, hp, Rel.mk_map fun _ _ => rfl⟩
theorem inV_int (p : Int) : ∀ a : LI, inV (.int p) (a.map V.int) = decide (p ∈ a)
  | [] => rfl
  | x :: a => by
    have ih := inV_int p a
    unfold inV at ih ⊢
    rw [List.map_cons, List.any_cons, ih]
    show ((x == p) || decide (p ∈ a)) = decide (p ∈ x :: a)
    rw [Bool.eq_iff_iff, Bool.or_eq_true, beq_iff_eq, decide_eq_true_iff, decide_eq_true_iff, List.mem_cons]
    constructor
    · rintro (h | h)
      · exact .inl h.symm
      · exact .inr h
    · rintro (h | h)
      · exact .inl h.symm
      · exact .inr h
theorem flat_ints (a : LI) : (a.map V.int).all flatV = true := by
  rw [List.all_map, List.all_eq_true]
  intro _ _
  rfl
section
variable {K : PySem.W.Frag} {σ : L2.St} {H : Hp} {ta tb te : TE}
theorem er_in {A : LI} {p : Int} (ha : Er ta σ H (Is (.int p))) (hb : Er tb σ H (SetV A)) : Er (tOp (rIn K false) ta tb) σ H (Is (.bl (decide (p ∈ A)))) :=
  er_op ha hb (fun _ _ _ _ r => r) fun x y H1 _ rx ry Q q => by
    cases (show x = .int p from rx)
    obtain ⟨b, rfl, hb⟩ := ry
    refine ⟨b, _, rfl, .inr (SqT.of hb), rfl, flat_ints A, ?_⟩
    rw [inV_int]
    exact q _ H1 (Same.refl H1) rfl
theorem er_notIn {A : LI} {p : Int} (ha : Er ta σ H (Is (.int p))) (hb : Er tb σ H (SetV A)) : Er (tOp (rIn K true) ta tb) σ H (Is (.bl (decide (p ∉ A)))) :=
  er_op ha hb (fun _ _ _ _ r => r) fun x y H1 _ rx ry Q q => by
    cases (show x = .int p from rx)
    obtain ⟨b, rfl, hb⟩ := ry
    refine ⟨b, _, rfl, .inr (SqT.of hb), rfl, flat_ints A, ?_⟩
    rw [inV_int]
    refine q _ H1 (Same.refl H1) ?_
    show V.bl (!decide (p ∈ A)) = V.bl (decide (p ∉ A))
    rw [decide_not]
theorem er_all {bs : List Bool} {b : Bool} (h : Er te σ H (LstR (fun (c : Bool) v _ => v = .bl c) bs)) (e : bs.all id = b) : Er (tCB (rAll K) (tCons te tNil)) σ H (Is (.bl b)) :=
  er_cb1 h fun x H1 _ rx Q q => by
    obtain ⟨p, xs, rfl, hp, rel⟩ := rx
    rw [rel.of_map] at hp
    exact ⟨p, bs, rfl, SqL.of hp, q _ H1 (Same.refl H1) (congrArg V.bl e)⟩
theorem er_any {bs : List Bool} {b : Bool} (h : Er te σ H (LstR (fun (c : Bool) v _ => v = .bl c) bs)) (e : bs.any id = b) : Er (tCB (rAny K) (tCons te tNil)) σ H (Is (.bl b)) :=
  er_cb1 h fun x H1 _ rx Q q => by
    obtain ⟨p, xs, rfl, hp, rel⟩ := rx
    rw [rel.of_map] at hp
    exact ⟨p, bs, rfl, SqL.of hp, q _ H1 (Same.refl H1) (congrArg V.bl e)⟩
end
end Gq
set_option Elab.async false
set_option linter.all false
set_option maxRecDepth 100000
set_option maxHeartbeats 1000000
/-! Own base 8: the layer's rules with the written part named (for elements of comprehensions). -/
namespace Gq
open PySem PySem.Spec PyProof.Rows L2
section
variable {X : Cx} {K : PySem.W.Frag}
theorem op_inK (h : X.K = K) : OpR X (compareOp .In) (rIn K false) := h ▸ op_in_seq
theorem op_notInK (h : X.K = K) : OpR X (compareOp .NotIn) (rIn K true) := h ▸ op_notIn_seq
theorem op_eqK (h : X.K = K) (hu : X.A.units + 64 < cLine) : OpR X (compareOp .Eq) (rEqD K) := h ▸ op_eqD hu
theorem op_neK (h : X.K = K) (hu : X.A.units + 64 < cLine) : OpR X (compareOp .NotEq) (rNeD K) := h ▸ op_neD hu
theorem op_catTK (h : X.K = K) : OpR X (binaryOp .Add) (rCatT K) := h ▸ op_catT
theorem cr_allK (h : X.K = K) (hc : X.calm = true) : CallR X (.builtin "all") (rAll K) := h ▸ cr_all hc
theorem cr_anyK (h : X.K = K) (hc : X.calm = true) : CallR X (.builtin "any") (rAny K) := h ▸ cr_any hc
def rTupOf (K : PySem.W.Frag) : List V → Hp → VK → Prop := fun xs H Q => ∃ p ys, xs = [.ref p] ∧ ((SqL K H p ys ∧ ∀ l, H l = none → Q (.ref l) (upd H l (.tup ys))) ∨ (SqT K H p ys ∧ Q (.ref p) H))
theorem call_tupK (h : X.K = K) : CallR X (.type "tuple") (rTupOf K) := h ▸ call_tuple_of
def rLenOf (K : PySem.W.Frag) : List V → Hp → VK → Prop := fun xs H Q => ∃ p ys, xs = [.ref p] ∧ (SqL K H p ys ∨ SqT K H p ys) ∧ Q (.int ys.length) H
theorem call_lenK (h : X.K = K) : CallR X (.builtin "len") (rLenOf K) := h ▸ call_len_seq
theorem call_isiK2 (h : X.K = K) : CallR X (.builtin "isinstance") (rIsi K) := h ▸ call_isi
theorem ix_listK (h : X.K = K) : IxR X (rIxL K) := h ▸ ix_list
theorem ix_tupK (h : X.K = K) : IxR X (rIxT K) := h ▸ ix_tup
theorem sl_listK (h : X.K = K) : SlR X (rSlL K) := h ▸ sl_list
theorem sl_tupK (h : X.K = K) : SlR X (rSlA K) := h ▸ sl_tupA
theorem pi_listK {l tg : Expr} {tl : TE} (h : X.K = K) (hl : PE X l tl) : PI X tg l (iList K tl) := h ▸ pi_list hl
theorem pi_tupK {l tg : Expr} {tl : TE} (h : X.K = K) (hl : PE X l tl) : PI X tg l (iTup K tl) := h ▸ pi_tup hl
end
/-! ### data equal -/
theorem eqv_ints : ∀ a b : LI, PyData.eqvAll (a.map PyData.int) (b.map PyData.int) = decide (a = b)
  | [], [] => rfl
  | [], _ :: _ => rfl
  | _ :: _, [] => rfl
  | x :: a, y :: b => by
    show ((x == y) && PyData.eqvAll (a.map PyData.int) (b.map PyData.int)) = _
    rw [eqv_ints a b, Bool.eq_iff_iff, Bool.and_eq_true, beq_iff_eq, decide_eq_true_iff, decide_eq_true_iff, List.cons.injEq]
def dSet (a : LI) : PyData := .tuple (a.map PyData.int)
def dFam (F : List LI) : PyData := .tuple (F.map dSet)
theorem eqv_set (a b : LI) : PyData.eqv (dSet a) (dSet b) = decide (a = b) := eqv_ints a b
theorem eqv_sets : ∀ F G : List LI, PyData.eqvAll (F.map dSet) (G.map dSet) = decide (F = G)
  | [], [] => rfl
  | [], _ :: _ => rfl
  | _ :: _, [] => rfl
  | x :: a, y :: b => by
    show (PyData.eqv (dSet x) (dSet y) && PyData.eqvAll (a.map dSet) (b.map dSet)) = _
    rw [eqv_set, eqv_sets a b, Bool.eq_iff_iff, Bool.and_eq_true, decide_eq_true_iff, decide_eq_true_iff, decide_eq_true_iff, List.cons.injEq]
theorem eqv_fam (F G : List LI) : PyData.eqv (dFam F) (dFam G) = decide (F = G) := eqv_sets F G
theorem dp_ints {K : PySem.W.Frag} {H : Hp} : ∀ a : LI, DpAll K H (a.map V.int) (a.map PyData.int)
  | [] => .nil
  | x :: a => .cons (.int x) (dp_ints a)
theorem dp_set {K : PySem.W.Frag} {H : Hp} {a : LI} {v : V} (h : SetV a v H) : Dp K H v (dSet a) := by
  obtain ⟨p, rfl, hp⟩ := h
  exact .tup (SqT.of hp) (dp_ints a)
theorem dp_sets {K : PySem.W.Frag} {H : Hp} : ∀ {vs : List V} {F : List LI}, Rel SetV H vs F → DpAll K H vs (F.map dSet)
  | _, _, .nil => .nil
  | _, _, .cons h t => .cons (dp_set h) (dp_sets t)
theorem dp_fam {K : PySem.W.Frag} {H : Hp} {F : List LI} {v : V} (h : FamT F v H) : Dp K H v (dFam F) := by
  obtain ⟨p, xs, rfl, hp, r⟩ := h
  exact .tup (SqT.of hp) (dp_sets r)
theorem canLay_ints : ∀ a : LI, PyData.canLayAll0 (a.map PyData.int) = true
  | [] => by first | rfl | simp [PyData.canLayAll0]
  | x :: a => by
    have ih := canLay_ints a
    simp only [List.map_cons, PyData.canLayAll0, PyData.canLay0, ih, Bool.and_self]
theorem canLay_sets : ∀ F : List LI, PyData.canLayAll0 (F.map dSet) = true
  | [] => by first | rfl | simp [PyData.canLayAll0]
  | x :: F => by
    have ih := canLay_sets F
    simp only [List.map_cons, PyData.canLayAll0, dSet, PyData.canLay0, canLay_ints, ih, Bool.and_self]
theorem depth_ints : ∀ a : LI, PyData.depthAll (a.map PyData.int) ≤ 1
  | [] => by simp [PyData.depthAll]
  | x :: a => by
    have ih := depth_ints a
    simp only [List.map_cons, PyData.depthAll, PyData.depth]
    omega
theorem depth_sets : ∀ F : List LI, PyData.depthAll (F.map dSet) ≤ 4
  | [] => by simp [PyData.depthAll]
  | x :: F => by
    have ih := depth_sets F
    have := depth_ints x
    simp only [List.map_cons, PyData.depthAll, dSet, PyData.depth]
    omega
theorem shaped_set (a : LI) : SeqAt.shaped (dSet a) = true := by
  have := depth_ints a
  unfold SeqAt.shaped
  rw [Bool.and_eq_true]
  refine ⟨by simp only [dSet, PyData.canLay0, canLay_ints], decide_eq_true ?_⟩
  simp only [dSet, PyData.depth]
  omega
theorem shaped_fam (F : List LI) : SeqAt.shaped (dFam F) = true := by
  have := depth_sets F
  unfold SeqAt.shaped
  rw [Bool.and_eq_true]
  refine ⟨by simp only [dFam, PyData.canLay0, canLay_sets], decide_eq_true ?_⟩
  simp only [dFam, PyData.depth]
  omega
section
variable {K : PySem.W.Frag} {σ : L2.St} {H : Hp} {ta tb te : TE}
theorem er_eqSet {a b : LI} (ha : Er ta σ H (SetV a)) (hb : Er tb σ H (SetV b)) : Er (tOp (rEqD K) ta tb) σ H (Is (.bl (decide (a = b)))) :=
  er_op ha hb (Mo.set a).mono fun x y H1 _ rx ry Q q => ⟨dSet a, dSet b, dp_set rx, dp_set ry, shaped_set a, shaped_set b, by rw [eqv_set]; exact q _ H1 (Same.refl H1) rfl⟩
theorem er_neSet {a b : LI} (ha : Er ta σ H (SetV a)) (hb : Er tb σ H (SetV b)) : Er (tOp (rNeD K) ta tb) σ H (Is (.bl (decide (a ≠ b)))) :=
  er_op ha hb (Mo.set a).mono fun x y H1 _ rx ry Q q => ⟨dSet a, dSet b, dp_set rx, dp_set ry, shaped_set a, shaped_set b, by rw [eqv_set, ← decide_not]; exact q _ H1 (Same.refl H1) rfl⟩
theorem er_eqFam {F G : List LI} (ha : Er ta σ H (FamT F)) (hb : Er tb σ H (FamT G)) : Er (tOp (rEqD K) ta tb) σ H (Is (.bl (decide (F = G)))) :=
  er_op ha hb (Mo.fam F).mono fun x y H1 _ rx ry Q q => ⟨dFam F, dFam G, dp_fam rx, dp_fam ry, shaped_fam F, shaped_fam G, by rw [eqv_fam]; exact q _ H1 (Same.refl H1) rfl⟩
theorem er_neFam {F G : List LI} (ha : Er ta σ H (FamT F)) (hb : Er tb σ H (FamT G)) : Er (tOp (rNeD K) ta tb) σ H (Is (.bl (decide (F ≠ G)))) :=
  er_op ha hb (Mo.fam F).mono fun x y H1 _ rx ry Q q => ⟨dFam F, dFam G, dp_fam rx, dp_fam ry, shaped_fam F, shaped_fam G, by rw [eqv_fam, ← decide_not]; exact q _ H1 (Same.refl H1) rfl⟩
/-- tuple of a list -/
theorem er_tupOf {α : Type} {R : α → V → Hp → Prop} (m : ∀ a, Mo (R a)) {as : List α} (h : Er te σ H (LstR R as)) : Er (tCB (rTupOf K) (tCons te tNil)) σ H (TupR R as) :=
  er_cb1 h fun x H1 _ rx Q q => by
    obtain ⟨p, xs, rfl, hp, rel⟩ := rx
    refine ⟨p, xs, rfl, .inl ⟨SqL.of hp, fun l hl => q _ _ (same_upd hl) ⟨l, xs, rfl, upd_same, ?_⟩⟩⟩
    exact rel.imp fun a v => (m a).mono v _ _ (same_upd hl)
theorem er_tupInts {A : LI} (h : Er te σ H (LstR (fun (p : Int) v _ => v = .int p) A)) : Er (tCB (rTupOf K) (tCons te tNil)) σ H (SetV A) :=
  er_cb1 h fun x H1 _ rx Q q => by
    obtain ⟨p, xs, rfl, hp, rel⟩ := rx
    refine ⟨p, xs, rfl, .inl ⟨SqL.of hp, fun l hl => q _ _ (same_upd hl) ⟨l, rfl, ?_⟩⟩⟩
    rw [rel.of_map]
    exact upd_same
theorem er_tup0 : Er (tTup tNil) σ H (SetV []) := fun H1 e Q q => ⟨(by show 0 ≤ sizeLine; decide), fun p hp => q _ _ (same_upd hp) ⟨p, rfl, upd_same⟩⟩
theorem isi_tup {x : V} {a : LI} {T : String} {H1 : Hp} {Q : VK} (h : SetV a x H1) (b : Bool) (e : kitB "tuple" T = some b) (q : Q (.bl b) H1) : rIsi K [x, .ty T] H1 Q := by
  obtain ⟨p, rfl, hp⟩ := h
  exact ⟨_, _, .type "tuple", .type T, b, rfl, .ty _, Vk.ty (.tup hp), kit_ty e, q⟩
theorem isi_fam {x : V} {F : List LI} {T : String} {H1 : Hp} {Q : VK} (h : FamT F x H1) (b : Bool) (e : kitB "tuple" T = some b) (q : Q (.bl b) H1) : rIsi K [x, .ty T] H1 Q := by
  obtain ⟨p, xs, rfl, hp, _⟩ := h
  exact ⟨_, _, .type "tuple", .type T, b, rfl, .ty _, Vk.ty (.tup hp), kit_ty e, q⟩
end
end Gq
set_option Elab.async false
set_option linter.all false
set_option maxRecDepth 100000
set_option maxHeartbeats 1000000
/-! Own base 9: further promises. -/
namespace Gq
open PySem PySem.Spec PyProof.Rows L2
def spMeet : Sp := fun vs H Q _ => ∃ (x y : V) (a b : LI), vs = [x, y] ∧ SetV a x H ∧ SetV b y H ∧ b.length ≤ 1000 ∧ ∀ H', Same H H' → Q (.bl (meets a b)) H'
def spHas : Sp := fun vs H Q _ => ∃ (x y : V) (G : List LI) (a : LI), vs = [x, y] ∧ FamT G x H ∧ SetV a y H ∧ G.length ≤ 1000 ∧ (∀ g ∈ G, g.length ≤ 1000) ∧ ∀ H', Same H H' → Q (.bl (has G a)) H'
def spLeast : Sp := fun vs H Q _ => ∃ (x : V) (G : List LI), vs = [x] ∧ (FamL G x H ∨ FamT G x H) ∧ G.length < 64 ∧ (∀ g ∈ G, g ≠ [] ∧ g.length ≤ 1000) ∧ ∀ v H', Same H H' → FamT (minS G) v H' → Q v H'
theorem insL_len (A : LI) : ∀ r : List LI, (insL A r).length ≤ r.length + 1
  | [] => by simp [insL]
  | B :: r => by
    have ih := insL_len A r
    unfold insL
    split
    · simp
    · split
      · simp
      · simp only [List.length_cons]
        omega
theorem sortS_len : ∀ X : List LI, (sortS X).length ≤ X.length
  | [] => Nat.le_refl _
  | A :: X => by
    have ih := sortS_len X
    have := insL_len A (sortS X)
    show (insL A (sortS X)).length ≤ X.length + 1
    omega
theorem rel_addr {H : Hp} : ∀ {vs : List V} {G : List LI}, Rel SetV H vs G → ∃ ks : List (Addr × List Int), vs = ks.map (fun p => V.ref p.1) ∧ G = ks.map (·.2) ∧ ∀ p ∈ ks, H p.1 = some (.tup (p.2.map V.int))
  | _, _, .nil => ⟨[], rfl, rfl, fun p hp => by cases hp⟩
  | _, _, .cons h t => by
    obtain ⟨a, rfl, ha⟩ := h
    obtain ⟨ks, rfl, rfl, hk⟩ := rel_addr t
    refine ⟨(a, _) :: ks, rfl, rfl, fun p hp => ?_⟩
    rcases List.mem_cons.mp hp with rfl | hp
    · exact ha
    · exact hk p hp
theorem rel_of_addr {H : Hp} : ∀ {ks : List (Addr × List Int)}, (∀ p ∈ ks, H p.1 = some (.tup (p.2.map V.int))) → Rel SetV H (ks.map fun p => V.ref p.1) (ks.map (·.2))
  | [], _ => .nil
  | k :: ks, h => .cons ⟨_, rfl, h k List.mem_cons_self⟩ (rel_of_addr fun p hp => h p (List.mem_cons_of_mem _ hp))
section
variable {K : PySem.W.Frag} {P : Program} {w : World} {σ : L2.St} {H : Hp} {ta tb te : TE}
theorem er_sub {a b : LI} (ha : Er ta σ H (SetV a)) (hb : Er tb σ H (SetV b)) (hz : b.length ≤ 1000) : Er (tCall spSub [] E0 (tCons ta (tCons tb tNil))) σ H (Is (.bl (sub a b))) :=
  er_call2 ha hb (Mo.set a).mono fun x y H1 _ rx ry Q q => ⟨x, y, a, b, rfl, rx, ry, hz, fun H' s => q _ H' s rfl⟩
theorem er_meets {a b : LI} (ha : Er ta σ H (SetV a)) (hb : Er tb σ H (SetV b)) (hz : b.length ≤ 1000) : Er (tCall spMeet [] E0 (tCons ta (tCons tb tNil))) σ H (Is (.bl (meets a b))) :=
  er_call2 ha hb (Mo.set a).mono fun x y H1 _ rx ry Q q => ⟨x, y, a, b, rfl, rx, ry, hz, fun H' s => q _ H' s rfl⟩
theorem er_hasL {G : List LI} {a : LI} (ha : Er ta σ H (FamT G)) (hb : Er tb σ H (SetV a)) (hn : G.length ≤ 1000) (hz : ∀ g ∈ G, g.length ≤ 1000) : Er (tCall spHas [] E0 (tCons ta (tCons tb tNil))) σ H (Is (.bl (has G a))) :=
  er_call2 ha hb (Mo.fam G).mono fun x y H1 _ rx ry Q q => ⟨x, y, G, a, rfl, rx, ry, hn, hz, fun H' s => q _ H' s rfl⟩
theorem er_leastF {G : List LI} (ha : Er ta σ H (fun v H => FamL G v H ∨ FamT G v H)) (hn : G.length < 64) (hz : ∀ g ∈ G, g ≠ [] ∧ g.length ≤ 1000) : Er (tCall spLeast [] E0 (tCons ta tNil)) σ H (FamT (minS G)) :=
  er_call1 ha fun x H1 _ rx Q q => ⟨x, G, rfl, rx, hn, hz, q⟩
/-- sorted(set(x)) -/
theorem er_sortedSet {G : List LI} (h : Er te σ H (fun v H => FamL G v H ∨ FamT G v H)) (hn : G.length < 64) (hz : ∀ g ∈ G, g ≠ []) :
    Er (tCB (rSortedL K P w) (tCons (tCB (rSetOfU K P w) (tCons te tNil)) tNil)) σ H (FamL (sortS G)) := fun H1 e1 Q q =>
  h H1 e1 _ fun x H2 e2 rx => by
    have go : ∀ (l : Addr) (xs : List V), x = .ref l → (SqL K H2 l xs ∨ SqT K H2 l xs) → Rel SetV H2 xs G → tCons (tCB (rSetOfU K P w) (tCons te tNil)) tNil = tCons (tCB (rSetOfU K P w) (tCons te tNil)) tNil →
        rSetOfU K P w [x] H2 fun x' H1' => rSortedL K P w [x'] H1' Q := by
      intro l xs e hs rel _
      subst e
      obtain ⟨ks, rfl, rfl, hk⟩ := rel_addr rel
      rw [List.length_map] at hn
      refine ⟨l, ks, rfl, hs, fun p hp => SqT.of (hk p hp), hn, fun a L ha hL hK => ?_⟩
      have s3 := same_upd (o := SetTO P w a L) ha
      refine ⟨a, L, rfl, upd_same, fun p hp => SqT.of (s3 _ _ (hk p (hL p hp))), fun p hp => hz _ (List.mem_map.mpr ⟨p, hL p hp, rfl⟩), fun L' p pm st hp => ?_⟩
      have s4 := same_upd (o := .lst (L'.map fun q => V.ref q.1)) hp
      refine q _ _ (e2.trans (s3.trans s4)) ⟨p, _, rfl, upd_same, ?_⟩
      have hL' : ∀ r ∈ L', r ∈ ks := fun r hr => hL r (pm.mem_iff.mp hr)
      have es : L'.map (·.2) = sortS (ks.map (·.2)) := by
        refine srt_sortS st fun A => ?_
        constructor
        · intro hA
          obtain ⟨r, hr, rfl⟩ := List.mem_map.mp hA
          exact List.mem_map.mpr ⟨r, hL' r hr, rfl⟩
        · intro hA
          obtain ⟨r, hr, rfl⟩ := List.mem_map.mp hA
          obtain ⟨r2, hr2, e⟩ := List.mem_map.mp (hK r hr)
          exact List.mem_map.mpr ⟨r2, pm.mem_iff.mpr hr2, e⟩
      rw [← es]
      exact rel_of_addr fun r hr => (s3.trans s4) _ _ (hk r (hL' r hr))
    rcases rx with ⟨l, xs, e, hl, rel⟩ | ⟨l, xs, e, hl, rel⟩
    · exact go l xs e (.inl (SqL.of hl)) rel rfl
    · exact go l xs e (.inr (SqT.of hl)) rel rfl
end
end Gq
set_option Elab.async false
set_option linter.all false
set_option maxRecDepth 100000
set_option maxHeartbeats 1000000
/-! Own base 10: ascending rows, places judged, families judged. -/
namespace Gq
open PySem PySem.Spec PyProof.Rows L2
def ascB (a : LI) : Bool := decide (a.Pairwise (· < ·))
def zipB (a : LI) : List Bool := (a.zip (a.drop 1)).map fun p => decide (p.1 < p.2)
theorem zip_asc : ∀ a : LI, (zipB a).all id = ascB a
  | [] => rfl
  | [x] => by
    unfold zipB ascB
    simp
  | x :: y :: r => by
    have ih := zip_asc (y :: r)
    unfold ascB at ih ⊢
    have e : zipB (x :: y :: r) = decide (x < y) :: zipB (y :: r) := rfl
    rw [e, List.all_cons, ih, Bool.eq_iff_iff, Bool.and_eq_true, decide_eq_true_iff]
    show decide (x < y) = true ∧ _ ↔ _
    rw [decide_eq_true_iff, decide_eq_true_iff]
    constructor
    · rintro ⟨h, h2⟩
      refine List.pairwise_cons.mpr ⟨fun z hz => ?_, h2⟩
      rcases List.mem_cons.mp hz with rfl | hz
      · exact h
      · have := (List.pairwise_cons.mp h2).1 z hz
        omega
    · intro h
      obtain ⟨h1, h2⟩ := List.pairwise_cons.mp h
      exact ⟨h1 y List.mem_cons_self, h2⟩
theorem cut1 (xs : List V) : cutV xs (some 1) none = xs.drop 1 := by
  unfold cutV
  rw [show HT.sIx xs.length 0 (some 1) = min 1 xs.length from HT.sIx_nat xs.length 0 1, HT.sIx_none]
  cases xs with
  | nil => rfl
  | cons x r =>
    rw [show min 1 (x :: r).length = 1 by rw [List.length_cons]; omega]
    show List.take ((x :: r).length - 1) r = r
    rw [List.length_cons, Nat.add_sub_cancel]
    exact List.take_length
def spAsc : Sp := fun vs H Q _ => ∃ (x : V) (a : LI), vs = [x] ∧ SetV a x H ∧ a.length ≤ 1000 ∧ ∀ H', Same H H' → Q (.bl (ascB a)) H'
def spArePl : Sp := fun vs H Q _ => ∃ (n : Nat) (x : V) (a : LI), vs = [.int (n : Int), x] ∧ Wd n ∧ SetV a x H ∧ a.length ≤ 1000 ∧ (∀ p ∈ a, 0 ≤ p ∧ p < (n : Int)) ∧ ∀ H', Same H H' → Q (.bl (ascB a)) H'
def spAreSets : Sp := fun vs H Q _ => ∃ (n : Nat) (x : V) (F : List LI), vs = [.int (n : Int), x] ∧ Wd n ∧ FamT F x H ∧ F ≠ [] ∧ F.length ≤ 1000 ∧ (∀ a ∈ F, a ≠ [] ∧ Pl n a) ∧ ∀ H', Same H H' → Q (.bl true) H'
def spIsFam : Sp := fun vs H Q _ => ∃ (n : Nat) (x : V) (F : List LI), vs = [.int (n : Int), x] ∧ Wd n ∧ FamT F x H ∧ Fm n F ∧ ∀ H', Same H H' → Q (.bl true) H'
def spCkFam : Sp := fun vs H Q _ => ∃ (n : Nat) (x : V) (F : List LI), vs = [.int (n : Int), x] ∧ Wd n ∧ FamT F x H ∧ Fm n F ∧ ∀ H', Same H H' → Q .non H'
def spCkPl : Sp := fun vs H Q _ => ∃ (n : Nat) (x : V) (a : LI), vs = [.int (n : Int), x] ∧ Wd n ∧ SetV a x H ∧ Pl n a ∧ ∀ H', Same H H' → Q .non H'
/-- sets of places are short, families too -/
theorem Pl.len {n : Nat} (hw : Wd n) {a : LI} (h : Pl n a) : a.length ≤ 5 := by
  have z := asc_sub (places_asc n) h.1 fun p hp => mem_places.mpr (h.2 p hp)
  have l := z.length_le
  have : (places n).length = n := by unfold places; rw [List.length_map, List.length_range]
  rcases hw with rfl | rfl | rfl | rfl <;> omega
theorem srt_sub : ∀ {X Y : List LI}, Srt X → Srt Y → (∀ p ∈ Y, p ∈ X) → Y.Sublist X
  | [], [], _, _, _ => List.Sublist.slnil
  | [], b :: B, _, _, h => absurd (h b List.mem_cons_self) List.not_mem_nil
  | a :: A, [], _, _, _ => List.nil_sublist _
  | a :: A, b :: B, h1, h2, h => by
    obtain ⟨a1, a2⟩ := List.pairwise_cons.mp h1
    obtain ⟨b1, b2⟩ := List.pairwise_cons.mp h2
    by_cases e : b = a
    · rw [e]
      refine List.Sublist.cons₂ a (srt_sub a2 b2 fun p hp => ?_)
      rcases List.mem_cons.mp (h p (List.mem_cons_of_mem _ hp)) with z | z
      · have l := b1 p hp
        rw [e, z, lex_irr] at l
        cases l
      · exact z
    · have hb : b ∈ A := by
        rcases List.mem_cons.mp (h b List.mem_cons_self) with z | z
        · exact absurd z e
        · exact z
      refine List.Sublist.cons a (srt_sub a2 h2 fun p hp => ?_)
      rcases List.mem_cons.mp (h p hp) with z | z
      · rcases List.mem_cons.mp hp with y | y
        · exact absurd (y.symm.trans z) e
        · have l1 := b1 p y
          have l2 := a1 b hb
          have l3 := lex_trans l2 l1
          rw [z, lex_irr] at l3
          cases l3
      · exact z
theorem allS_len {n : Nat} (hw : Wd n) : (allS n).length ≤ 31 := by rcases hw with rfl | rfl | rfl | rfl <;> decide +kernel
theorem Fm.len {n : Nat} (hw : Wd n) {F : List LI} (h : Fm n F) : F.length ≤ 31 := by
  have z := srt_sub (sortS_srt (allS n)) h.srt fun a ha => mem_sortS.mpr ((mem_allS hw).mpr (h.pl a ha))
  exact Nat.le_trans z.length_le (Nat.le_trans (sortS_len _) (allS_len hw))
section
variable {K : PySem.W.Frag} {σ : L2.St} {H : Hp} {ta tb te : TE} {n : Nat}
theorem er_tail {a : LI} (h : Er te σ H (SetV a)) : Er (tSl (rSlA K) te (tPart (tC (.int 1))) tNoPart) σ H (SetV (a.drop 1)) := fun H1 e Q q =>
  h H1 e _ fun x H2 e2 rx => by
    obtain ⟨p, rfl, hp⟩ := rx
    refine ⟨1, rfl, ?_⟩
    refine ⟨p, _, rfl, SqT.of hp, fun hf => ?_, fun _ l hl => ?_⟩
    · refine q _ H2 e2 ⟨p, rfl, ?_⟩
      have l0 : (a.map V.int).length = 0 := by
        have z := hf.1
        rw [show HT.sIx (a.map V.int).length 0 (some 1) = min 1 (a.map V.int).length from HT.sIx_nat _ 0 1] at z
        omega
      rw [List.length_map] at l0
      rw [List.eq_nil_of_length_eq_zero l0] at hp ⊢
      exact hp
    · refine q _ _ (e2.trans (same_upd hl)) ⟨l, rfl, ?_⟩
      rw [cut1, ← List.map_drop]
      exact upd_same
/-- [low < high for low, high in zip(a, b)] of two tuples of ints -/
theorem er_lcZ {ta : TA} {a b : LI} {j k : Nat} {ws : List Nat} (hn : a.length ≤ 1000)
    (hl : ∀ H1, Same H H1 → ∀ Q : List V → Hp → Prop, (∀ x y H2, Same H1 H2 → SetV a x H2 → SetV b y H2 → Q [x, y] H2) → ta σ H1 Q)
    (hw : ∀ x y, wipe (((wipe σ ws).set j (some x)).set k (some y)) ws = wipe σ ws)
    (he : ∀ x y : Int, ∀ H1, Same H H1 → Er te (((wipe σ ws).set j (some (.int x))).set k (some (.int y))) H1 (Is (.bl (decide (x < y))))) {g : TG}
    (hg : ∀ (T : Addr) (x y : V) (σ1 : L2.St) (H1 : Hp) (Q : L2.St → Hp → Prop), H1 T = some (.tup [x, y]) → Q ((σ1.set j (some x)).set k (some y)) H1 → g (.ref T) σ1 H1 Q) :
    Er (tLc (RZ.iZipA K ta) g tYes te ws) σ H (LstR (fun (c : Bool) v _ => v = .bl c) ((a.zip b).map fun p => decide (p.1 < p.2))) := by
  intro H0 e0 Q q
  refine hl H0 e0 _ fun vx vy H1 s1 rx ry => ?_
  obtain ⟨p, rfl, hp⟩ := rx
  obtain ⟨r, rfl, hr⟩ := ry
  refine ⟨p, r, a.map V.int, b.map V.int, rfl, .inr ⟨SqT.of hp, SqT.of hr, fun D hD => ?_⟩⟩
  have e1 := e0.trans s1
  have hlen : ((a.zip b).map fun p => decide (p.1 < p.2)).length = (a.zip b).length := List.length_map _
  have lz : (a.zip b).length = min a.length b.length := List.length_zip
  refine ⟨fun i m H' => m = (a.zip b).length - i ∧ i ≤ (a.zip b).length ∧ Pv (fun (c : Bool) v _ => v = .bl c) H1 D (((a.zip b).take i).map fun p => decide (p.1 < p.2)) H',
    ⟨_, rfl, Nat.zero_le _, [], same_upd hD, upd_same, .nil⟩, ?_⟩
  rintro i m H' ⟨rfl, hi, pv⟩
  have sm : Same H1 H' := pv.choose_spec.1
  by_cases hlt : i < (a.zip b).length
  · refine .inr ⟨?_, fun H'' => Pv (fun (c : Bool) v _ => v = .bl c) H1 D (((a.zip b).take (i + 1)).map fun p => decide (p.1 < p.2)) H'', fun H'' z => ⟨_, by omega, rfl, by omega, z⟩, ?_⟩
    · refine ⟨a.map V.int, b.map V.int, .int (a[i]'(by omega)), .int (b[i]'(by omega)), SqT.of (sm _ _ hp), SqT.of (sm _ _ hr), ?_, ?_⟩
      · rw [List.getElem?_map, List.getElem?_eq_getElem (by omega)]
        rfl
      · rw [List.getElem?_map, List.getElem?_eq_getElem (by omega)]
        rfl
    · rintro x H'' ⟨T, x1, x2, rfl, nT, rfl, f1, f2⟩
      have y1 := f1 _ (SqT.of (sm _ _ hp))
      have y2 := f2 _ (SqT.of (sm _ _ hr))
      rw [List.getElem?_map, List.getElem?_eq_getElem (show i < a.length by omega)] at y1
      rw [List.getElem?_map, List.getElem?_eq_getElem (show i < b.length by omega)] at y2
      cases y1
      cases y2
      refine hg T _ _ _ _ _ upd_same ⟨hw _ _, ?_⟩
      have pv2 : Pv (fun (c : Bool) v _ => v = .bl c) H1 D (((a.zip b).take i).map fun p => decide (p.1 < p.2)) (upd H' T (.tup [.int a[i], .int b[i]])) := by
        obtain ⟨ys, z1, z2, z3⟩ := pv
        exact ⟨ys, z1.trans (same_upd nT), same_upd nT _ _ z2, Rel.imp (H := H') (H' := upd H' T (.tup [.int a[i], .int b[i]])) (fun c v r => r) z3⟩
      have z := lc_turn (te := te) (t := tYes) (fun c => Mo.is _) hD pv2 (by rw [List.length_map, List.length_take]; omega) et_yes (fun _ => he a[i] b[i] H1 e1)
      rw [if_pos rfl] at z
      have tk : ((a.zip b).take (i + 1)).map (fun p => decide (p.1 < p.2)) = ((a.zip b).take i).map (fun p => decide (p.1 < p.2)) ++ [decide (a[i] < b[i])] := by
        rw [List.take_add_one, List.getElem?_eq_getElem hlt, List.map_append, List.getElem_zip]
        rfl
      rw [← tk] at z
      exact z
  · refine .inl ⟨⟨a.map V.int, b.map V.int, SqT.of (sm _ _ hp), SqT.of (sm _ _ hr), ?_⟩, ?_⟩
    · rw [List.length_map, List.length_map]
      omega
    · obtain ⟨ys, z1, z2, z3⟩ := pv
      rw [List.take_of_length_le (by omega)] at z3
      exact q _ H' (s1.trans z1) ⟨D, ys, rfl, z2, z3⟩
theorem er_asc {a : LI} (h : Er te σ H (SetV a)) (hn : a.length ≤ 1000) : Er (tCall spAsc [] E0 (tCons te tNil)) σ H (Is (.bl (ascB a))) :=
  er_call1 h fun x H1 _ rx Q q => ⟨x, a, rfl, rx, hn, fun H' s => q _ H' s rfl⟩
theorem er_isPl {p : Int} (ha : Er ta σ H (Is (.int (n : Int)))) (hb : Er tb σ H (Is (.int p))) (hw : Wd n) (h0 : 0 ≤ p ∧ p < (n : Int)) : Er (tCall spIsPl [] E0 (tCons ta (tCons tb tNil))) σ H (Is (.bl true)) :=
  er_call2 ha hb (fun _ _ _ _ r => r) fun x y H1 _ rx ry Q q => by
    cases (show x = _ from rx)
    cases (show y = _ from ry)
    exact ⟨n, p, rfl, hw, h0.1, h0.2, fun H' s => q _ H' s rfl⟩
theorem er_arePl {a : LI} (ha : Er ta σ H (Is (.int (n : Int)))) (hb : Er tb σ H (SetV a)) (hw : Wd n) (hn : a.length ≤ 1000) (h0 : ∀ p ∈ a, 0 ≤ p ∧ p < (n : Int)) : Er (tCall spArePl [] E0 (tCons ta (tCons tb tNil))) σ H (Is (.bl (ascB a))) :=
  er_call2 ha hb (fun _ _ _ _ r => r) fun x y H1 _ rx ry Q q => by
    cases (show x = _ from rx)
    exact ⟨n, y, a, rfl, hw, ry, hn, h0, fun H' s => q _ H' s rfl⟩
theorem er_areSets {F : List LI} (ha : Er ta σ H (Is (.int (n : Int)))) (hb : Er tb σ H (FamT F)) (hw : Wd n) (hF : F ≠ []) (hn : F.length ≤ 1000) (h0 : ∀ a ∈ F, a ≠ [] ∧ Pl n a) : Er (tCall spAreSets [] E0 (tCons ta (tCons tb tNil))) σ H (Is (.bl true)) :=
  er_call2 ha hb (fun _ _ _ _ r => r) fun x y H1 _ rx ry Q q => by
    cases (show x = _ from rx)
    exact ⟨n, y, F, rfl, hw, ry, hF, hn, h0, fun H' s => q _ H' s rfl⟩
theorem er_isFam {F : List LI} (ha : Er ta σ H (Is (.int (n : Int)))) (hb : Er tb σ H (FamT F)) (hw : Wd n) (hF : Fm n F) : Er (tCall spIsFam [] E0 (tCons ta (tCons tb tNil))) σ H (Is (.bl true)) :=
  er_call2 ha hb (fun _ _ _ _ r => r) fun x y H1 _ rx ry Q q => by
    cases (show x = _ from rx)
    exact ⟨n, y, F, rfl, hw, ry, hF, fun H' s => q _ H' s rfl⟩
theorem er_ckW (ha : Er ta σ H (Is (.int (n : Int)))) (hw : Wd n) : Er (tCall spCkW [] E0 (tCons ta tNil)) σ H (Is .non) :=
  er_call1 ha fun x H1 _ rx Q q => by
    cases (show x = _ from rx)
    exact ⟨n, rfl, hw, q _ H1 (Same.refl H1) rfl⟩
theorem er_ckFam {F : List LI} (ha : Er ta σ H (Is (.int (n : Int)))) (hb : Er tb σ H (FamT F)) (hw : Wd n) (hF : Fm n F) : Er (tCall spCkFam [] E0 (tCons ta (tCons tb tNil))) σ H (Is .non) :=
  er_call2 ha hb (fun _ _ _ _ r => r) fun x y H1 _ rx ry Q q => by
    cases (show x = _ from rx)
    exact ⟨n, y, F, rfl, hw, ry, hF, fun H' s => q _ H' s rfl⟩
theorem er_ckPl {a : LI} (ha : Er ta σ H (Is (.int (n : Int)))) (hb : Er tb σ H (SetV a)) (hw : Wd n) (hF : Pl n a) : Er (tCall spCkPl [] E0 (tCons ta (tCons tb tNil))) σ H (Is .non) :=
  er_call2 ha hb (fun _ _ _ _ r => r) fun x y H1 _ rx ry Q q => by
    cases (show x = _ from rx)
    exact ⟨n, y, a, rfl, hw, ry, hF, fun H' s => q _ H' s rfl⟩
end
end Gq
namespace Gq
open PySem PySem.Spec PyProof.Rows L2
section
variable {K : PySem.W.Frag} {σ : L2.St} {H : Hp} {te : TE}
theorem er_isiT {a : LI} {b : Bool} (h : Er te σ H (SetV a)) (e : kitB "tuple" "tuple" = some b) : Er (tCB (rIsi K) (tCons te (tCons (tC (.ty "tuple")) tNil))) σ H (Is (.bl b)) := fun H1 e1 Q q =>
  h H1 e1 _ fun x H2 e2 rx => isi_tup rx b e (q _ H2 e2 rfl)
theorem er_isiF {F : List LI} {b : Bool} (h : Er te σ H (FamT F)) (e : kitB "tuple" "tuple" = some b) : Er (tCB (rIsi K) (tCons te (tCons (tC (.ty "tuple")) tNil))) σ H (Is (.bl b)) := fun H1 e1 Q q =>
  h H1 e1 _ fun x H2 e2 rx => isi_fam rx b e (q _ H2 e2 rfl)
theorem er_tup0F : Er (tTup tNil) σ H (FamT []) := fun H1 e Q q => ⟨(by show 0 ≤ sizeLine; decide), fun p hp => q _ _ (same_upd hp) ⟨p, [], rfl, upd_same, .nil⟩⟩
end
end Gq
set_option Elab.async false
set_option linter.all false
set_option maxRecDepth 100000
set_option maxHeartbeats 1000000
/-! Own base 11: all sets of places, the rest, the dual: promises. -/
namespace Gq
open PySem PySem.Spec PyProof.Rows L2
def tTr (K : PySem.W.Frag) (ta : TE) : TT := fun σ H Q => ta σ H fun x H' => ∃ k, TruV K x H' k ∧ Q k H'
theorem pt_truthK {X : Cx} {K : PySem.W.Frag} {a : Expr} {ta : TE} (h : X.K = K) (ha : PE X a ta)
    (he : ∀ whole, isTrue a X.env whole = (do let v ← whole; standAt a.pos; holding [v] (truthy v))) : PT X a (tTr K ta) := h ▸ pt_truth ha he
def bitT (b i : Nat) : Bool := Builtin.bitAnd ((b : Int) / 2 ^ ((i : Int)).toNat) 1 != 0
theorem bit_ok : ∀ b, b < 32 → ∀ i, i < 5 → bitT b i = decide (b / 2 ^ i % 2 ≠ 0) := by decide +kernel
def spPlIn : Sp := fun vs H Q _ => ∃ (n b : Nat), vs = [.int (n : Int), .int (b : Int)] ∧ Wd n ∧ b < 32 ∧ ∀ v H', Same H H' → SetV (placesIn n b) v H' → Q v H'
def spAllS : Sp := fun vs H Q _ => ∃ (n : Nat), vs = [.int (n : Int)] ∧ Wd n ∧ ∀ v H', Same H H' → FamL (allS n) v H' → Q v H'
def spLeastOf : Sp := fun vs H Q _ => ∃ (n : Nat) (x : V) (X : List LI), vs = [.int (n : Int), x] ∧ Wd n ∧ FamT X x H ∧ X ≠ [] ∧ X.length < 64 ∧ (∀ a ∈ X, a ≠ [] ∧ Pl n a) ∧ ∀ v H', Same H H' → FamT (minS X) v H' → Q v H'
def spHeld : Sp := fun vs H Q _ => ∃ (n : Nat) (x y : V) (F : List LI) (a : LI), vs = [.int (n : Int), x, y] ∧ Wd n ∧ FamT F x H ∧ Fm n F ∧ SetV a y H ∧ Pl n a ∧ ∀ H', Same H H' → Q (.bl (has F a)) H'
def spRest : Sp := fun vs H Q _ => ∃ (n : Nat) (y : V) (a : LI), vs = [.int (n : Int), y] ∧ Wd n ∧ SetV a y H ∧ Pl n a ∧ ∀ v H', Same H H' → SetV (restS n a) v H' → Q v H'
def spBlocks : Sp := fun vs H Q _ => ∃ (n : Nat) (x : V) (F : List LI), vs = [.int (n : Int), x] ∧ Wd n ∧ FamT F x H ∧ Fm n F ∧ ∀ v H', Same H H' → FamT (blocksS n F) v H' → Q v H'
section
variable {K : PySem.W.Frag} {σ : L2.St} {H : Hp} {ta tb tc te : TE} {t : TT} {n : Nat}
/-- over range(1, 1 + m) -/
theorem er_lcR2 {β : Type} {tl2 : TA} {j : Nat} {ws : List Nat} (lo : Nat) (m : Nat) {RO : β → V → Hp → Prop} (mo : ∀ b, Mo (RO b)) (f : Nat → Bool) (g : Nat → β)
    (hl : ∀ H1, Same H H1 → ∀ Q : List V → Hp → Prop, (∀ H2, Same H1 H2 → Q [.int (lo : Int), .int ((lo + m : Nat) : Int)] H2) → tl2 σ H1 Q) (hn : m ≤ 1000) (hlo : lo ≤ 1000) (hw : ∀ x, wipe ((wipe σ ws).set j (some x)) ws = wipe σ ws)
    (ht : ∀ i : Nat, i < m → ∀ H1, Same H H1 → Et t ((wipe σ ws).set j (some (.int ((lo + i : Nat) : Int)))) H1 (f i))
    (he : ∀ i : Nat, i < m → f i = true → ∀ H1, Same H H1 → Er te ((wipe σ ws).set j (some (.int ((lo + i : Nat) : Int)))) H1 (RO (g i))) :
    Er (tLc (iRng2 tl2) (gName j) t te ws) σ H (LstR RO (((List.range m).filter f).map g)) := by
  intro H0 e0 Q q
  refine hl H0 e0 _ fun H1 s1 => ?_
  refine ⟨(lo : Int), ((lo + m : Nat) : Int), rfl, ⟨by omega, by omega, by omega, by omega⟩, fun D hD => ?_⟩
  have e1 := e0.trans s1
  have hl2 : (List.range m).length = m := List.length_range
  show ∃ W : Nat → Nat → Hp → Prop, _
  rw [show (((lo + m : Nat) : Int) - (lo : Int)).toNat = m by omega]
  refine lc_range (lo := (lo : Int)) (n := m) (fun i H' => Pv RO H1 D ((((List.range m).take i).filter f).map g) H') ⟨[], same_upd hD, upd_same, .nil⟩ (fun i H' hi pv => ⟨hw _, ?_⟩) (fun H' pv => ?_)
  · have ha : (List.range m)[i]? = some i := by rw [List.getElem?_range hi]
    have z := lc_turn (te := te) mo hD pv (Nat.le_trans (take_len f g) (by omega)) (ht i hi H1 e1) (fun hf => he i hi hf H1 e1)
    rw [← take_f f g ha] at z
    rw [show ((lo : Int) + (i : Int)) = ((lo + i : Nat) : Int) by omega]
    exact z
  · obtain ⟨ys, s2, hy, r2⟩ := pv
    rw [List.take_of_length_le (by omega)] at r2
    exact q _ H' (s1.trans s2) ⟨D, ys, rfl, hy, r2⟩
theorem er_plIn {b : Nat} (ha : Er ta σ H (Is (.int (n : Int)))) (hb : Er tb σ H (Is (.int (b : Int)))) (hw : Wd n) (h32 : b < 32) : Er (tCall spPlIn [] E0 (tCons ta (tCons tb tNil))) σ H (SetV (placesIn n b)) :=
  er_call2 ha hb (fun _ _ _ _ r => r) fun x y H1 _ rx ry Q q => by
    cases (show x = _ from rx)
    cases (show y = _ from ry)
    exact ⟨n, b, rfl, hw, h32, q⟩
theorem er_allS (ha : Er ta σ H (Is (.int (n : Int)))) (hw : Wd n) : Er (tCall spAllS [] E0 (tCons ta tNil)) σ H (FamL (allS n)) :=
  er_call1 ha fun x H1 _ rx Q q => by
    cases (show x = _ from rx)
    exact ⟨n, rfl, hw, q⟩
theorem er_leastOf {X : List LI} (ha : Er ta σ H (Is (.int (n : Int)))) (hb : Er tb σ H (FamT X)) (hw : Wd n) (ne : X ≠ []) (l : X.length < 64) (h0 : ∀ a ∈ X, a ≠ [] ∧ Pl n a) : Er (tCall spLeastOf [] E0 (tCons ta (tCons tb tNil))) σ H (FamT (minS X)) :=
  er_call2 ha hb (fun _ _ _ _ r => r) fun x y H1 _ rx ry Q q => by
    cases (show x = _ from rx)
    exact ⟨n, y, X, rfl, hw, ry, ne, l, h0, q⟩
theorem er_held {F : List LI} {a : LI} (ha : Er ta σ H (Is (.int (n : Int)))) (hb : Er tb σ H (FamT F)) (hc : Er tc σ H (SetV a)) (hw : Wd n) (hF : Fm n F) (hp : Pl n a) : Er (tCall spHeld [] E0 (tCons ta (tCons tb (tCons tc tNil)))) σ H (Is (.bl (has F a))) :=
  er_call3 ha hb hc (fun _ _ _ _ r => r) (Mo.fam F).mono fun x y z H1 _ rx ry rz Q q => by
    cases (show x = _ from rx)
    exact ⟨n, y, z, F, a, rfl, hw, ry, hF, rz, hp, fun H' s => q _ H' s rfl⟩
theorem er_rest {a : LI} (ha : Er ta σ H (Is (.int (n : Int)))) (hb : Er tb σ H (SetV a)) (hw : Wd n) (hp : Pl n a) : Er (tCall spRest [] E0 (tCons ta (tCons tb tNil))) σ H (SetV (restS n a)) :=
  er_call2 ha hb (fun _ _ _ _ r => r) fun x y H1 _ rx ry Q q => by
    cases (show x = _ from rx)
    exact ⟨n, y, a, rfl, hw, ry, hp, q⟩
theorem er_blocks {F : List LI} (ha : Er ta σ H (Is (.int (n : Int)))) (hb : Er tb σ H (FamT F)) (hw : Wd n) (hF : Fm n F) : Er (tCall spBlocks [] E0 (tCons ta (tCons tb tNil))) σ H (FamT (blocksS n F)) :=
  er_call2 ha hb (fun _ _ _ _ r => r) fun x y H1 _ rx ry Q q => by
    cases (show x = _ from rx)
    exact ⟨n, y, F, rfl, hw, ry, hF, q⟩
theorem er_I (i : Int) : Er (tC (.int i)) σ H (Is (.int i)) := er_c
theorem er_truI {i : Int} {b : Bool} (h : Er te σ H (Is (.int i))) (e : (i != 0) = b) : Et (tTr K te) σ H b := fun H1 e1 Q q =>
  h H1 e1 _ fun x H2 e2 rx => by
    cases (show x = .int i from rx)
    exact ⟨b, e.symm, q H2 e2⟩
end
theorem placesIn_eq {n b : Nat} (hw : Wd n) (h32 : b < 32) : ((List.range n).filter fun i => bitT b i).map (fun i : Nat => (i : Int)) = placesIn n b := by
  unfold placesIn
  congr 1
  refine List.filter_congr fun i hi => ?_
  have := List.mem_range.mp hi
  refine bit_ok b h32 i ?_
  rcases hw with rfl | rfl | rfl | rfl <;> omega
theorem restS_eq (n : Nat) (a : LI) : ((List.range n).filter fun i : Nat => decide ((i : Int) ∉ a)).map (fun i : Nat => (i : Int)) = restS n a := by
  unfold restS places
  rw [List.filter_map]
  rfl
theorem two_pow {n : Nat} (hw : Wd n) : (1 : Int) * 2 ^ ((n : Int)).toNat = ((1 + (2 ^ n - 1) : Nat) : Int) ∧ 2 ^ n - 1 ≤ 31 := by
  rcases hw with rfl | rfl | rfl | rfl <;> decide
end Gq
set_option Elab.async false
set_option linter.all false
set_option maxRecDepth 100000
set_option maxHeartbeats 1000000
/-! Own base 12: the laws' own helpers on families. -/
namespace Gq
open PySem PySem.Spec PyProof.Rows L2
theorem op_catAK {X : Cx} {K : PySem.W.Frag} (h : X.K = K) : OpR X (binaryOp .Add) (rCatA K) := h ▸ op_catA
theorem dp_ints2 {K : PySem.W.Frag} {H : Hp} : ∀ {vs : List V} {A : LI}, Rel (fun (p : Int) v _ => v = .int p) H vs A → DpAll K H vs (A.map PyData.int)
  | _, _, .nil => .nil
  | _, _, .cons h t => by
    cases h
    exact .cons (.int _) (dp_ints2 t)
theorem eqvAll_nil (ds : List PyData) : PyData.eqvAll ds [] = decide (ds = []) := by cases ds <;> rfl
theorem shaped_nil : SeqAt.shaped (.list []) = true := by decide
theorem shaped_listI (A : LI) : SeqAt.shaped (.list (A.map PyData.int)) = true := by
  have := depth_ints A
  unfold SeqAt.shaped
  rw [Bool.and_eq_true]
  refine ⟨by simp only [PyData.canLay0, canLay_ints], decide_eq_true ?_⟩
  simp only [PyData.depth]
  omega
theorem shaped_listF (F : List LI) : SeqAt.shaped (.list (F.map dSet)) = true := by
  have := depth_sets F
  unfold SeqAt.shaped
  rw [Bool.and_eq_true]
  refine ⟨by simp only [PyData.canLay0, canLay_sets], decide_eq_true ?_⟩
  simp only [PyData.depth]
  omega
section
variable {K : PySem.W.Frag} {σ : L2.St} {H : Hp} {ta tb tc te : TE} {t : TT} {n : Nat}
theorem er_nilL {α : Type} {R : α → V → Hp → Prop} : Er (tLst tNil) σ H (LstR R []) := fun H1 e Q q => ⟨(by show 0 ≤ sizeLine; decide), fun p hp => q _ _ (same_upd hp) ⟨p, [], rfl, upd_same, .nil⟩⟩
theorem er_eqNilI {A : LI} (h : Er te σ H (LstR (fun (p : Int) v _ => v = .int p) A)) : Er (tOp (rEqD K) te (tLst tNil)) σ H (Is (.bl (decide (A = [])))) :=
  er_op h (er_nilL (R := fun (p : Int) v _ => v = .int p)) (fun v H1 H2 s r => LstR.mono (fun _ => Mo.is _) s r) fun x y H1 _ rx ry Q q => by
    obtain ⟨p, xs, rfl, hp, rel⟩ := rx
    obtain ⟨p2, ys, rfl, hp2, rel2⟩ := ry
    cases rel2
    refine ⟨.list (A.map PyData.int), .list [], .lst (SqL.of hp) (dp_ints2 rel), .lst (SqL.of hp2) .nil, shaped_listI A, shaped_nil, ?_⟩
    have e : PyData.eqv (.list (A.map PyData.int)) (.list []) = decide (A = []) := by
      show PyData.eqvAll _ [] = _
      rw [eqvAll_nil]
      cases A <;> rfl
    rw [e]
    exact q _ H1 (Same.refl H1) rfl
theorem er_eqNilF {F : List LI} (h : Er te σ H (FamL F)) : Er (tOp (rEqD K) te (tLst tNil)) σ H (Is (.bl (decide (F = [])))) :=
  er_op h (er_nilL (R := SetV)) (fun v H1 H2 s r => FamL.mono s r) fun x y H1 _ rx ry Q q => by
    obtain ⟨p, xs, rfl, hp, rel⟩ := rx
    obtain ⟨p2, ys, rfl, hp2, rel2⟩ := ry
    cases rel2
    refine ⟨.list (F.map dSet), .list [], .lst (SqL.of hp) (dp_sets rel), .lst (SqL.of hp2) .nil, shaped_listF F, shaped_nil, ?_⟩
    have e : PyData.eqv (.list (F.map dSet)) (.list []) = decide (F = []) := by
      show PyData.eqvAll _ [] = _
      rw [eqvAll_nil]
      cases F <;> rfl
    rw [e]
    exact q _ H1 (Same.refl H1) rfl
theorem er_neNilI {A : LI} (h : Er te σ H (LstR (fun (p : Int) v _ => v = .int p) A)) : Er (tOp (rNeD K) te (tLst tNil)) σ H (Is (.bl (!decide (A = [])))) :=
  er_op h (er_nilL (R := fun (p : Int) v _ => v = .int p)) (fun v H1 H2 s r => LstR.mono (fun _ => Mo.is _) s r) fun x y H1 _ rx ry Q q => by
    obtain ⟨p, xs, rfl, hp, rel⟩ := rx
    obtain ⟨p2, ys, rfl, hp2, rel2⟩ := ry
    cases rel2
    refine ⟨.list (A.map PyData.int), .list [], .lst (SqL.of hp) (dp_ints2 rel), .lst (SqL.of hp2) .nil, shaped_listI A, shaped_nil, ?_⟩
    have e : PyData.eqv (.list (A.map PyData.int)) (.list []) = decide (A = []) := by
      show PyData.eqvAll _ [] = _
      rw [eqvAll_nil]
      cases A <;> rfl
    rw [e]
    exact q _ H1 (Same.refl H1) rfl
theorem er_neNilF {F : List LI} (h : Er te σ H (FamL F)) : Er (tOp (rNeD K) te (tLst tNil)) σ H (Is (.bl (!decide (F = [])))) :=
  er_op h (er_nilL (R := SetV)) (fun v H1 H2 s r => FamL.mono s r) fun x y H1 _ rx ry Q q => by
    obtain ⟨p, xs, rfl, hp, rel⟩ := rx
    obtain ⟨p2, ys, rfl, hp2, rel2⟩ := ry
    cases rel2
    refine ⟨.list (F.map dSet), .list [], .lst (SqL.of hp) (dp_sets rel), .lst (SqL.of hp2) .nil, shaped_listF F, shaped_nil, ?_⟩
    have e : PyData.eqv (.list (F.map dSet)) (.list []) = decide (F = []) := by
      show PyData.eqvAll _ [] = _
      rw [eqvAll_nil]
      cases F <;> rfl
    rw [e]
    exact q _ H1 (Same.refl H1) rfl
theorem er_catSet {A B : LI} (ha : Er ta σ H (SetV A)) (hb : Er tb σ H (SetV B)) (hz : A.length + B.length ≤ 1000) : Er (tOp (rCatA K) ta tb) σ H (SetV (A ++ B)) :=
  er_op ha hb (Mo.set A).mono fun x y H1 _ rx ry Q q => by
    obtain ⟨p, rfl, hp⟩ := rx
    obtain ⟨r, rfl, hr⟩ := ry
    refine ⟨p, r, _, _, rfl, rfl, SqT.of hp, SqT.of hr, ?_, fun e => ?_, fun _ e => ?_, fun _ _ l hl => ?_⟩
    · rw [List.length_map, List.length_map]
      exact Nat.le_of_lt (small1000 hz)
    · exact q _ H1 (Same.refl H1) ⟨r, rfl, by rw [List.map_eq_nil_iff.mp e]; exact hr⟩
    · exact q _ H1 (Same.refl H1) ⟨p, rfl, by rw [List.map_eq_nil_iff.mp e, List.append_nil]; exact hp⟩
    · exact q _ _ (same_upd hl) ⟨l, rfl, by rw [List.map_append]; exact upd_same⟩
theorem er_catFam {F G : List LI} (ha : Er ta σ H (FamT F)) (hb : Er tb σ H (FamT G)) (hz : F.length + G.length ≤ 1000) : Er (tOp (rCatA K) ta tb) σ H (FamT (F ++ G)) :=
  er_op ha hb (Mo.fam F).mono fun x y H1 _ rx ry Q q => by
    obtain ⟨p, xs, rfl, hp, r1⟩ := rx
    obtain ⟨r, ys, rfl, hr, r2⟩ := ry
    refine ⟨p, r, _, _, rfl, rfl, SqT.of hp, SqT.of hr, ?_, fun e => ?_, fun _ e => ?_, fun _ _ l hl => ?_⟩
    · rw [r1.len, r2.len]
      exact Nat.le_of_lt (small1000 hz)
    · subst e
      cases r1
      exact q _ H1 (Same.refl H1) ⟨r, ys, rfl, hr, r2⟩
    · subst e
      cases r2
      exact q _ H1 (Same.refl H1) ⟨p, xs, rfl, hp, by rw [List.append_nil]; exact r1⟩
    · exact q _ _ (same_upd hl) ⟨l, xs ++ ys, rfl, upd_same, (r1.app r2).imp fun a v => (Mo.set a).mono v _ _ (same_upd hl)⟩
theorem er_tup1 {i : Int} (h : Er te σ H (Is (.int i))) : Er (tTup (tCons te tNil)) σ H (SetV [i]) := fun H1 e Q q =>
  h H1 e _ fun x H2 e2 rx => by
    cases (show x = .int i from rx)
    exact ⟨(by show 1 ≤ sizeLine; decide), fun p hp => q _ _ (e2.trans (same_upd hp)) ⟨p, rfl, upd_same⟩⟩
theorem er_tupF1 {A : LI} (h : Er te σ H (SetV A)) : Er (tTup (tCons te tNil)) σ H (FamT [A]) := fun H1 e Q q =>
  h H1 e _ fun x H2 e2 rx => ⟨(by show 1 ≤ sizeLine; decide), fun p hp => q _ _ (e2.trans (same_upd hp)) ⟨p, [x], rfl, upd_same, .cons ((Mo.set A).mono _ _ _ (same_upd hp) rx) .nil⟩⟩
theorem er_lst1 {A : LI} (h : Er te σ H (SetV A)) : Er (tLst (tCons te tNil)) σ H (FamL [A]) := fun H1 e Q q =>
  h H1 e _ fun x H2 e2 rx => ⟨(by show 1 ≤ sizeLine; decide), fun p hp => q _ _ (e2.trans (same_upd hp)) ⟨p, [x], rfl, upd_same, .cons ((Mo.set A).mono _ _ _ (same_upd hp) rx) .nil⟩⟩
theorem er_catL {F G : List LI} (ha : Er ta σ H (FamL F)) (hb : Er tb σ H (FamL G)) (hz : F.length + G.length ≤ 1000) : Er (tOp rCat ta tb) σ H (FamL (F ++ G)) :=
  er_op ha hb (fun _ _ _ s r => FamL.mono s r) fun x y H1 _ rx ry Q q => by
    obtain ⟨p, xs, rfl, hp, r1⟩ := rx
    obtain ⟨r, ys, rfl, hr, r2⟩ := ry
    refine ⟨p, r, xs, ys, rfl, rfl, hp, hr, ?_, fun l hl => ?_⟩
    · rw [r1.len, r2.len]
      exact Nat.le_of_lt (small1000 hz)
    · exact q _ _ (same_upd hl) ⟨l, xs ++ ys, rfl, upd_same, (r1.app r2).imp fun a v => (Mo.set a).mono v _ _ (same_upd hl)⟩
theorem er_tailL {F : List LI} (h : Er te σ H (FamL F)) : Er (tSl (rSlL K) te (tPart (tC (.int 1))) tNoPart) σ H (FamL (F.drop 1)) := fun H1 e Q q =>
  h H1 e _ fun x H2 e2 rx => by
    obtain ⟨p, xs, rfl, hp, r⟩ := rx
    refine ⟨1, rfl, p, xs, rfl, SqL.of hp, fun l hl => ?_⟩
    refine q _ _ (e2.trans (same_upd hl)) ⟨l, xs.drop 1, rfl, ?_, ?_⟩
    · rw [← cut1]
      exact upd_same
    · exact (r.drop 1).imp fun a v => (Mo.set a).mono v _ _ (same_upd hl)
end
/-! ### repr of families -/
theorem digit_len (p : Int) (h0 : 0 ≤ p) (h1 : p < 5) : (PyData.int p).shown.length = 1 := by
  have : p = 0 ∨ p = 1 ∨ p = 2 ∨ p = 3 ∨ p = 4 := by omega
  rcases this with rfl | rfl | rfl | rfl | rfl <;> decide +kernel
theorem shown_ints : ∀ a : LI, (∀ p ∈ a, 0 ≤ p ∧ p < 5) → piled (PyData.shownAll (a.map PyData.int)) = 3 * a.length
  | [], _ => by simp [PyData.shownAll, piled]
  | p :: a, h => by
    have ih := shown_ints a fun q hq => h q (List.mem_cons_of_mem _ hq)
    obtain ⟨h0, h1⟩ := h p List.mem_cons_self
    simp only [List.map_cons, PyData.shownAll, piled_cons, ih, digit_len p h0 h1, List.length_cons]
    omega
theorem shown_set {a : LI} (h : ∀ p ∈ a, 0 ≤ p ∧ p < 5) (hl : a.length ≤ 5) : (dSet a).shown.length ≤ 17 := by
  have e : (dSet a).shown = tupleText (PyData.shownAll (a.map PyData.int)) := by simp only [dSet, PyData.shown]
  rw [e]
  have := fmt_text (PyData.shownAll (a.map PyData.int))
  rw [shown_ints a h] at this
  omega
theorem shown_sets : ∀ F : List LI, (∀ a ∈ F, (∀ p ∈ a, 0 ≤ p ∧ p < 5) ∧ a.length ≤ 5) → piled (PyData.shownAll (F.map dSet)) ≤ 19 * F.length
  | [], _ => by simp [PyData.shownAll, piled]
  | a :: F, h => by
    have ih := shown_sets F fun q hq => h q (List.mem_cons_of_mem _ hq)
    obtain ⟨h0, h1⟩ := h a List.mem_cons_self
    have := shown_set h0 h1
    simp only [List.map_cons, PyData.shownAll, piled_cons, List.length_cons]
    omega
theorem showable_ints : ∀ a : LI, (∀ p ∈ a, 0 ≤ p ∧ p < 5) → PyData.showableAll (a.map PyData.int) = true
  | [], _ => by simp [PyData.showableAll]
  | p :: a, h => by
    have ih := showable_ints a fun q hq => h q (List.mem_cons_of_mem _ hq)
    obtain ⟨h0, h1⟩ := h p List.mem_cons_self
    have hp : decide (p.natAbs.log2 < 1920) = true := by
      have : p = 0 ∨ p = 1 ∨ p = 2 ∨ p = 3 ∨ p = 4 := by omega
      rcases this with rfl | rfl | rfl | rfl | rfl <;> decide +kernel
    simp only [List.map_cons, PyData.showableAll, PyData.showable, ih, hp, Bool.and_self]
theorem showable_sets : ∀ F : List LI, (∀ a ∈ F, (∀ p ∈ a, 0 ≤ p ∧ p < 5) ∧ a.length ≤ 5) → PyData.showableAll (F.map dSet) = true
  | [], _ => by simp [PyData.showableAll]
  | a :: F, h => by
    have ih := showable_sets F fun q hq => h q (List.mem_cons_of_mem _ hq)
    have h1 := showable_ints a (h a List.mem_cons_self).1
    simp only [List.map_cons, PyData.showableAll, dSet, PyData.showable, ih, h1, Bool.and_self]
theorem hasDict_ints : ∀ a : LI, PyData.hasDictAll (a.map PyData.int) = false
  | [] => by simp [PyData.hasDictAll]
  | p :: a => by simp only [List.map_cons, PyData.hasDictAll, PyData.hasDict, hasDict_ints a, Bool.or_self]
theorem hasDict_sets : ∀ F : List LI, PyData.hasDictAll (F.map dSet) = false
  | [] => by simp [PyData.hasDictAll]
  | a :: F => by simp only [List.map_cons, PyData.hasDictAll, dSet, PyData.hasDict, hasDict_ints a, hasDict_sets F, Bool.or_self]
theorem repr_fam {n : Nat} {F : List LI} (hw : Wd n) (l : F.length ≤ 200) (h : ∀ a ∈ F, Pl n a) : (dFam F).showable = true ∧ (dFam F).hasDict = false ∧ (dFam F).depth ≤ 60 ∧ (dFam F).shown.length ≤ sizeLine := by
  have hp : ∀ a ∈ F, (∀ p ∈ a, 0 ≤ p ∧ p < 5) ∧ a.length ≤ 5 := fun a ha => ⟨fun p hp => by
    have := (h a ha).2 p hp
    have : n ≤ 5 := by rcases hw with rfl | rfl | rfl | rfl <;> decide
    omega, Pl.len hw (h a ha)⟩
  refine ⟨by simp only [dFam, PyData.showable]; exact showable_sets F hp, by simp only [dFam, PyData.hasDict]; exact hasDict_sets F, ?_, ?_⟩
  · have := depth_sets F
    simp only [dFam, PyData.depth]
    omega
  · have e : (dFam F).shown = tupleText (PyData.shownAll (F.map dSet)) := by simp only [dFam, PyData.shown]
    rw [e]
    have h1 := fmt_text (PyData.shownAll (F.map dSet))
    have h2 := shown_sets F hp
    exact Nat.le_trans h1 (Nat.le_trans (show _ ≤ 4000 by omega) (by decide))
theorem er_reprF {K : PySem.W.Frag} {σ : L2.St} {H : Hp} {te : TE} {n : Nat} {F : List LI} (h : Er te σ H (FamT F)) (hw : Wd n) (l : F.length ≤ 200) (hp : ∀ a ∈ F, Pl n a) :
    Er (tCB (rReprD K) (tCons te tNil)) σ H (Is (.str (dFam F).shown)) :=
  er_cb1 h fun x H1 _ rx Q q => by
    obtain ⟨r1, r2, r3, r4⟩ := repr_fam hw l hp
    have d := dp_fam (K := K) rx
    obtain ⟨p, xs, rfl, hp, rel⟩ := rx
    exact ⟨p, dFam F, rfl, d, r1, r2, r3, r4, q _ H1 (Same.refl H1) rfl⟩
/-! ### the laws' own looks -/
def lawP : Nat → List LI
  | 0 => [[]]
  | i + 1 => lawP i ++ (lawP i).map fun a => a ++ [(i : Int)]
theorem lawP_all {n : Nat} (hw : Wd n) : (lawP n).drop 1 = allS n := by rcases hw with rfl | rfl | rfl | rfl <;> decide +kernel
theorem lawP_len : ∀ i, i ≤ 5 → (lawP i).length ≤ 32 ∧ ∀ a ∈ lawP i, a.length ≤ 5 := by decide +kernel
def spHasAll : Sp := fun vs H Q _ => ∃ (x y : V) (a b : LI), vs = [x, y] ∧ SetV a x H ∧ SetV b y H ∧ b.length ≤ 1000 ∧ ∀ H', Same H H' → Q (.bl (sub a b)) H'
def spLawMin : Sp := fun vs H Q _ => ∃ (x : V) (G : List LI), vs = [x] ∧ (FamL G x H ∨ FamT G x H) ∧ G.length < 64 ∧ (∀ g ∈ G, g ≠ [] ∧ g.length ≤ 1000) ∧ ∀ v H', Same H H' → FamT (minS G) v H' → Q v H'
def spLawAll : Sp := fun vs H Q _ => ∃ (n : Nat), vs = [.int (n : Int)] ∧ Wd n ∧ ∀ v H', Same H H' → FamL (allS n) v H' → Q v H'
def spLawBlocks : Sp := fun vs H Q _ => ∃ (n : Nat) (x : V) (F : List LI), vs = [.int (n : Int), x] ∧ Wd n ∧ FamT F x H ∧ Fm n F ∧ ∀ v H', Same H H' → FamT (blocksS n F) v H' → Q v H'
def spSomeFam : Sp := fun vs H Q _ => ∃ (p : Addr) (n : Nat), vs = [.ref p, .int (n : Int)] ∧ Wd n ∧ Dice H p ∧ ∀ v H' F, Fm n F → Roll p H H' → FamT F v H' → Q v H'
theorem sub_filter (a b : LI) : decide ((b.filter fun p => decide (p ∉ a)) = []) = sub a b := by
  rw [Bool.eq_iff_iff, decide_eq_true_iff, List.filter_eq_nil_iff, sub_iff]
  constructor
  · intro h p hp
    have := h p hp
    rw [decide_eq_true_iff] at this
    exact Classical.not_not.mp this
  · intro h p hp z
    exact (of_decide_eq_true z) (h p hp)
theorem meets_filter (a f : LI) : decide ((f.filter fun p => decide (p ∈ a)) = []) = !meets a f := by
  rw [Bool.eq_iff_iff, decide_eq_true_iff, List.filter_eq_nil_iff, Bool.not_eq_true', ← Bool.not_eq_true, meets_iff]
  constructor
  · rintro h ⟨p, hp, ha⟩
    exact h p hp (decide_eq_true ha)
  · intro h p hp z
    exact h ⟨p, hp, of_decide_eq_true z⟩
theorem min_filter (G : List LI) (a : LI) : decide (((sortS G).filter fun o => decide (o ≠ a) && sub a o) = []) = !((sortS G).filter fun o => decide (o ≠ a)).any fun o => sub a o := by
  rw [Bool.eq_iff_iff, decide_eq_true_iff, List.filter_eq_nil_iff, Bool.not_eq_true', ← Bool.not_eq_true, List.any_eq_true]
  constructor
  · rintro h ⟨o, ho, hs⟩
    obtain ⟨h1, h2⟩ := List.mem_filter.mp ho
    exact h o h1 (by rw [h2, hs]; rfl)
  · intro h o ho z
    rw [Bool.and_eq_true] at z
    exact h ⟨o, List.mem_filter.mpr ⟨ho, z.1⟩, z.2⟩
theorem all_filter (F : List LI) (a : LI) : decide ((F.filter fun f => !meets a f) = []) = F.all fun f => meets a f := by
  rw [Bool.eq_iff_iff, decide_eq_true_iff, List.filter_eq_nil_iff, List.all_eq_true]
  constructor
  · intro h f hf
    have := h f hf
    cases e : meets a f with
    | true => rfl
    | false => rw [e] at this; exact absurd rfl this
  · intro h f hf
    rw [h f hf]
    exact Bool.false_ne_true
section
variable {K : PySem.W.Frag} {σ : L2.St} {H : Hp} {ta tb te : TE} {n : Nat}
theorem er_hasAll {a b : LI} (ha : Er ta σ H (SetV a)) (hb : Er tb σ H (SetV b)) (hz : b.length ≤ 1000) : Er (tCall spHasAll [] E0 (tCons ta (tCons tb tNil))) σ H (Is (.bl (sub a b))) :=
  er_call2 ha hb (Mo.set a).mono fun x y H1 _ rx ry Q q => ⟨x, y, a, b, rfl, rx, ry, hz, fun H' s => q _ H' s rfl⟩
theorem er_lawMin {G : List LI} (ha : Er ta σ H (fun v H => FamL G v H ∨ FamT G v H)) (hn : G.length < 64) (hz : ∀ g ∈ G, g ≠ [] ∧ g.length ≤ 1000) : Er (tCall spLawMin [] E0 (tCons ta tNil)) σ H (FamT (minS G)) :=
  er_call1 ha fun x H1 _ rx Q q => ⟨x, G, rfl, rx, hn, hz, q⟩
theorem er_lawAll (ha : Er ta σ H (Is (.int (n : Int)))) (hw : Wd n) : Er (tCall spLawAll [] E0 (tCons ta tNil)) σ H (FamL (allS n)) :=
  er_call1 ha fun x H1 _ rx Q q => by
    cases (show x = _ from rx)
    exact ⟨n, rfl, hw, q⟩
theorem er_lawBlocks {F : List LI} (ha : Er ta σ H (Is (.int (n : Int)))) (hb : Er tb σ H (FamT F)) (hw : Wd n) (hF : Fm n F) : Er (tCall spLawBlocks [] E0 (tCons ta (tCons tb tNil))) σ H (FamT (blocksS n F)) :=
  er_call2 ha hb (fun _ _ _ _ r => r) fun x y H1 _ rx ry Q q => by
    cases (show x = _ from rx)
    exact ⟨n, y, F, rfl, hw, ry, hF, q⟩
end
end Gq
set_option Elab.async false
set_option linter.all false
set_option maxRecDepth 100000
set_option maxHeartbeats 1000000
/-! Own base 13: what stays while dice roll. -/
namespace Gq
open PySem PySem.Spec PyProof.Rows L2
theorem SetV.roll {p : Addr} {A : LI} {v : V} {H H' : Hp} (d : Dice H p) (h : SetV A v H) (r : Roll p H H') : SetV A v H' := by
  obtain ⟨a, rfl, ha⟩ := h
  exact ⟨a, rfl, r.2 _ _ (ne_dice d ha fun _ _ _ e => by cases e) ha⟩
theorem rel_roll {p : Addr} {H H' : Hp} (d : Dice H p) (r : Roll p H H') {vs : List V} {F : List LI} (h : Rel SetV H vs F) : Rel SetV H' vs F := h.imp fun _ _ s => SetV.roll d s r
theorem FamT.roll {p : Addr} {F : List LI} {v : V} {H H' : Hp} (d : Dice H p) (h : FamT F v H) (r : Roll p H H') : FamT F v H' := by
  obtain ⟨a, xs, rfl, ha, rel⟩ := h
  exact ⟨a, xs, rfl, r.2 _ _ (ne_dice d ha fun _ _ _ e => by cases e) ha, rel_roll d r rel⟩
theorem Roll.of_same {p : Addr} {H H' : Hp} (d : Dice H p) (s : Same H H') : Roll p H H' := ⟨d.same s, fun q o _ e => s q o e⟩
theorem Roll.mut {p D : Addr} {H H' : Hp} {o : HO} (r : Roll p H H') (n : H D = none) (ne : D ≠ p) : Roll p H (upd H' D o) := by
  obtain ⟨⟨a, b, c, e⟩, h⟩ := r
  refine ⟨⟨a, b, c, by rw [upd_ne (Ne.symm ne)]; exact e⟩, fun q u nq hq => ?_⟩
  rw [upd_ne (ne_of_none hq n)]
  exact h q u nq hq
theorem rel_mem {H : Hp} {xs : List V} {F : List LI} {v : V} (r : Rel SetV H xs F) (h : v ∈ xs) : ∃ a, a ∈ F ∧ SetV a v H := by
  obtain ⟨i, hi, rfl⟩ := List.mem_iff_getElem.mp h
  obtain ⟨a, ha, ra⟩ := r.get (List.getElem?_eq_getElem hi)
  exact ⟨a, List.mem_of_getElem? ha, ra⟩
end Gq
namespace Gq
open PySem PySem.Spec PyProof.Rows L2
/-- a def of the text by its name, the guards known where it is called -/
structure ClG (P : Program) (w : World) (K : PySem.W.Frag) (mg : Str → Option Value) (base : Heap) (k : Nat) (x : Str) (sp : Sp) : Prop where
  here : ∃ (f : Addr) (fd : FuncData) (ps : List Str), FnG P w K mg base CX0 k f fd ps sp ∧ mg x = some (.ref f) ∧
    PySem.W.keepIn K (.ref f) = true ∧ Binds K fd ps []
theorem pe_cG {X : Cx} {k j : Nat} {x : Str} {sp : Sp} {p pos : Pos} {e : Expr} {es : List Expr} {t : TA} (gd : X.A.guards = some []) (c : ClG X.prog X.w X.K X.mg X.base k x sp) (hr : Room j X.A) (hk : k ≤ j) (hg : Gl X x) (ha : PA X (e :: es) t)
    (hdb : (x == ("__debug__" : Str)) = false := by decide)
    (he : starEach (e :: es) X.env = (false, eval e X.env) :: starEach es X.env := by rfl)
    (hpl : (backTo pos (starEach es X.env)).any (·.1) = false := by rfl) : PE X (.Call (.Name x p) (e :: es) [] pos) (tCall sp [] E0 t) := by
  obtain ⟨f, fd, ps, F, hm, kp, b⟩ := c.here
  exact pe_callG F gd (hr.mono hk) hg hm kp b .nil pass0 ha hdb he hpl
def spRight : Sp := fun vs H Q _ => ∃ (p : Addr) (n : Nat), vs = [.ref p, .int (n : Int)] ∧ Wd n ∧ Dice H p ∧ ∀ H', Roll p H H' → Q (.bl true) H'
theorem er_neStr {σ : L2.St} {H : Hp} {ta tb : TE} {a b : Str} (ha : Er ta σ H (Is (.str a))) (hb : Er tb σ H (Is (.str b))) : Er (tOp rNe ta tb) σ H (Is (.bl (!decide (V.str a = V.str b)))) :=
  er_op ha hb (fun _ _ _ _ r => r) fun x y H1 _ rx ry Q q => by
    cases (show x = _ from rx)
    cases (show y = _ from ry)
    exact ⟨rfl, q _ H1 (Same.refl H1) rfl⟩
theorem er_eqBl {σ : L2.St} {H : Hp} {ta tb : TE} {a b : Bool} (ha : Er ta σ H (Is (.bl a))) (hb : Er tb σ H (Is (.bl b))) : Er (tOp rEq ta tb) σ H (Is (.bl (decide (V.bl a = V.bl b)))) :=
  er_op ha hb (fun _ _ _ _ r => r) fun x y H1 _ rx ry Q q => by
    cases (show x = _ from rx)
    cases (show y = _ from ry)
    exact ⟨rfl, q _ H1 (Same.refl H1) rfl⟩
theorem Wd.of {k : Nat} (h : k < 4) : Wd (2 + k) := by
  unfold Wd
  omega
end Gq
namespace Gq
open PySem PySem.Spec PyProof.Rows L2
theorem s_no {t : TT} {tu : TS} {D : Ends} {σ : L2.St} {H : Hp} (h : Et t σ H false) (k : ∀ H1, Same H H1 → D.nx σ H1) : tIfS t tu tNext D σ H := h H (Same.refl H) _ fun H1 e => iteF (k H1 e)
end Gq
namespace Gq
open PySem PySem.Spec PyProof.Rows L2
instance (n : Nat) : Decidable (Wd n) := by
  unfold Wd
  infer_instance
instance (n : Nat) (A : LI) : Decidable (Pl n A) := by
  unfold Pl
  infer_instance
/-- the items of a display -/
def Ed {α : Type} (R : α → V → Hp → Prop) (ta : TA) (σ : L2.St) (H : Hp) (as : List α) : Prop :=
  ∀ H1, Same H H1 → ∀ Q : List V → Hp → Prop, (∀ vs H2, Same H1 H2 → Rel R H2 vs as → Q vs H2) → ta σ H1 Q
section
variable {σ : L2.St} {H : Hp} {te : TE} {ta : TA} {K : PySem.W.Frag}
theorem ed_nil {α : Type} {R : α → V → Hp → Prop} : Ed R tNil σ H [] := fun H1 _ Q q => q [] H1 (Same.refl H1) .nil
theorem ed_cons {α : Type} {R : α → V → Hp → Prop} (m : ∀ a, Mo (R a)) {a : α} {as : List α} (h : Er te σ H (R a)) (hr : Ed R ta σ H as) : Ed R (tCons te ta) σ H (a :: as) := fun H1 e Q q =>
  h H1 e _ fun v H2 e2 rv => hr H2 (e.trans e2) _ fun vs H3 e3 rs => q (v :: vs) H3 (e2.trans e3) (.cons ((m a).mono _ _ _ e3 rv) rs)
theorem er_tupD {α : Type} {R : α → V → Hp → Prop} (m : ∀ a, Mo (R a)) {as : List α} (h : Ed R ta σ H as) (l : as.length ≤ 1000) : Er (tTup ta) σ H (TupR R as) := fun H1 e Q q =>
  h H1 e _ fun vs H2 e2 r => ⟨Nat.le_of_lt (small1000 (by rw [r.len]; exact l)), fun p hp => q _ _ (e2.trans (same_upd hp)) ⟨p, vs, rfl, upd_same, r.imp fun a v => (m a).mono v _ _ (same_upd hp)⟩⟩
theorem er_lstD {α : Type} {R : α → V → Hp → Prop} (m : ∀ a, Mo (R a)) {as : List α} (h : Ed R ta σ H as) (l : as.length ≤ 1000) : Er (tLst ta) σ H (LstR R as) := fun H1 e Q q =>
  h H1 e _ fun vs H2 e2 r => ⟨Nat.le_of_lt (small1000 (by rw [r.len]; exact l)), fun p hp => q _ _ (e2.trans (same_upd hp)) ⟨p, vs, rfl, upd_same, r.imp fun a v => (m a).mono v _ _ (same_upd hp)⟩⟩
theorem er_tupI {A : LI} (h : Ed (fun (i : Int) v _ => v = .int i) ta σ H A) (l : A.length ≤ 1000) : Er (tTup ta) σ H (SetV A) :=
  (er_tupD (fun _ => Mo.is _) h l).imp fun v H1 _ r => by
    obtain ⟨p, xs, rfl, hp, rel⟩ := r
    rw [rel.of_map] at hp
    exact ⟨p, rfl, hp⟩
theorem ed_int {i : Int} {A : LI} (hr : Ed (fun (i : Int) v _ => v = .int i) ta σ H A) : Ed (fun (i : Int) v _ => v = .int i) (tCons (tC (.int i)) ta) σ H (i :: A) :=
  ed_cons (fun _ => Mo.is _) (er_c (x := .int i)) hr
theorem ed_set {ts : TA} {A : LI} {F : List LI} (h : Ed (fun (i : Int) v _ => v = .int i) ts σ H A) (l : A.length ≤ 1000) (hr : Ed SetV ta σ H F) : Ed SetV (tCons (tTup ts) ta) σ H (A :: F) := ed_cons Mo.set (er_tupI h l) hr
theorem dp_fams {H : Hp} : ∀ {vs : List V} {Fs : List (List LI)}, Rel FamT H vs Fs → DpAll K H vs (Fs.map dFam)
  | _, _, .nil => .nil
  | _, _, .cons h t => .cons (dp_fam h) (dp_fams t)
theorem eqv_fams : ∀ F G : List (List LI), PyData.eqvAll (F.map dFam) (G.map dFam) = decide (F = G)
  | [], [] => rfl
  | [], _ :: _ => rfl
  | _ :: _, [] => rfl
  | x :: a, y :: b => by
    show (PyData.eqv (dFam x) (dFam y) && PyData.eqvAll (a.map dFam) (b.map dFam)) = _
    rw [eqv_fam, eqv_fams a b, Bool.eq_iff_iff, Bool.and_eq_true, decide_eq_true_iff, decide_eq_true_iff, decide_eq_true_iff, List.cons.injEq]
theorem canLay_fams : ∀ F : List (List LI), PyData.canLayAll0 (F.map dFam) = true
  | [] => by first | rfl | simp [PyData.canLayAll0]
  | x :: F => by
    have ih := canLay_fams F
    simp only [List.map_cons, PyData.canLayAll0, dFam, PyData.canLay0, canLay_sets, ih, Bool.and_self]
theorem depth_fams : ∀ F : List (List LI), PyData.depthAll (F.map dFam) ≤ 6
  | [] => by simp [PyData.depthAll]
  | x :: F => by
    have ih := depth_fams F
    have := depth_sets x
    simp only [List.map_cons, PyData.depthAll, dFam, PyData.depth]
    omega
theorem shaped_fams (F : List (List LI)) : SeqAt.shaped (.list (F.map dFam)) = true := by
  have := depth_fams F
  unfold SeqAt.shaped
  rw [Bool.and_eq_true]
  refine ⟨by simp only [PyData.canLay0, canLay_fams], decide_eq_true ?_⟩
  simp only [PyData.depth]
  omega
theorem er_eqFams {ta tb : TE} {F G : List (List LI)} (ha : Er ta σ H (LstR FamT F)) (hb : Er tb σ H (LstR FamT G)) : Er (tOp (rEqD K) ta tb) σ H (Is (.bl (decide (F = G)))) :=
  er_op ha hb (fun _ _ _ s r => LstR.mono Mo.fam s r) fun x y H1 _ rx ry Q q => by
    obtain ⟨p, xs, rfl, hp, r1⟩ := rx
    obtain ⟨r, ys, rfl, hr, r2⟩ := ry
    refine ⟨.list (F.map dFam), .list (G.map dFam), .lst (SqL.of hp) (dp_fams r1), .lst (SqL.of hr) (dp_fams r2), shaped_fams F, shaped_fams G, ?_⟩
    have e : PyData.eqv (.list (F.map dFam)) (.list (G.map dFam)) = decide (F = G) := eqv_fams F G
    rw [e]
    exact q _ H1 (Same.refl H1) rfl
end
end Gq
set_option Elab.async false
set_option linter.all false
set_option maxRecDepth 100000
set_option maxHeartbeats 1000000
/-! Own base 14: either and both. -/
namespace Gq
open PySem PySem.Spec PyProof.Rows L2
def eitherS (F G : List LI) : List LI := minS (F ++ G)
def bothS (n : Nat) (F G : List LI) : List LI := minS ((allS n).filter fun a => has F a && has G a)
theorem Fm.either {n : Nat} {F G : List LI} (hF : Fm n F) (hG : Fm n G) : Fm n (eitherS F G) :=
  Fm.of (fun e => hF.ne (List.append_eq_nil_iff.mp e).1) fun A hA => by
    rcases List.mem_append.mp hA with z | z
    · exact hF.pl A z
    · exact hG.pl A z
theorem has_app (F G : List LI) (A : LI) : has (F ++ G) A = (has F A || has G A) := by
  unfold has
  rw [List.any_append]
theorem has_either {n : Nat} {F G : List LI} (hF : Fm n F) (hG : Fm n G) (A : LI) : has (eitherS F G) A = (has F A || has G A) := by
  unfold eitherS
  rw [has_minS (fun B hB => by
    rcases List.mem_append.mp hB with z | z
    · exact hF.asc B z
    · exact hG.asc B z), has_app]
theorem has_mono {F : List LI} {A B : LI} (h : ∀ p ∈ A, p ∈ B) (hA : has F A = true) : has F B = true := by
  obtain ⟨f, hf, hs⟩ := has_iff.mp hA
  exact has_iff.mpr ⟨f, hf, fun p hp => h p (hs p hp)⟩
theorem Fm.hasAll {n : Nat} {F : List LI} (hF : Fm n F) : has F (places n) = true := by
  obtain ⟨f, hf⟩ := List.exists_mem_of_ne_nil F hF.ne
  exact has_iff.mpr ⟨f, hf, fun p hp => mem_places.mpr ((hF.pl f hf).2.2 p hp)⟩
theorem Fm.hasNil {n : Nat} {F : List LI} (hF : Fm n F) : has F [] = false := by
  cases e : has F [] with
  | false => rfl
  | true =>
    obtain ⟨f, hf, hs⟩ := has_iff.mp e
    obtain ⟨p, hp⟩ := List.exists_mem_of_ne_nil f (hF.pl f hf).1
    exact absurd (hs p hp) List.not_mem_nil
theorem Fm.both {n : Nat} (hw : Wd n) {F G : List LI} (hF : Fm n F) (hG : Fm n G) : Fm n (bothS n F G) := by
  refine Fm.of ?_ fun A hA => (mem_allS hw).mp (List.mem_filter.mp hA).1
  have hp : places n ≠ [] := by rcases hw with rfl | rfl | rfl | rfl <;> decide
  exact List.ne_nil_of_mem (a := places n) (List.mem_filter.mpr ⟨(mem_allS hw).mpr ⟨hp, places_pl n⟩, by rw [hF.hasAll, hG.hasAll]; rfl⟩)
theorem has_both {n : Nat} (hw : Wd n) {F G : List LI} (hF : Fm n F) (hG : Fm n G) {A : LI} (hA : Pl n A) : has (bothS n F G) A = (has F A && has G A) := by
  unfold bothS
  rw [has_minS (fun B hB => ((mem_allS hw).mp (List.mem_filter.mp hB).1).2.1), Bool.eq_iff_iff, has_iff, Bool.and_eq_true]
  constructor
  · rintro ⟨B, hB, hs⟩
    have z := (List.mem_filter.mp hB).2
    rw [Bool.and_eq_true] at z
    exact ⟨has_mono hs z.1, has_mono hs z.2⟩
  · rintro ⟨h1, h2⟩
    refine ⟨A, List.mem_filter.mpr ⟨(mem_allS hw).mpr ⟨fun e => ?_, hA⟩, by rw [h1, h2]; rfl⟩, fun p hp => hp⟩
    rw [e, hF.hasNil] at h1
    cases h1
section
variable {n : Nat} (hw : Wd n) {F G I : List LI} (hF : Fm n F) (hG : Fm n G) (hI : Fm n I)
include hw hF hG
theorem eb_comm1 : eitherS G F = eitherS F G := Fm.ext (hG.either hF) (hF.either hG) fun A _ => by rw [has_either hG hF, has_either hF hG, Bool.or_comm]
theorem eb_comm2 : bothS n G F = bothS n F G := Fm.ext (hG.both hw hF) (hF.both hw hG) fun A hA => by rw [has_both hw hG hF hA, has_both hw hF hG hA, Bool.and_comm]
theorem eb_abs1 : eitherS F (bothS n F G) = F := Fm.ext (hF.either (hF.both hw hG)) hF fun A hA => by
  rw [has_either hF (hF.both hw hG), has_both hw hF hG hA]
  cases has F A <;> cases has G A <;> rfl
theorem eb_abs2 : bothS n F (eitherS F G) = F := Fm.ext (hF.both hw (hF.either hG)) hF fun A hA => by
  rw [has_both hw hF (hF.either hG) hA, has_either hF hG]
  cases has F A <;> cases has G A <;> rfl
theorem eb_dual1 : blocksS n (eitherS F G) = bothS n (blocksS n F) (blocksS n G) := Fm.ext ((hF.either hG).blocks hw) ((hF.blocks hw).both hw (hG.blocks hw)) fun A hA => by
  rw [has_blocks hw (hF.either hG) hA, has_both hw (hF.blocks hw) (hG.blocks hw) hA, has_blocks hw hF hA, has_blocks hw hG hA, has_either hF hG, Bool.not_or]
theorem eb_dual2 : blocksS n (bothS n F G) = eitherS (blocksS n F) (blocksS n G) := Fm.ext ((hF.both hw hG).blocks hw) ((hF.blocks hw).either (hG.blocks hw)) fun A hA => by
  rw [has_blocks hw (hF.both hw hG) hA, has_either (hF.blocks hw) (hG.blocks hw), has_blocks hw hF hA, has_blocks hw hG hA, has_both hw hF hG (rest_pl n A), Bool.not_and]
include hI
theorem eb_dist1 : bothS n F (eitherS G I) = eitherS (bothS n F G) (bothS n F I) := Fm.ext (hF.both hw (hG.either hI)) ((hF.both hw hG).either (hF.both hw hI)) fun A hA => by
  rw [has_both hw hF (hG.either hI) hA, has_either hG hI, has_either (hF.both hw hG) (hF.both hw hI), has_both hw hF hG hA, has_both hw hF hI hA]
  cases has F A <;> cases has G A <;> cases has I A <;> rfl
theorem eb_dist2 : eitherS F (bothS n G I) = bothS n (eitherS F G) (eitherS F I) := Fm.ext (hF.either (hG.both hw hI)) ((hF.either hG).both hw (hF.either hI)) fun A hA => by
  rw [has_either hF (hG.both hw hI), has_both hw hG hI hA, has_both hw (hF.either hG) (hF.either hI) hA, has_either hF hG, has_either hF hI]
  cases has F A <;> cases has G A <;> cases has I A <;> rfl
end
theorem eb_self {n : Nat} {F : List LI} (hF : Fm n F) : eitherS F F = F := Fm.ext (hF.either hF) hF fun A _ => by rw [has_either hF hF, Bool.or_self]
def spEither : Sp := fun vs H Q _ => ∃ (n : Nat) (x y : V) (F G : List LI), vs = [.int (n : Int), x, y] ∧ Wd n ∧ FamT F x H ∧ Fm n F ∧ FamT G y H ∧ Fm n G ∧ ∀ v H', Same H H' → FamT (eitherS F G) v H' → Q v H'
def spBoth : Sp := fun vs H Q _ => ∃ (n : Nat) (x y : V) (F G : List LI), vs = [.int (n : Int), x, y] ∧ Wd n ∧ FamT F x H ∧ Fm n F ∧ FamT G y H ∧ Fm n G ∧ ∀ v H', Same H H' → FamT (bothS n F G) v H' → Q v H'
def spHasSet : Sp := fun vs H Q _ => ∃ (x y : V) (G : List LI) (a : LI), vs = [x, y] ∧ FamT G x H ∧ SetV a y H ∧ G.length ≤ 1000 ∧ (∀ g ∈ G, g.length ≤ 1000) ∧ ∀ H', Same H H' → Q (.bl (has G a)) H'
theorem has_filter (G : List LI) (a : LI) : (!decide ((G.filter fun g => sub a g) = [])) = has G a := by
  unfold has
  rw [Bool.eq_iff_iff, Bool.not_eq_true', decide_eq_false_iff_not, List.filter_eq_nil_iff, List.any_eq_true]
  constructor
  · intro h
    have ⟨g, hg⟩ := Classical.not_forall.mp h
    have ⟨h1, h2⟩ := Classical.not_imp.mp hg
    exact ⟨g, h1, Classical.not_not.mp h2⟩
  · rintro ⟨g, hg, hs⟩ h
    exact h g hg hs
section
variable {K : PySem.W.Frag} {σ : L2.St} {H : Hp} {ta tb tc te : TE} {n : Nat}
theorem er_either {F G : List LI} (ha : Er ta σ H (Is (.int (n : Int)))) (hb : Er tb σ H (FamT F)) (hc : Er tc σ H (FamT G)) (hw : Wd n) (hF : Fm n F) (hG : Fm n G) : Er (tCall spEither [] E0 (tCons ta (tCons tb (tCons tc tNil)))) σ H (FamT (eitherS F G)) :=
  er_call3 ha hb hc (fun _ _ _ _ r => r) (Mo.fam F).mono fun x y z H1 _ rx ry rz Q q => by
    cases (show x = _ from rx)
    exact ⟨n, y, z, F, G, rfl, hw, ry, hF, rz, hG, q⟩
theorem er_both {F G : List LI} (ha : Er ta σ H (Is (.int (n : Int)))) (hb : Er tb σ H (FamT F)) (hc : Er tc σ H (FamT G)) (hw : Wd n) (hF : Fm n F) (hG : Fm n G) : Er (tCall spBoth [] E0 (tCons ta (tCons tb (tCons tc tNil)))) σ H (FamT (bothS n F G)) :=
  er_call3 ha hb hc (fun _ _ _ _ r => r) (Mo.fam F).mono fun x y z H1 _ rx ry rz Q q => by
    cases (show x = _ from rx)
    exact ⟨n, y, z, F, G, rfl, hw, ry, hF, rz, hG, q⟩
theorem er_hasSet {G : List LI} {a : LI} (ha : Er ta σ H (FamT G)) (hb : Er tb σ H (SetV a)) (hn : G.length ≤ 1000) (hz : ∀ g ∈ G, g.length ≤ 1000) : Er (tCall spHasSet [] E0 (tCons ta (tCons tb tNil))) σ H (Is (.bl (has G a))) :=
  er_call2 ha hb (Mo.fam G).mono fun x y H1 _ rx ry Q q => ⟨x, y, G, a, rfl, rx, ry, hn, hz, fun H' s => q _ H' s rfl⟩
theorem er_lenT {α : Type} {R : α → V → Hp → Prop} {as : List α} (h : Er te σ H (TupR R as)) : Er (tCB (rLenOf K) (tCons te tNil)) σ H (Is (.int as.length)) :=
  er_cb1 h fun x H1 _ rx Q q => by
    obtain ⟨p, xs, rfl, hp, rel⟩ := rx
    refine ⟨p, xs, rfl, .inr (SqT.of hp), ?_⟩
    rw [rel.len]
    exact q _ H1 (Same.refl H1) rfl
theorem er_neI {ta tb : TE} {a b : Int} (ha : Er ta σ H (Is (.int a))) (hb : Er tb σ H (Is (.int b))) : Er (tOp rNe ta tb) σ H (Is (.bl (!decide (V.int a = V.int b)))) :=
  er_op ha hb (fun _ _ _ _ r => r) fun x y H1 _ rx ry Q q => by
    cases (show x = _ from rx)
    cases (show y = _ from ry)
    exact ⟨rfl, q _ H1 (Same.refl H1) rfl⟩
end
end Gq
namespace Gq
open PySem PySem.Spec PyProof.Rows L2
def RB : Bool → V → Hp → Prop := fun c v _ => v = .bl c
theorem Mo.rb (c : Bool) : Mo (RB c) := Mo.is _
theorem eqv_bls : ∀ a b : List Bool, PyData.eqvAll (a.map PyData.bool) (b.map PyData.bool) = decide (a = b)
  | [], [] => rfl
  | [], _ :: _ => rfl
  | _ :: _, [] => rfl
  | x :: a, y :: b => by
    show ((x == y) && PyData.eqvAll (a.map PyData.bool) (b.map PyData.bool)) = _
    rw [eqv_bls a b, Bool.eq_iff_iff, Bool.and_eq_true, beq_iff_eq, decide_eq_true_iff, decide_eq_true_iff, List.cons.injEq]
theorem dp_bls {K : PySem.W.Frag} {H : Hp} : ∀ {vs : List V} {bs : List Bool}, Rel RB H vs bs → DpAll K H vs (bs.map PyData.bool)
  | _, _, .nil => .nil
  | _, _, .cons h t => by
    cases (show _ = V.bl _ from h)
    exact .cons (.bl _) (dp_bls t)
theorem canLay_bls : ∀ F : List Bool, PyData.canLayAll0 (F.map PyData.bool) = true
  | [] => by first | rfl | simp [PyData.canLayAll0]
  | x :: F => by simp only [List.map_cons, PyData.canLayAll0, PyData.canLay0, canLay_bls F, Bool.and_self]
theorem depth_bls : ∀ F : List Bool, PyData.depthAll (F.map PyData.bool) ≤ 1
  | [] => by simp [PyData.depthAll]
  | x :: F => by
    have ih := depth_bls F
    simp only [List.map_cons, PyData.depthAll, PyData.depth]
    omega
theorem shaped_bls (F : List Bool) : SeqAt.shaped (.list (F.map PyData.bool)) = true := by
  have := depth_bls F
  unfold SeqAt.shaped
  rw [Bool.and_eq_true]
  refine ⟨by simp only [PyData.canLay0, canLay_bls], decide_eq_true ?_⟩
  simp only [PyData.depth]
  omega
section
variable {K : PySem.W.Frag} {σ : L2.St} {H : Hp} {ta tb te : TE} {D : Ends} {tz : TS} {i j : Nat} {Ra Rb : V → Hp → Prop}
theorem er_neBls {F G : List Bool} (ha : Er ta σ H (LstR RB F)) (hb : Er tb σ H (LstR RB G)) : Er (tOp (rNeD K) ta tb) σ H (Is (.bl (!decide (F = G)))) :=
  er_op ha hb (fun _ _ _ s r => LstR.mono Mo.rb s r) fun x y H1 _ rx ry Q q => by
    obtain ⟨p, xs, rfl, hp, r1⟩ := rx
    obtain ⟨r, ys, rfl, hr, r2⟩ := ry
    refine ⟨.list (F.map PyData.bool), .list (G.map PyData.bool), .lst (SqL.of hp) (dp_bls r1), .lst (SqL.of hr) (dp_bls r2), shaped_bls F, shaped_bls G, ?_⟩
    have e : PyData.eqv (.list (F.map PyData.bool)) (.list (G.map PyData.bool)) = decide (F = G) := eqv_bls F G
    rw [e]
    exact q _ H1 (Same.refl H1) rfl
theorem er_ixL {α : Type} {R : α → V → Hp → Prop} {as : List α} {k : Nat} {a : α} (h : Er te σ H (LstR R as)) (e : as[k]? = some a) : Er (tOp (rIxL K) te (tC (.int (k : Int)))) σ H (R a) := fun H1 e1 Q q =>
  h H1 e1 _ fun x H2 e2 rx => by
    obtain ⟨p, xs, rfl, hp, rel⟩ := rx
    obtain ⟨v, hv, rv⟩ := rel.get2 e
    exact ⟨p, xs, (k : Int), v, rfl, rfl, SqL.of hp, atI_nat hv, q v H2 e2 rv⟩
theorem q_par (ha : Er ta σ H Ra) (hb : Er tb σ H Rb) (ma : ∀ v H1 H2, Same H1 H2 → Ra v H1 → Ra v H2)
    (k : ∀ v w H1, Same H H1 → Ra v H1 → Rb w H1 → tz D ((σ.set i (some v)).set j (some w)) H1) : tSeq (tPar i j (tCons ta (tCons tb tNil))) tz D σ H :=
  ha H (Same.refl H) _ fun v H1 e1 r1 => hb H1 e1 _ fun w H2 e2 r2 => ⟨v, w, rfl, k v w H2 (e1.trans e2) (ma v _ _ e2 r1) r2⟩
end
end Gq
set_option Elab.async false
set_option linter.all false
set_option maxRecDepth 100000
set_option maxHeartbeats 1000000
/-! Own base 15: completed families and placed families. -/
namespace Gq
/-! ### growing -/
def grow1 (G : List LI) (P : LI) : List LI := if G.all (fun g => meets P g) = true then G ++ [P] else G
def growL (G : List LI) (L : List LI) : List LI := L.foldl grow1 G
def compS (n : Nat) (F : List LI) : List LI := minS (growL F (allS n))
def Mt (F : List LI) : Prop := ∀ a ∈ F, ∀ b ∈ F, meets a b = true
def mtB (F : List LI) : Bool := F.all fun a => F.all fun b => meets a b
theorem mtB_iff {F : List LI} : mtB F = true ↔ Mt F := by
  unfold mtB Mt
  rw [List.all_eq_true]
  exact ⟨fun h a ha b hb => List.all_eq_true.mp (h a ha) b hb, fun h a ha => List.all_eq_true.mpr fun b hb => h a ha b hb⟩
theorem meets_comm (a b : LI) : meets a b = meets b a := by
  rw [Bool.eq_iff_iff, meets_iff, meets_iff]
  exact ⟨fun ⟨p, h1, h2⟩ => ⟨p, h2, h1⟩, fun ⟨p, h1, h2⟩ => ⟨p, h2, h1⟩⟩
theorem grow1_in {G : List LI} {P A : LI} (h : A ∈ G) : A ∈ grow1 G P := by
  unfold grow1
  split
  · exact List.mem_append_left _ h
  · exact h
theorem growL_in : ∀ {L G : List LI} {A : LI}, A ∈ G → A ∈ growL G L
  | [], _, _, h => h
  | P :: L, G, A, h => growL_in (L := L) (grow1_in h)
theorem growL_of : ∀ {L G : List LI} {A : LI}, A ∈ growL G L → A ∈ G ∨ A ∈ L
  | [], _, _, h => .inl h
  | P :: L, G, A, h => by
    rcases growL_of (L := L) (G := grow1 G P) h with z | z
    · unfold grow1 at z
      split at z
      · rcases List.mem_append.mp z with z | z
        · exact .inl z
        · exact .inr (by rw [List.mem_singleton.mp z]; exact List.mem_cons_self)
      · exact .inl z
    · exact .inr (List.mem_cons_of_mem _ z)
theorem grow1_mt {G : List LI} {P : LI} (ne : P ≠ []) (h : Mt G) : Mt (grow1 G P) := by
  unfold grow1
  split
  · rename_i hp
    rw [List.all_eq_true] at hp
    intro a ha b hb
    rcases List.mem_append.mp ha with za | za
    · rcases List.mem_append.mp hb with zb | zb
      · exact h a za b zb
      · rw [List.mem_singleton.mp zb, meets_comm]
        exact hp a za
    · rw [List.mem_singleton.mp za]
      rcases List.mem_append.mp hb with zb | zb
      · exact hp b zb
      · rw [List.mem_singleton.mp zb]
        obtain ⟨p, hp⟩ := List.exists_mem_of_ne_nil P ne
        exact meets_iff.mpr ⟨p, hp, hp⟩
  · exact h
theorem growL_mt : ∀ {L G : List LI}, (∀ P ∈ L, P ≠ []) → Mt G → Mt (growL G L)
  | [], _, _, h => h
  | P :: L, G, hn, h => growL_mt (L := L) (fun Q hQ => hn Q (List.mem_cons_of_mem _ hQ)) (grow1_mt (hn P List.mem_cons_self) h)
theorem growL_or : ∀ {L G : List LI} {P : LI}, P ∈ L → P ∈ growL G L ∨ ∃ g ∈ growL G L, meets P g = false
  | P' :: L, G, P, h => by
    rcases List.mem_cons.mp h with e | z
    · subst e
      cases c : G.all (fun g => meets P g) with
      | true =>
        refine .inl (growL_in (L := L) ?_)
        unfold grow1
        rw [if_pos c]
        exact List.mem_append_right _ List.mem_cons_self
      | false =>
        refine .inr ?_
        have ⟨g, hg, hm⟩ : ∃ g ∈ G, meets P g = false := by
          rw [← Bool.not_eq_true, List.all_eq_true] at c
          have ⟨g, z⟩ := Classical.not_forall.mp c
          have ⟨z1, z2⟩ := Classical.not_imp.mp z
          exact ⟨g, z1, by simpa using z2⟩
        exact ⟨g, growL_in (L := L) (grow1_in hg), hm⟩
    · exact growL_or (L := L) (G := grow1 G P') z
theorem grow1_len (G : List LI) (P : LI) : (grow1 G P).length ≤ G.length + 1 := by
  unfold grow1
  split
  · rw [List.length_append]
    exact Nat.le_refl _
  · exact Nat.le_succ _
theorem growL_len : ∀ (L G : List LI), (growL G L).length ≤ G.length + L.length
  | [], G => Nat.le_refl _
  | P :: L, G => by
    have := growL_len L (grow1 G P)
    have := grow1_len G P
    show (growL (grow1 G P) L).length ≤ _
    rw [List.length_cons]
    omega
section
variable {n : Nat} (hw : Wd n) {F : List LI} (hF : Fm n F)
include hw hF
theorem grow_pl {A : LI} (h : A ∈ growL F (allS n)) : A ≠ [] ∧ Pl n A := by
  rcases growL_of h with z | z
  · exact hF.pl A z
  · exact (mem_allS hw).mp z
theorem Fm.comp : Fm n (compS n F) := Fm.of (fun e => by
    obtain ⟨f, hf⟩ := List.exists_mem_of_ne_nil F hF.ne
    have z := growL_in (L := allS n) hf
    rw [e] at z
    cases z) fun A hA => grow_pl hw hF hA
theorem has_comp (A : LI) : has (compS n F) A = has (growL F (allS n)) A := has_minS (fun A hA => (grow_pl hw hF hA).2.1) A
theorem comp_all {f : LI} (h : f ∈ F) : has (compS n F) f = true := by
  rw [has_comp hw hF]
  exact has_iff.mpr ⟨f, growL_in h, fun p hp => hp⟩
/-- what is not held leaves its rest held -/
theorem comp_dual (hm : Mt F) {A : LI} (hA : Pl n A) : has (compS n F) A = !has (compS n F) (restS n A) := by
  rw [has_comp hw hF, has_comp hw hF]
  have M : Mt (growL F (allS n)) := growL_mt (fun P hP => ((mem_allS hw).mp hP).1) hm
  cases c : has (growL F (allS n)) (restS n A) with
  | true =>
    rw [Bool.not_true]
    cases d : has (growL F (allS n)) A with
    | false => rfl
    | true =>
      obtain ⟨g, hg, sg⟩ := has_iff.mp c
      obtain ⟨f, hf, sf⟩ := has_iff.mp d
      obtain ⟨p, hp, hq⟩ := meets_iff.mp (M f hf g hg)
      exact absurd (sf p hq) (mem_rest.mp (sg p hp)).2
  | false =>
    rw [Bool.not_false]
    by_cases e : A = []
    · -- the rest of nothing is all
      have : has (growL F (allS n)) (restS n A) = true := by
        obtain ⟨f, hf⟩ := List.exists_mem_of_ne_nil F hF.ne
        refine has_iff.mpr ⟨f, growL_in hf, fun p hp => mem_rest.mpr ⟨(hF.pl f hf).2.2 p hp, by rw [e]; exact List.not_mem_nil⟩⟩
      rw [this] at c
      cases c
    · rcases growL_or (G := F) ((mem_allS hw).mpr ⟨e, hA⟩) with z | ⟨g, hg, hm⟩
      · exact has_iff.mpr ⟨A, z, fun p hp => hp⟩
      · rw [meets_rest (grow_pl hw hF hg).2] at hm
        have hs : sub (restS n A) g = true := by
          cases s : sub (restS n A) g with
          | true => rfl
          | false => rw [s] at hm; cases hm
        have : has (growL F (allS n)) (restS n A) = true := has_iff.mpr ⟨g, hg, sub_iff.mp hs⟩
        rw [this] at c
        cases c
theorem comp_blocks (hm : Mt F) : blocksS n (compS n F) = compS n F := by
  have fc := hF.comp hw
  refine Fm.ext (fc.blocks hw) fc fun A hA => ?_
  rw [has_blocks hw fc hA, comp_dual hw hF hm hA]
/-- a family that is its own dual meets itself -/
theorem self_mt (h : blocksS n F = F) : Mt F := by
  intro a ha b hb
  have ha' := hF.pl a ha
  have h1 : has F b = true := has_iff.mpr ⟨b, hb, fun p hp => hp⟩
  have hb' := hF.pl b hb
  rw [← h, has_blocks hw hF hb'.2] at h1
  rw [meets_comm, meets_rest ha'.2]
  cases s : sub (restS n b) a with
  | false => rfl
  | true =>
    have : has F (restS n b) = true := has_iff.mpr ⟨a, ha, sub_iff.mp s⟩
    rw [this] at h1
    cases h1
theorem comp_self (h : blocksS n F = F) : compS n F = F := by
  refine Fm.ext (hF.comp hw) hF fun A hA => ?_
  have up : ∀ B, has F B = true → has (compS n F) B = true := by
    intro B hB
    rw [has_comp hw hF]
    obtain ⟨f, hf, s⟩ := has_iff.mp hB
    exact has_iff.mpr ⟨f, growL_in hf, s⟩
  rw [Bool.eq_iff_iff]
  constructor
  · intro z
    rw [comp_dual hw hF (self_mt hw hF h) hA] at z
    have e : has (blocksS n F) A = has F A := by rw [h]
    rw [← e, has_blocks hw hF hA]
    cases c : has F (restS n A) with
    | false => rfl
    | true =>
      rw [up _ c] at z
      cases z
  · exact up A
end
/-! ### places exchanged -/
structure Pm (n : Nat) (f g : Int → Int) : Prop where
  fp : ∀ p, 0 ≤ p ∧ p < (n : Int) → 0 ≤ f p ∧ f p < (n : Int)
  gp : ∀ p, 0 ≤ p ∧ p < (n : Int) → 0 ≤ g p ∧ g p < (n : Int)
  gf : ∀ p, 0 ≤ p ∧ p < (n : Int) → g (f p) = p
  fg : ∀ p, 0 ≤ p ∧ p < (n : Int) → f (g p) = p
theorem Pm.symm {n : Nat} {f g : Int → Int} (h : Pm n f g) : Pm n g f := ⟨h.gp, h.fp, h.fg, h.gf⟩
def mvS (n : Nat) (f : Int → Int) (A : LI) : LI := (places n).filter fun q => decide (q ∈ A.map f)
def placedS (n : Nat) (f : Int → Int) (F : List LI) : List LI := sortS (F.map (mvS n f))
theorem mv_pl (n : Nat) (f : Int → Int) (A : LI) : Pl n (mvS n f A) := ⟨(places_asc n).sublist List.filter_sublist, fun p hp => mem_places.mp (List.mem_filter.mp hp).1⟩
section
variable {n : Nat} {f g : Int → Int} (h : Pm n f g)
include h
theorem mem_mv {A : LI} (hA : Pl n A) {q : Int} : q ∈ mvS n f A ↔ ∃ p ∈ A, f p = q := by
  unfold mvS
  rw [List.mem_filter, decide_eq_true_iff, List.mem_map, mem_places]
  constructor
  · exact fun z => z.2
  · rintro ⟨p, hp, e⟩
    exact ⟨e ▸ h.fp p (hA.2 p hp), p, hp, e⟩
theorem mem_mv' {A : LI} (hA : Pl n A) {q : Int} (hq : 0 ≤ q ∧ q < (n : Int)) : q ∈ mvS n f A ↔ g q ∈ A := by
  rw [mem_mv h hA]
  constructor
  · rintro ⟨p, hp, e⟩
    rw [← e, h.gf p (hA.2 p hp)]
    exact hp
  · exact fun z => ⟨g q, z, h.fg q hq⟩
theorem mv_back {A : LI} (hA : Pl n A) : mvS n g (mvS n f A) = A := by
  refine asc_ext (mv_pl n g _).1 hA.1 fun p => ?_
  constructor
  · intro z
    have hp := (mv_pl n g (mvS n f A)).2 p z
    rw [mem_mv' h.symm (mv_pl n f A) hp, mem_mv' h hA (h.fp p hp), h.gf p hp] at z
    exact z
  · intro z
    have hp := hA.2 p z
    rw [mem_mv' h.symm (mv_pl n f A) hp, mem_mv' h hA (h.fp p hp), h.gf p hp]
    exact z
theorem mv_ne {A : LI} (hA : Pl n A) (ne : A ≠ []) : mvS n f A ≠ [] := by
  obtain ⟨p, hp⟩ := List.exists_mem_of_ne_nil A ne
  exact List.ne_nil_of_mem ((mem_mv h hA).mpr ⟨p, hp, rfl⟩)
theorem mv_sub {A B : LI} (hA : Pl n A) (hB : Pl n B) : (∀ p ∈ mvS n f B, p ∈ A) ↔ ∀ p ∈ B, p ∈ mvS n g A := by
  constructor
  · intro z p hp
    have hq := hB.2 p hp
    rw [mem_mv' h.symm hA hq]
    exact z _ ((mem_mv h hB).mpr ⟨p, hp, rfl⟩)
  · intro z q hq
    obtain ⟨p, hp, e⟩ := (mem_mv h hB).mp hq
    have := z p hp
    rw [mem_mv' h.symm hA (hB.2 p hp), e] at this
    exact this
theorem mv_rest {A : LI} (hA : Pl n A) : mvS n f (restS n A) = restS n (mvS n f A) := by
  refine asc_ext (mv_pl n f _).1 (rest_pl n _).1 fun q => ?_
  constructor
  · intro z
    have hq := (mv_pl n f (restS n A)).2 q z
    rw [mem_mv' h (rest_pl n A) hq, mem_rest] at z
    rw [mem_rest, mem_mv' h hA hq]
    exact ⟨hq, z.2⟩
  · intro z
    have hq := (mem_rest.mp z).1
    rw [mem_rest, mem_mv' h hA hq] at z
    rw [mem_mv' h (rest_pl n A) hq, mem_rest]
    exact ⟨h.gp q hq, z.2⟩
theorem mv_meets {A B : LI} (hA : Pl n A) (hB : Pl n B) : meets (mvS n f A) (mvS n f B) = meets A B := by
  rw [Bool.eq_iff_iff, meets_iff, meets_iff]
  constructor
  · rintro ⟨q, h1, h2⟩
    have hq := (mv_pl n f A).2 q h2
    exact ⟨g q, (mem_mv' h hB hq).mp h1, (mem_mv' h hA hq).mp h2⟩
  · rintro ⟨p, h1, h2⟩
    exact ⟨f p, (mem_mv h hB).mpr ⟨p, h1, rfl⟩, (mem_mv h hA).mpr ⟨p, h2, rfl⟩⟩
section
variable (hw : Wd n) {F : List LI} (hF : Fm n F)
include hw hF
theorem placed_min : placedS n f F = minS (F.map (mvS n f)) := by
  refine srt_ext (sortS_srt _) (minS_srt _) fun A => ?_
  unfold placedS
  rw [mem_sortS, mem_minS]
  constructor
  · intro hA
    refine ⟨hA, fun B hB ne hs => ?_⟩
    obtain ⟨a, ha, rfl⟩ := List.mem_map.mp hA
    obtain ⟨b, hb, rfl⟩ := List.mem_map.mp hB
    have pa := (hF.pl a ha).2
    have pb := (hF.pl b hb).2
    have z := (mv_sub h (mv_pl n f a) pb).mp hs
    rw [mv_back h pa] at z
    exact ne (congrArg _ (hF.anti ha hb z))
  · exact fun z => z.1
theorem Fm.placed : Fm n (placedS n f F) := by
  rw [placed_min h hw hF]
  refine Fm.of (fun e => hF.ne (List.map_eq_nil_iff.mp e)) fun A hA => ?_
  obtain ⟨a, ha, rfl⟩ := List.mem_map.mp hA
  exact ⟨mv_ne h (hF.pl a ha).2 (hF.pl a ha).1, mv_pl n f a⟩
theorem has_placed {A : LI} (hA : Pl n A) : has (placedS n f F) A = has F (mvS n g A) := by
  rw [Bool.eq_iff_iff, has_iff, has_iff]
  unfold placedS
  constructor
  · rintro ⟨b, hb, hs⟩
    obtain ⟨a, ha, rfl⟩ := List.mem_map.mp (mem_sortS.mp hb)
    exact ⟨a, ha, (mv_sub h hA (hF.pl a ha).2).mp hs⟩
  · rintro ⟨a, ha, hs⟩
    exact ⟨mvS n f a, mem_sortS.mpr (List.mem_map.mpr ⟨a, ha, rfl⟩), (mv_sub h hA (hF.pl a ha).2).mpr hs⟩
theorem placed_back : placedS n g (placedS n f F) = F := by
  refine Fm.ext ((hF.placed h hw).placed h.symm hw) hF fun A hA => ?_
  rw [has_placed h.symm hw (hF.placed h hw) hA, has_placed h hw hF (mv_pl n f A), mv_back h hA]
theorem placed_blocks : blocksS n (placedS n f F) = placedS n f (blocksS n F) := by
  have hB := hF.blocks hw
  refine Fm.ext ((hF.placed h hw).blocks hw) (hB.placed h hw) fun A hA => ?_
  rw [has_blocks hw (hF.placed h hw) hA, has_placed h hw hF (rest_pl n A), has_placed h hw hB hA, has_blocks hw hF (mv_pl n g A), mv_rest h.symm hA]
theorem placed_mt : mtB (placedS n f F) = mtB F := by
  rw [Bool.eq_iff_iff, mtB_iff, mtB_iff]
  constructor
  · intro z a ha b hb
    rw [← mv_meets h (hF.pl a ha).2 (hF.pl b hb).2]
    exact z _ (mem_sortS.mpr (List.mem_map.mpr ⟨a, ha, rfl⟩)) _ (mem_sortS.mpr (List.mem_map.mpr ⟨b, hb, rfl⟩))
  · intro z A hA B hB
    obtain ⟨a, ha, rfl⟩ := List.mem_map.mp (mem_sortS.mp hA)
    obtain ⟨b, hb, rfl⟩ := List.mem_map.mp (mem_sortS.mp hB)
    rw [mv_meets h (hF.pl a ha).2 (hF.pl b hb).2]
    exact z a ha b hb
end
end
/-- sorted ints of distinct values of places -/
theorem sorted_mv {n : Nat} {f g : Int → Int} (h : Pm n f g) {A : LI} (hA : Pl n A) {ns : LI} (pm : ns.Perm (A.map f)) (pw : ns.Pairwise (· ≤ ·)) : ns = mvS n f A := by
  have nd : (A.map f).Nodup := by
    refine List.pairwise_map.mpr (List.Pairwise.imp_of_mem ?_ hA.1)
    intro p q hp hq lt e
    have z1 := h.gf p (hA.2 p hp)
    rw [e, h.gf q (hA.2 q hq)] at z1
    omega
  have nd2 : ns.Nodup := pm.nodup_iff.mpr nd
  have st : ns.Pairwise (· < ·) := by
    refine List.Pairwise.imp ?_ (List.Pairwise.and nd2 pw)
    intro x y z
    have : x ≠ y := z.1
    omega
  refine asc_ext st (mv_pl n f A).1 fun q => ?_
  rw [pm.mem_iff, mem_mv h hA, List.mem_map]
end Gq
set_option Elab.async false
set_option linter.all false
set_option maxRecDepth 100000
set_option maxHeartbeats 2000000
/-! Own base 16: sorted of a list of tuples, set of a tuple of ints, tuple.index, list(range(n)). -/
namespace Gq
open PySem PySem.Spec PyProof.Rows L2
/-- set(t) of a tuple of ints -/
def rSetI (K : PySem.W.Frag) (w : World) : List V → Hp → VK → Prop := fun xs H Q =>
  ∃ (l : Addr) (ns : List Int), xs = [V.ref l] ∧ SqT K H l (ns.map V.int) ∧ ns.length ≤ 1000 ∧
    ∀ a c, H a = none → c ≤ ns.length → Q (.ref a) (upd H a (SetO w a (fun j => decide (j ∈ ns)) c))
theorem cr_setI {X : Cx} (hc : X.calm = true) : CallR X (.type "set") (rSetI X.K X.w) := by
  intro pins s σ H xs us Q I r h
  obtain ⟨l, ns, rfl, hl, hz, q⟩ := h
  rw [Vals.ref1 r]
  obtain ⟨its, rv, pl, hz2⟩ := I.tuple hl
  have np : H s.heap.objs.size = none := I.hok.fresh (Nat.le_refl _)
  refine call_set_tupI ns (I.ok.hd hc) pl (by simpa using ints_of_vals rv) (by unfold scanBound; omega) ?_
  intro h' tk c R hc' k
  exact ⟨.ref s.heap.objs.size, upd H s.heap.objs.size (SetO X.w s.heap.objs.size _ c), I.laid (t' := tk) k (Nat.le_refl _) (setO_new R), rfl, q _ c np hc'⟩
/-- sorted of a list of tuples of ints, none empty -/
def rSortedT (K : PySem.W.Frag) : List V → Hp → VK → Prop := fun vs H Q =>
  ∃ (a : Addr) (L : List (Addr × List Int)), vs = [V.ref a] ∧ SqL K H a (L.map fun q => V.ref q.1) ∧ (∀ p ∈ L, SqT K H p.1 (p.2.map V.int)) ∧ (∀ p ∈ L, p.2 ≠ []) ∧
    ∀ (L' : List (Addr × List Int)) (p : Addr), L'.Perm L → L'.Pairwise (fun q r => lexLt r.2 q.2 = false) → H p = none → Q (.ref p) (upd H p (.lst (L'.map fun q => V.ref q.1)))
def addrV : Value → Addr
  | .ref a => a
  | _ => 0
theorem cr_sortedT {X : Cx} : CallR X (.builtin "sorted") (rSortedT X.K) := by
  intro pins s σ H vs us Q I r h
  obtain ⟨a, L, rfl, ha, hk, hn, q⟩ := h
  rw [Vals.ref1 r]
  obtain ⟨its, rv, pl, hz⟩ := I.list ha
  have ei : its = L.map fun q => Value.ref q.1 := refs_of_vals rv
  subst ei
  have tup0 : ∀ p ∈ L, L2.IsT X.prog X.w s.heap p.2 p.1 := fun p hp => I.isT (hk p hp)
  let k : Value → List Int := fun v => match L.find? (fun q => Value.ref q.1 == v) with
    | some q => q.2
    | none => []
  have addr : ∀ q ∈ L, ∀ r ∈ L, q.1 = r.1 → q.2 = r.2 := by
    intro q hq r hr e
    have z1 := tup0 q hq
    have z2 := tup0 r hr
    rw [e] at z1
    exact z1.inj z2
  have kat : ∀ q ∈ L, k (.ref q.1) = q.2 := by
    intro q hq
    show (match L.find? (fun z => Value.ref z.1 == Value.ref q.1) with | some z => z.2 | none => []) = q.2
    cases f : L.find? (fun z => Value.ref z.1 == Value.ref q.1) with
    | none =>
      have z := List.find?_eq_none.mp f q hq
      simp at z
    | some r =>
      have m := List.mem_of_find?_eq_some f
      have z := List.find?_some f
      have e : r.1 = q.1 := by simpa using z
      exact addr r m q hq e
  have lenV : (L.map fun q => Value.ref q.1).length = L.length := List.length_map _
  have lineV : (L.map fun q => Value.ref q.1).length ≤ sizeLine := by rw [lenV]; rw [List.length_map] at hz; exact hz
  refine SrtO.sorted_ord (ltv := fun v u => lexLt (k v) (k u)) (lex_swo k) (PlainL.isList pl) lineV (fun h2 h1 b hb keep => ?_) (fun out hs hb => ?_)
  · refine tups_sortable (by omega) (fun v hv => ?_) (fun v hv => ?_) (fun u hu => ?_)
    · obtain ⟨p, hp, rfl⟩ := List.mem_map.mp hv
      rw [kat p hp]
      exact tupInts_of (P := X.prog) (w := X.w) (isT_keep (tup0 p hp) fun b u e => (keep b u e).2)
    · obtain ⟨p, hp, rfl⟩ := List.mem_map.mp hv
      rw [kat p hp]
      exact hn p hp
    · rw [hb] at hu
      cases hu
      intro z
      injection (show Value.type "list" = Value.type "tuple" from z) with z
      exact absurd z (by decide)
  · have pm := hb.perm
    let f : Value → Addr × List Int := fun v => (addrV v, k v)
    have fL : (L.map fun q => Value.ref q.1).map f = L := by
      rw [List.map_map]
      conv => rhs; rw [← List.map_id L]
      refine List.map_congr_left fun p hp => ?_
      show (addrV (Value.ref p.1), k (.ref p.1)) = id p
      rw [kat p hp]
      rfl
    have pm2 : (out.map f).Perm L := by
      have z := pm.map f
      rw [fL] at z
      exact z
    have eo : out = (out.map f).map fun q => Value.ref q.1 := by
      rw [List.map_map]
      conv => lhs; rw [← List.map_id out]
      refine List.map_congr_left fun v hv => ?_
      obtain ⟨p, hp, rfl⟩ := List.mem_map.mp (pm.mem_iff.mp hv)
      rfl
    have pw : (out.map f).Pairwise fun q r => lexLt r.2 q.2 = false := List.pairwise_map.mpr hs
    obtain ⟨e, he⟩ := sortedAll_at s.heap (L.map fun q => Value.ref q.1) out.toArray
    have np : H (s.heap.objs.size + 1) = none := I.hok.fresh (Nat.le_succ _)
    have hv : Vals ((out.map f).map fun q => V.ref q.1) out := by
      conv => rhs; rw [eo]
      exact vals_of_refs _
    have ln : ((out.map f).map fun q => V.ref q.1).length ≤ sizeLine := by
      rw [List.length_map, List.length_map, pm.length_eq]
      exact lineV
    exact ⟨.ref (s.heap.objs.size + 1), upd H (s.heap.objs.size + 1) (.lst ((out.map f).map fun q => V.ref q.1)), I.laid (fun b u e => sortedAll_old e) (Nat.le_succ _) ⟨ln, out, e, hv, he⟩, rfl, q (out.map f) _ pm2 pw np⟩
/-- range(n) as a value -/
theorem cr_range1 {X : Cx} : CallR X (.type "range") (fun vs H Q => ∃ n, vs = [V.int n] ∧ ∀ p, H p = none → Q (.ref p) (upd H p (.rng 0 n))) := by
  intro pins s σ H vs us Q I r h
  obtain ⟨n, rfl, q⟩ := h
  obtain ⟨u, rfl, t, rfl⟩ := vals1 r
  refine call_range_1 ?_
  refine ⟨.ref s.heap.objs.size, upd H s.heap.objs.size (.rng 0 n), I.laid (fun b u e => Heap.get?_push_of_some _ e) (Nat.le_refl _) ?_, rfl, q _ (I.hok.fresh (Nat.le_refl _))⟩
  exact ⟨_, _, _, Heap.get?_push_size _ rfl⟩
theorem vals_range {acc : List Value} {lo : Int} : ∀ {n : Nat}, acc.length = n → (∀ (j : Nat) v, acc[j]? = some v → ∃ t, v = Value.int (lo + (j : Int) * 1) t) → Vals ((List.range n).map fun i : Nat => V.int (lo + (i : Int))) acc := by
  induction acc generalizing lo with
  | nil => intro n e _; subst e; exact .nil
  | cons v acc ih =>
    intro n e h
    subst e
    rw [List.length_cons, List.range_succ_eq_map, List.map_cons, List.map_map]
    refine .cons ?_ ?_
    · obtain ⟨t, rfl⟩ := h 0 v rfl
      exact ⟨t, by rw [Int.mul_one]⟩
    · have z := ih (lo := lo + 1) (n := acc.length) rfl fun j u hu => by
        obtain ⟨t, rfl⟩ := h (j + 1) u hu
        exact ⟨t, by congr 1; omega⟩
      have e : ((fun i : Nat => V.int (lo + (i : Int))) ∘ Nat.succ) = fun i : Nat => V.int (lo + 1 + (i : Int)) := by
        funext i
        show V.int (lo + ((i + 1 : Nat) : Int)) = _
        congr 1
        omega
      rw [e]
      exact z
/-- list(r) of a small range -/
theorem cr_listR {X : Cx} (hc : X.calm = true) : CallR X (.type "list") (fun vs H Q => ∃ (a : Addr) (n : Nat), vs = [V.ref a] ∧ H a = some (.rng 0 (n : Int)) ∧ n ≤ 1000 ∧ ∀ p, H p = none → Q (.ref p) (upd H p (.lst ((List.range n).map fun i : Nat => V.int (i : Int))))) := by
  intro pins s σ H vs us Q I r h
  obtain ⟨a, n, rfl, ha, hn, q⟩ := h
  rw [Vals.ref1 r]
  obtain ⟨t, u, v, ho⟩ := I.hok a _ ha
  have size : Builtin.Range.rangeSize 0 (n : Int) 1 = (n : Int) := by
    unfold Builtin.Range.rangeSize
    rw [if_pos (by decide)]
    split <;> omega
  have fits : ∀ i : Int, -(2 ^ 31) < i → i < 2 ^ 31 → Builtin.Range.rangeFitsLong i = true := by
    intro i h1 h2
    unfold Builtin.Range.rangeFitsLong
    simp only [Bool.and_eq_true, decide_eq_true_eq]
    constructor <;> omega
  refine call_list_range (I.ok.hd hc) ho ?_ size (by omega) ?_
  · unfold Builtin.Range.small
    rw [size, fits 0 (by decide) (by decide), fits (n : Int) (by omega) (by omega), fits 1 (by decide) (by decide), if_pos (by decide), fits ((n : Int) + (1 - 1)) (by omega) (by omega), Bool.or_true]
    rfl
  · intro h' tk acc c k hg it
    have hv := vals_range (acc := acc.toList) (lo := 0) (n := n) (by rw [Array.length_toList]; exact it.1) fun j v hj => it.2 j v (by rw [← Array.getElem?_toList]; exact hj)
    have e : ((List.range n).map fun i : Nat => V.int (0 + (i : Int))) = (List.range n).map fun i : Nat => V.int (i : Int) := List.map_congr_left fun i _ => by rw [Int.zero_add]
    rw [e] at hv
    refine ⟨.ref s.heap.objs.size, upd H s.heap.objs.size (.lst ((List.range n).map fun i : Nat => V.int (i : Int))), I.laid (t' := tk) k (Nat.le_refl _) ⟨?_, acc.toList, c, hv, ?_⟩, rfl, q _ (I.hok.fresh (Nat.le_refl _))⟩
    · rw [List.length_map, List.length_range, sizeLine_eq]
      omega
    · rw [hg, Array.toArray_toList]
/-- t.index(k) of a tuple of ints, k in it -/
theorem mt_tup_indexI {X : Cx} : MtR X "tuple.index" (fun x xs H Q => ∃ (p : Addr) (ns : List Int) (z : Int) (j : Nat), x = .ref p ∧ xs = [.int z] ∧ SqT X.K H p (ns.map V.int) ∧ ns[j]? = some z ∧ (∀ m, m < j → ns[m]? ≠ some z) ∧ Q (.int (j : Nat)) H) := by
  intro pins s σ H x xs v us Q I rx rs h
  obtain ⟨p, ns, z, j, rfl, rfl, hq, hj, hno, q⟩ := h
  cases rx
  obtain ⟨u, rfl, t, rfl⟩ := vals1 rs
  obtain ⟨its, r, ⟨⟨cls, dd, dt, sl⟩, ho, hcl, n, hd⟩, hz⟩ := I.tuple hq
  subst hcl
  subst hd
  have ii : IntsAre its ns := ints_of_vals r
  have at_ : ∀ {its : List Value} {ns : List Int}, IntsAre its ns → ∀ (m : Nat) (hm : m < its.length), ∃ i t, its[m] = Value.int i t ∧ ns[m]? = some i := by
    intro its ns h
    induction h with
    | nil => intro m hm; cases hm
    | cons x t r ih =>
      intro m hm
      cases m with
      | zero => exact ⟨_, _, rfl, rfl⟩
      | succ m => exact ih m (Nat.lt_of_succ_lt_succ hm)
  let e : Value → Bool := fun v => match v with
    | .int i _ => i == z
    | _ => false
  have ln : its.length = ns.length := by rw [← r.length, List.length_map]
  have jn : j < ns.length := by
    rcases Nat.lt_or_ge j ns.length with l | l
    · exact l
    · rw [List.getElem?_eq_none l] at hj
      cases hj
  refine call_meets PySem.F.slot_tuple_index ⟨_, ho, rfl⟩ PySem.F.entry_tuple_index (PySem.F.args_tuple_index_2 _ _)
    (TI.tuple_indexAt p its.toArray n dd sl (Value.int z t) e j (by rw [List.size_toArray]; omega) ?_ ?_) ?_
  · obtain ⟨i, t2, e1, e2⟩ := at_ ii j (by omega)
    rw [hj] at e2
    cases e2
    simp only [List.getElem_toArray, e1, e, beq_self_eq_true]
  · intro m hm lt
    have hm2 : m < its.length := by simpa using hm
    obtain ⟨i, t2, e1, e2⟩ := at_ ii m hm2
    simp only [List.getElem_toArray, e1, e]
    have ne := hno m lt
    rw [e2] at ne
    simpa using fun w => ne (congrArg some w)
  · refine ⟨ho, fun y hy => ?_, ?_⟩
    · obtain ⟨m, hm, e1⟩ := List.getElem_of_mem (show y ∈ its by simpa using hy)
      obtain ⟨i, t2, e2, _⟩ := at_ ii m hm
      rw [← e1, e2]
      exact SeqAt.EqAt.int_int i t2 z t
    · exact ⟨.int (j : Nat), H, I.tok _, ⟨_, rfl⟩, q⟩
end Gq
set_option Elab.async false
set_option linter.all false
set_option maxRecDepth 100000
set_option maxHeartbeats 2000000
/-! Own base 17: double comprehensions, promises of completed and placed. -/
namespace Gq
open PySem PySem.Spec PyProof.Rows L2
theorem flat_len {α β γ : Type} (bs : List β) (g : α → β → γ) : ∀ as : List α, (as.flatMap fun a => bs.map (g a)).length = as.length * bs.length
  | [] => by simp
  | a :: as => by
    rw [List.flatMap_cons, List.length_append, List.length_map, flat_len bs g as, List.length_cons, Nat.succ_mul]
    omega
section
variable {K : PySem.W.Frag} {σ : L2.St} {H H' : Hp} {ta tb te tl tl2 : TE} {t u : TT}
theorem er_lc2 {α β γ : Type} {j k : Nat} {ws vs1 : List Nat} (as : List α) (bs : List β) {RI : α → V → Hp → Prop} {RJ : β → V → Hp → Prop} {RO : γ → V → Hp → Prop} (mo : ∀ b, Mo (RO b)) (mi : ∀ a, Mo (RI a)) (mj : ∀ b, Mo (RJ b)) (g : α → β → γ) {q : Addr} {ys : List V}
    (hl : Er tl σ H (TupR RI as)) (hq : H q = some (.tup ys)) (rq : Rel RJ H ys bs)
    (hl2 : ∀ x H1, Same H H1 → ∀ Q : VK, Q (.ref q) H1 → tl2 ((wipe σ ws).set j (some x)) H1 Q)
    (hw : ∀ x, wipe ((wipe σ ws).set j (some x)) ws = wipe σ ws)
    (hw2 : ∀ x y, wipe ((wipe ((wipe σ ws).set j (some x)) vs1).set k (some y)) vs1 = wipe ((wipe σ ws).set j (some x)) vs1)
    (hs : as.length * bs.length ≤ 1000)
    (he : ∀ a b, a ∈ as → b ∈ bs → ∀ x y H1, Same H H1 → RI a x H1 → RJ b y H1 → Er te ((wipe ((wipe σ ws).set j (some x)) vs1).set k (some y)) H1 (RO (g a b))) :
    Er (tLc2 (iTup K tl) (gName j) tYes (iTup K tl2) (gName k) tYes te ws vs1) σ H (LstR RO (as.flatMap fun a => bs.map (g a))) := by
  intro H0 e0 Q qq
  refine hl H0 e0 _ fun v H1 s1 r1 => ?_
  obtain ⟨p, xs, rfl, hp, rel⟩ := r1
  refine ⟨p, rfl, ⟨xs, SqT.of hp⟩, fun D hD => ?_⟩
  have e1 := e0.trans s1
  refine ⟨fun i m H' => m = as.length - i ∧ i ≤ as.length ∧ Pv RO H1 D ((as.take i).flatMap fun a => bs.map (g a)) H', ⟨_, rfl, Nat.zero_le _, [], same_upd hD, upd_same, .nil⟩, ?_⟩
  rintro i m H' ⟨rfl, hi, pv⟩
  have sm : Same H1 H' := pv.choose_spec.1
  by_cases hlt : i < as.length
  · have hx : i < xs.length := by rw [rel.len]; exact hlt
    refine .inr ⟨⟨xs, xs[i], SqT.of (sm _ _ hp), List.getElem?_eq_getElem hx⟩, fun H'' => Pv RO H1 D ((as.take (i + 1)).flatMap fun a => bs.map (g a)) H'', fun H'' z => ⟨_, by omega, rfl, by omega, z⟩, ?_⟩
    rintro x H'' ⟨rfl, hy⟩
    have hx2 := hy xs (SqT.of (sm _ _ hp))
    obtain ⟨a, ha, ra⟩ := rel.get hx2
    have ma := List.mem_of_getElem? ha
    refine ⟨hw x, ?_⟩
    refine et_yes H'' (Same.refl H'') _ fun H3 e3 => ?_
    have sm3 := sm.trans e3
    rw [if_pos rfl]
    refine hl2 x H3 (e1.trans sm3) _ ?_
    refine ⟨q, rfl, ⟨ys, SqT.of ((e1.trans sm3) _ _ hq)⟩, ?_⟩
    refine ⟨fun jj kk H' => kk = bs.length - jj ∧ jj ≤ bs.length ∧ Pv RO H1 D (((as.take i).flatMap fun a => bs.map (g a)) ++ (bs.take jj).map (g a)) H', ⟨_, rfl, Nat.zero_le _, by rw [List.take_zero, List.map_nil, List.append_nil]; obtain ⟨zs, z1, z2, z3⟩ := pv; exact ⟨zs, z1.trans e3, e3 _ _ z2, z3.imp fun c v => (mo c).mono v _ _ e3⟩⟩, ?_⟩
    rintro jj kk G ⟨rfl, hj, pw⟩
    have sg : Same H1 G := pw.choose_spec.1
    by_cases hlt2 : jj < bs.length
    · have hyy : jj < ys.length := by rw [rq.len]; exact hlt2
      refine .inr ⟨⟨ys, ys[jj], SqT.of ((e1.trans sg) _ _ hq), List.getElem?_eq_getElem hyy⟩, fun G'' => Pv RO H1 D (((as.take i).flatMap fun a => bs.map (g a)) ++ (bs.take (jj + 1)).map (g a)) G'', fun G'' z => ⟨_, by omega, rfl, by omega, z⟩, ?_⟩
      rintro y G'' ⟨rfl, hz⟩
      have hy2 := hz ys (SqT.of ((e1.trans sg) _ _ hq))
      obtain ⟨b, hb, rb⟩ := rq.get hy2
      have mb := List.mem_of_getElem? hb
      refine ⟨hw2 x y, ?_⟩
      have z := lc_turn (te := te) (t := tYes) (σ := ((wipe ((wipe σ ws).set j (some x)) vs1).set k (some y))) (fa := true) (ga := g a b) mo hD pw ?_ et_yes (fun _ => he a b ma mb x y H1 e1 ra ((mj b).mono _ _ _ e1 rb))
      · rw [if_pos rfl] at z
        have tk : (bs.take (jj + 1)).map (g a) = (bs.take jj).map (g a) ++ [g a b] := by
          rw [List.take_add_one, hb, List.map_append]
          rfl
        rw [tk, ← List.append_assoc]
        exact z
      · rw [List.length_append, flat_len, List.length_map, List.length_take, List.length_take]
        have h1 : min i as.length = i := by omega
        have h2 : min jj bs.length = jj := by omega
        rw [h1, h2]
        have h3 : (i + 1) * bs.length ≤ as.length * bs.length := Nat.mul_le_mul_right _ hlt
        rw [Nat.succ_mul] at h3
        omega
    · refine .inl ⟨⟨ys, SqT.of ((e1.trans sg) _ _ hq), by rw [rq.len]; omega⟩, ?_⟩
      have tk : (as.take (i + 1)).flatMap (fun a => bs.map (g a)) = ((as.take i).flatMap fun a => bs.map (g a)) ++ bs.map (g a) := by
        rw [List.take_add_one, ha]
        simp
      show Pv RO H1 D _ G
      rw [tk]
      rw [List.take_of_length_le (l := bs) (i := jj) (by omega)] at pw
      exact pw
  · refine .inl ⟨⟨xs, SqT.of (sm _ _ hp), by rw [rel.len]; omega⟩, ?_⟩
    obtain ⟨zs, z1, z2, z3⟩ := pv
    rw [List.take_of_length_le (by omega)] at z3
    exact qq _ H' (s1.trans z1) ⟨D, zs, rfl, z2, z3⟩
end
theorem flat_all (F : List LI) : (F.flatMap fun a => F.map fun b => meets a b).all id = mtB F := by
  unfold mtB
  rw [List.all_flatMap]
  congr 1
  funext a
  rw [List.all_map]
  rfl
end Gq
set_option Elab.async false
set_option linter.all false
set_option maxRecDepth 100000
set_option maxHeartbeats 2000000
/-! Own base 18: sorted of a tuple of ints. -/
namespace Gq
open PySem PySem.Spec PyProof.Rows L2
theorem collect_grows {P : Program} {w : World} {A : Around} {E : Value → Shared → Prop} {s : Shared} {Q : List Value → Shared → Prop} {a : Addr} {o : Obj} {its : List Value} {n : Nat}
    (ho : s.heap.get? a = some o) (hc : o.cls = .type "tuple") (hd : o.data = .seq its.toArray n) (hz : its.length ≤ sizeLine)
    (h : ∀ h', (∀ b u, s.heap.get? b = some u → h'.get? b = some u) → s.heap.objs.size ≤ h'.objs.size → Q its { s with heap := h' }) :
    wpAny (model P w) A (collect (.ref a)) Q E s := by
  have lt := Heap.lt_size ho
  have hS : (s.heap.push { cls := .type "list", data := .seq (#[] : Array Value) 0 }).get? s.heap.objs.size = some { cls := .type "list", data := .seq (#[] : Array Value) 0 } := Heap.get?_push_size _ rfl
  have ha : (s.heap.push { cls := .type "list", data := .seq (#[] : Array Value) 0 }).get? a = some o := Heap.get?_push_of_some _ ho
  have hU := Heap.get?_update_self (Obj.mapSeq fun x => x ++ its.toArray) hS rfl
  unfold collect
  refine wpAny_bind ?_
  refine wpAny_runValue (codeAny_mono (R := fun r s' => r = .ok (.ret (.ref s.heap.objs.size)) ∧
    s' = { s with heap := (s.heap.push { cls := .type "list", data := .seq (#[] : Array Value) 0 }).update s.heap.objs.size (Obj.mapSeq fun x => x ++ its.toArray) }) ?_ ?_)
  · refine codeAny_builtin PySem.F.entry_proto_collect ?_
    rw [PySem.Around.under_plainId PySem.F.plain_proto_collect]
    unfold PySem.Builtin.«proto.collect»
    show wpAny (model P w) A.in1 (newList [] >>= fun x => again (Code.builtin "list.__iadd__" { pos := [x, .ref a] })) _ _ s
    refine wpAny_bind (wpAny_newObj_type ?_ (by show 0 ≤ sizeLine; decide))
    refine wpAny_pure ⟨plainId_quiet PySem.F.plain_list_iadd _, ?_⟩
    refine codeAny_builtin PySem.F.entry_list_iadd ?_
    rw [PySem.Around.under_plainId PySem.F.plain_list_iadd]
    show wpAny (model P w) A.in1 (Builtin.List.listExtendWith (.ref s.heap.objs.size) (.ref a) (.ref s.heap.objs.size)) _ _ _
    exact wpAny_extend_seq (s := { s with heap := s.heap.push { cls := .type "list", data := .seq (#[] : Array Value) 0 } }) s.heap.objs.size a (.ref s.heap.objs.size) 0 (.inr rfl) hS ha hc hd (R := fun r s' => r = .ok (.ret (.ref s.heap.objs.size)) ∧ s' = { s with heap := (s.heap.push { cls := .type "list", data := .seq (#[] : Array Value) 0 }).update s.heap.objs.size (Obj.mapSeq fun x => x ++ its.toArray) }) ⟨rfl, rfl⟩ (by rw [List.size_toArray]; exact hz)
  · rintro r s' ⟨rfl, rfl⟩
    refine wpAny_bind (wpAny_load hU ?_)
    have ee : ((#[] : Array Value) ++ its.toArray).toList = its := by simp
    show wpAny (model P w) A (pure ((#[] : Array Value) ++ its.toArray).toList) Q E _
    rw [ee]
    refine wpAny_pure (h _ (fun b u e => ?_) ?_)
    · have lt2 := Heap.lt_size e
      rw [Heap.get?_update_other _ _ (Nat.ne_of_gt lt2)]
      exact Heap.get?_push_of_some _ e
    · have z := Heap.lt_size hU
      exact Nat.le_of_lt z
theorem cr_sortedIT {X : Cx} : CallR X (.builtin "sorted") (fun vs H Q => ∃ (a : Addr) (ns : List Int), vs = [V.ref a] ∧ SqT X.K H a (ns.map V.int) ∧ ∀ (ns' : List Int) (p : Addr), ns'.Perm ns → ns'.Pairwise (· ≤ ·) → H p = none → Q (.ref p) (upd H p (.lst (ns'.map V.int)))) := by
  intro pins s σ H vs us Q I r h
  obtain ⟨a, ns, rfl, ha, q⟩ := h
  rw [Vals.ref1 r]
  obtain ⟨its, rv, ⟨o, ho, hc, n, hd⟩, hz⟩ := I.tuple ha
  have ii : IntsAre its ns := ints_of_vals rv
  have lineV : its.length ≤ sizeLine := by rw [← rv.length]; exact hz
  refine Calls.call_function_entry kind_sorted plain_sorted entry_sorted (args_sorted1 _) ?_
  unfold Builtin.«sorted»
  refine wpAny_bind (m := checkCount "sorted" 1 1 _) (wpAny_pure ?_)
  refine wpAny_bind (collect_grows ho hc hd lineV (fun h1 k1 z1 => ?_))
  refine wpAny_bind (wpAny_newList ?_ lineV)
  have hL : (h1.push (seqObj "list" its.toArray 0)).get? h1.objs.size = some (seqObj "list" its.toArray 0) := Heap.get?_push_size _ rfl
  refine wpAny_bind (wpAny_holding (wpAny_call_entry slot_list_sort ⟨_, hL, rfl⟩ entry_list_sort
    (SrtO.list_sort_ord (vs := its) (s := { s with heap := h1.push (seqObj "list" its.toArray 0) }) SrtO.swo_int hL lineV
      (fun h2 => SrtO.ints_sortable ii h2) fun out hs hb => ⟨_, rfl, ?_⟩) (args_list_sort _)))
  obtain ⟨y1, y2, y3⟩ := SrtO.ints_out ii hs hb
  obtain ⟨c, hc2⟩ := sortedHeap_at (vs := its) (out := out.toArray) hL
  have np : H h1.objs.size = none := I.hok.fresh z1
  have lo : ((out.map SrtO.iv).map V.int).length ≤ sizeLine := by
    rw [List.length_map, List.length_map, hb.perm.length_eq]
    exact lineV
  refine wpAny_pure ⟨_, rfl, ?_⟩
  refine ⟨.ref h1.objs.size, upd H h1.objs.size (.lst ((out.map SrtO.iv).map V.int)), I.laid (fun b u e => ?_) z1 ⟨lo, out, c, vals_of_ints y1, hc2⟩, rfl, q (out.map SrtO.iv) _ y2 y3 np⟩
  have e2 := k1 b u e
  have lt := Heap.lt_size e2
  rw [sortedHeap_old (Nat.ne_of_lt lt) (by rw [size_push']; exact Nat.lt_succ_of_lt lt)]
  exact Heap.get?_push_of_some _ e2
end Gq
set_option Elab.async false
set_option linter.all false
set_option maxRecDepth 100000
set_option maxHeartbeats 2000000
/-! Own base 19: turns, promises for completed and placed. -/
namespace Gq
open PySem PySem.Spec PyProof.Rows L2
/-! ### turns -/
def tf (T : LI) : Int → Int := fun p => T.getD p.toNat 0
def tg (T : LI) : Int → Int := fun q => (T.idxOf q : Int)
theorem places_len (n : Nat) : (places n).length = n := by unfold places; rw [List.length_map, List.length_range]
theorem places_nd (n : Nat) : (places n).Nodup := (places_asc n).imp fun {a b} h => by omega
theorem turns_pm {n : Nat} {T : LI} (h : T.Perm (places n)) : Pm n (tf T) (tg T) := by
  have ln : T.length = n := by rw [h.length_eq, places_len]
  have nd : T.Nodup := h.nodup_iff.mpr (places_nd n)
  have mem : ∀ q, q ∈ T ↔ 0 ≤ q ∧ q < (n : Int) := fun q => h.mem_iff.trans mem_places
  have at_ : ∀ p : Int, 0 ≤ p ∧ p < (n : Int) → ∃ h : p.toNat < T.length, tf T p = T[p.toNat] := by
    intro p hp
    have l : p.toNat < T.length := by omega
    refine ⟨l, ?_⟩
    unfold tf
    rw [List.getD_eq_getElem?_getD, List.getElem?_eq_getElem l]
    rfl
  refine ⟨fun p hp => ?_, fun q hq => ?_, fun p hp => ?_, fun q hq => ?_⟩
  · obtain ⟨l, e⟩ := at_ p hp
    rw [e]
    exact (mem _).mp (List.getElem_mem l)
  · have l := List.idxOf_lt_length_of_mem ((mem q).mpr hq)
    unfold tg
    omega
  · obtain ⟨l, e⟩ := at_ p hp
    unfold tg
    rw [e, nd.idxOf_getElem]
    omega
  · have l := List.idxOf_lt_length_of_mem ((mem q).mpr hq)
    have z : 0 ≤ tg T q ∧ tg T q < (n : Int) := by unfold tg; omega
    obtain ⟨l2, e⟩ := at_ (tg T q) z
    rw [e]
    have e2 : (tg T q).toNat = T.idxOf q := by unfold tg; omega
    have : T[(tg T q).toNat] = T[T.idxOf q] := by congr 1
    rw [this]
    exact List.getElem_idxOf l
def backT (n : Nat) (T : LI) : LI := (List.range n).map fun i : Nat => tg T (i : Int)
theorem back_perm {n : Nat} {T : LI} (h : T.Perm (places n)) : (backT n T).Perm (places n) := by
  have pm := turns_pm h
  have nd : (backT n T).Nodup := by
    unfold backT
    refine List.pairwise_map.mpr (List.Pairwise.imp_of_mem ?_ List.nodup_range)
    intro i j hi hj ne e
    have hi := List.mem_range.mp hi
    have hj := List.mem_range.mp hj
    have z1 := pm.fg (i : Int) (by omega)
    rw [e, pm.fg (j : Int) (by omega)] at z1
    omega
  refine (List.perm_ext_iff_of_nodup nd (places_nd n)).mpr fun q => ?_
  rw [mem_places]
  unfold backT
  rw [List.mem_map]
  constructor
  · rintro ⟨i, hi, rfl⟩
    have hi := List.mem_range.mp hi
    exact pm.gp (i : Int) (by omega)
  · intro hq
    have z := pm.fp q hq
    refine ⟨(tf T q).toNat, List.mem_range.mpr (by omega), ?_⟩
    have e : (((tf T q).toNat : Nat) : Int) = tf T q := by omega
    rw [e]
    exact pm.gf q hq
theorem back_tf {n : Nat} {T : LI} {q : Int} (hq : 0 ≤ q ∧ q < (n : Int)) : tf (backT n T) q = tg T q := by
  unfold tf backT
  have l : q.toNat < n := by omega
  rw [List.getD_eq_getElem?_getD, List.getElem?_map, List.getElem?_range l]
  show tg T ((q.toNat : Nat) : Int) = _
  congr 1
  omega
theorem placed_congr {n : Nat} {f g : Int → Int} {F : List LI} (hF : ∀ A ∈ F, Pl n A) (h : ∀ q, 0 ≤ q ∧ q < (n : Int) → f q = g q) : placedS n f F = placedS n g F := by
  unfold placedS
  congr 1
  refine List.map_congr_left fun A hA => ?_
  unfold mvS
  rw [List.map_congr_left fun q hq => h q ((hF A hA).2 q hq)]
/-! ### rules with their parts named -/
section
variable {X : Cx} {K : PySem.W.Frag} {w : World}
theorem cr_sortedTK (h : X.K = K) : CallR X (.builtin "sorted") (rSortedT K) := h ▸ cr_sortedT
theorem cr_sortedIK (h : X.K = K) : CallR X (.builtin "sorted") (rSortedI K) := h ▸ cr_sortedI
def rSortedIT (K : PySem.W.Frag) : List V → Hp → VK → Prop := fun vs H Q => ∃ (a : Addr) (ns : List Int), vs = [V.ref a] ∧ SqT K H a (ns.map V.int) ∧ ∀ (ns' : List Int) (p : Addr), ns'.Perm ns → ns'.Pairwise (· ≤ ·) → H p = none → Q (.ref p) (upd H p (.lst (ns'.map V.int)))
theorem cr_sortedITK (h : X.K = K) : CallR X (.builtin "sorted") (rSortedIT K) := h ▸ cr_sortedIT
theorem cr_setIK (h : X.K = K) (h2 : X.w = w) (hc : X.calm = true) : CallR X (.type "set") (rSetI K w) := h ▸ h2 ▸ cr_setI hc
theorem cr_sortedSetK (h2 : X.w = w) (hc : X.calm = true) : CallR X (.builtin "sorted") (rSortedSet w) := h2 ▸ cr_sortedSet hc
def rIndexT (K : PySem.W.Frag) : V → List V → Hp → VK → Prop := fun x xs H Q => ∃ (p : Addr) (ns : List Int) (z : Int) (j : Nat), x = .ref p ∧ xs = [.int z] ∧ SqT K H p (ns.map V.int) ∧ ns[j]? = some z ∧ (∀ m, m < j → ns[m]? ≠ some z) ∧ Q (.int (j : Nat)) H
theorem mt_tup_indexIK (h : X.K = K) : MtR X "tuple.index" (rIndexT K) := h ▸ mt_tup_indexI
def rListOf (K : PySem.W.Frag) : List V → Hp → VK → Prop := fun xs H Q => ∃ p ys, xs = [.ref p] ∧ (SqL K H p ys ∨ SqT K H p ys) ∧ ∀ l, H l = none → Q (.ref l) (upd H l (.lst ys))
theorem call_listK (h : X.K = K) : CallR X (.type "list") (rListOf K) := h ▸ call_list_of
end
/-- what the text says of an own error over ValueError -/
structure Ex (K : PySem.W.Frag) (mg : Str → Option Value) (x : Str) (C : Addr) : Prop where
  gP : mg x = some (.ref C)
  xP : PySem.W.excIn K C [.type "ValueError", .type "Exception", .type "BaseException", .type "object"] "ValueError.__new__" = true
  kP : PySem.W.keepIn K (.ref C) = true
  bP : PySem.W.subIn K (.ref C) (.type "BaseException") = some true
  tP : PySem.W.typeIn K (.ref C) = some (.type "type")
  eP : PySem.W.exmOne K (.ref C) (.ref C) = some true
/-- a def that may raise -/
structure ClX (P : Program) (w : World) (K : PySem.W.Frag) (mg : Str → Option Value) (base : Heap) (k : Nat) (x : Str) (sp : Sp) : Prop where
  here : ∃ (f : Addr) (fd : FuncData) (ps : List Str), FnOk P w K mg base (CX P w) k f fd ps sp ∧ mg x = some (.ref f) ∧
    PySem.W.keepIn K (.ref f) = true ∧ Binds K fd ps []
section
variable {X : Cx} {k j : Nat} {x : Str} {sp : Sp} {p pos : Pos} {e : Expr} {es : List Expr} {t : TA} {W : WX}
theorem pe_cX (tk : Takes X W) (c : ClX X.prog X.w X.K X.mg X.base k x sp) (hr : Room j X.A) (hk : k ≤ j) (hg : Gl X x) (ha : PA X (e :: es) t)
    (hdb : (x == ("__debug__" : Str)) = false := by decide)
    (he : starEach (e :: es) X.env = (false, eval e X.env) :: starEach es X.env := by rfl)
    (hpl : (backTo pos (starEach es X.env)).any (·.1) = false := by rfl) : PE X (.Call (.Name x p) (e :: es) [] pos) (tCallS sp (WE W) t) := by
  obtain ⟨f, fd, ps, F, hm, kp, b⟩ := c.here
  exact pe_callS F (hr.mono hk) hg hm kp b (fun σ => passAt tk σ) ha hdb he hpl
theorem pe_cN (c : ClX X.prog X.w X.K X.mg X.base k x sp) (hr : Room j X.A) (hk : k ≤ j) (hg : Gl X x) (ha : PA X (e :: es) t)
    (hdb : (x == ("__debug__" : Str)) = false := by decide)
    (he : starEach (e :: es) X.env = (false, eval e X.env) :: starEach es X.env := by rfl)
    (hpl : (backTo pos (starEach es X.env)).any (·.1) = false := by rfl) : PE X (.Call (.Name x p) (e :: es) [] pos) (tCallS sp (fun _ => E0) t) := by
  obtain ⟨f, fd, ps, F, hm, kp, b⟩ := c.here
  refine pe_callS F (hr.mono hk) hg hm kp b (fun σ => ?_) ha hdb he hpl
  intro pins H s e s' I h
  obtain ⟨a, B, H', cls, d, _, _, _, _, _, _, _, z⟩ := h
  exact z.elim
end
/-! ### promises -/
abbrev RI : Int → V → Hp → Prop := fun p v _ => v = .int p
/-- a tuple of ints, frozen or not -/
def TV (T : LI) : V → Hp → Prop := fun v H => ∃ p, v = .ref p ∧ Rd H p (.tup (T.map V.int))
theorem TV.of {T : LI} {v : V} {H : Hp} (h : SetV T v H) : TV T v H := by
  obtain ⟨p, rfl, hp⟩ := h
  exact ⟨p, rfl, .inl hp⟩
theorem TV.mono {T : LI} : ∀ v H H', Same H H' → TV T v H → TV T v H' := by
  rintro v H H' s ⟨p, rfl, hp | ⟨o, hp⟩⟩
  · exact ⟨p, rfl, .inl (s _ _ hp)⟩
  · exact ⟨p, rfl, .inr ⟨o, s _ _ hp⟩⟩
def spAscL : Sp := fun vs H Q _ => ∃ (x : V) (a : LI), vs = [x] ∧ LstR RI a x H ∧ a.length ≤ 1000 ∧ ∀ H', Same H H' → Q (.bl (ascB a)) H'
def spAreTurns : Sp := fun vs H Q _ => ∃ (n : Nat) (x : V) (T : LI), vs = [.int (n : Int), x] ∧ Wd n ∧ TV T x H ∧ T.Perm (places n) ∧ ∀ H', Same H H' → Q (.bl true) H'
def spPlaced : Sp := fun vs H Q _ => ∃ (n : Nat) (x y : V) (F : List LI) (T : LI), vs = [.int (n : Int), x, y] ∧ Wd n ∧ FamT F x H ∧ Fm n F ∧ TV T y H ∧ T.Perm (places n) ∧ ∀ v H', Same H H' → FamT (placedS n (tf T) F) v H' → Q v H'
def spComp (C : Addr) : Sp := fun vs H Q E => ∃ (n : Nat) (x : V) (F : List LI), vs = [.int (n : Int), x] ∧ Wd n ∧ FamT F x H ∧ Fm n F ∧
  (mtB F = true → ∀ v H', Same H H' → FamT (compS n F) v H' → Q v H') ∧ (mtB F = false → ∀ H', Same H H' → E (.ref C) none H')
/-- a family, or None -/
def OptR (b : Bool) (R : V → Hp → Prop) : V → Hp → Prop := fun v H => if b = true then R v H else v = .non
def spLawComp : Sp := fun vs H Q _ => ∃ (n : Nat) (x : V) (F : List LI), vs = [.int (n : Int), x] ∧ Wd n ∧ FamT F x H ∧ Fm n F ∧ ∀ v H', Same H H' → OptR (mtB F) (FamT (compS n F)) v H' → Q v H'
def spDoesMeet : Sp := fun vs H Q _ => ∃ (n : Nat) (x : V) (F : List LI), vs = [x] ∧ Wd n ∧ FamT F x H ∧ Fm n F ∧ ∀ H', Same H H' → Q (.bl (mtB F)) H'
def spWhole : Sp := fun vs H Q _ => ∃ (n : Nat) (x y : V) (F G : List LI), vs = [.int (n : Int), x, y] ∧ Wd n ∧ FamT F x H ∧ Fm n F ∧ FamT G y H ∧ Fm n G ∧ blocksS n F = F ∧ (∀ g ∈ G, has F g = true) ∧ ∀ H', Same H H' → Q (.bl true) H'
def spMixed : Sp := fun vs H Q _ => ∃ (p l : Addr) (A : LI), vs = [.ref p, .ref l] ∧ Dice H p ∧ H l = some (.lst (A.map V.int)) ∧ l ≠ p ∧ A.length ≤ 1000 ∧ ∀ v H' T, T.Perm A → Roll p H H' → LstR RI T v H' → Q v H'
section
variable {K : PySem.W.Frag} {σ : L2.St} {H : Hp} {ta tb tc te : TE} {n : Nat}
theorem er_sortedF {G : List LI} (h : Er te σ H (FamL G)) (nd : G.Nodup) (ne : ∀ g ∈ G, g ≠ []) : Er (tCB (rSortedT K) (tCons te tNil)) σ H (FamL (sortS G)) :=
  er_cb1 h fun x H1 _ rx Q q => by
    obtain ⟨p, xs, rfl, hp, rel⟩ := rx
    obtain ⟨ks, rfl, rfl, hk⟩ := rel_addr rel
    refine ⟨p, ks, rfl, SqL.of hp, fun k hk2 => SqT.of (hk k hk2), fun k hk2 => ne _ (List.mem_map.mpr ⟨k, hk2, rfl⟩), fun L' d pm pw hd => ?_⟩
    refine q _ _ (same_upd hd) ⟨d, _, rfl, upd_same, ?_⟩
    have nd2 : (L'.map (·.2)).Nodup := (pm.map (·.2)).nodup_iff.mpr nd
    have st : Srt (L'.map (·.2)) := by
      refine List.Pairwise.imp ?_ (List.Pairwise.and nd2 ((List.pairwise_map (R := fun x y => lexLt y x = false)).mpr pw))
      intro x y z
      cases h : lexLt x y with
      | true => rfl
      | false => exact absurd (lex_tot x y h z.2) z.1
    have e : L'.map (·.2) = sortS (ks.map (·.2)) := srt_sortS st fun A => (pm.map (·.2)).mem_iff
    rw [← e]
    exact rel_of_addr fun k hk2 => same_upd hd _ _ (hk k (pm.mem_iff.mp hk2))
theorem er_sortedI {A B : LI} (h : Er te σ H (LstR RI A)) (hB : ∀ ns : LI, ns.Perm A → ns.Pairwise (· ≤ ·) → ns = B) : Er (tCB (rSortedI K) (tCons te tNil)) σ H (LstR RI B) :=
  er_cb1 h fun x H1 _ rx Q q => by
    obtain ⟨p, xs, rfl, hp, rel⟩ := rx
    rw [rel.of_map] at hp
    refine ⟨p, A, rfl, SqL.of hp, fun ns d pm pw hd => ?_⟩
    refine q _ _ (same_upd hd) ⟨d, _, rfl, upd_same, ?_⟩
    rw [← hB ns pm pw]
    exact Rel.mk_map fun _ _ => rfl
theorem er_sortedIT {A B : LI} (h : Er te σ H (TV A)) (hB : ∀ ns : LI, ns.Perm A → ns.Pairwise (· ≤ ·) → ns = B) : Er (tCB (rSortedIT K) (tCons te tNil)) σ H (LstR RI B) :=
  er_cb1 h fun x H1 _ rx Q q => by
    obtain ⟨p, rfl, hp⟩ := rx
    refine ⟨p, A, rfl, .inl hp, fun ns d pm pw hd => ?_⟩
    refine q _ _ (same_upd hd) ⟨d, _, rfl, upd_same, ?_⟩
    rw [← hB ns pm pw]
    exact Rel.mk_map fun _ _ => rfl
theorem er_ixT {T : LI} {p : Int} (ha : Er ta σ H (TV T)) (hb : Er tb σ H (Is (.int p))) (h0 : 0 ≤ p) (h1 : p < (T.length : Int)) : Er (tOp (rIxT K) ta tb) σ H (RI (tf T p)) :=
  er_op ha hb TV.mono fun x y H1 _ rx ry Q q => by
    obtain ⟨a, rfl, hp⟩ := rx
    cases (show y = _ from ry)
    obtain ⟨i, rfl⟩ : ∃ i : Nat, p = (i : Int) := ⟨p.toNat, by omega⟩
    have l : i < T.length := by omega
    refine ⟨a, _, _, _, rfl, rfl, .inl hp, atI_nat (by rw [List.getElem?_map, List.getElem?_eq_getElem l]; rfl), q _ H1 (Same.refl H1) ?_⟩
    unfold tf
    rw [List.getD_eq_getElem?_getD, Int.toNat_natCast, List.getElem?_eq_getElem l]
    rfl
theorem er_ascL {a : LI} (h : Er te σ H (LstR RI a)) (hn : a.length ≤ 1000) : Er (tCall spAscL [] E0 (tCons te tNil)) σ H (Is (.bl (ascB a))) :=
  er_call1 h fun x H1 _ rx Q q => ⟨x, a, rfl, rx, hn, fun H' s => q _ H' s rfl⟩
theorem er_areTurns {T : LI} (ha : Er ta σ H (Is (.int (n : Int)))) (hb : Er tb σ H (TV T)) (hw : Wd n) (pm : T.Perm (places n)) : Er (tCall spAreTurns [] E0 (tCons ta (tCons tb tNil))) σ H (Is (.bl true)) :=
  er_call2 ha hb (fun _ _ _ _ r => r) fun x y H1 _ rx ry Q q => by
    cases (show x = _ from rx)
    exact ⟨n, y, T, rfl, hw, ry, pm, fun H' s => q _ H' s rfl⟩
theorem er_placed {F : List LI} {T : LI} (ha : Er ta σ H (Is (.int (n : Int)))) (hb : Er tb σ H (FamT F)) (hc : Er tc σ H (TV T)) (hw : Wd n) (hF : Fm n F) (pm : T.Perm (places n)) : Er (tCall spPlaced [] E0 (tCons ta (tCons tb (tCons tc tNil)))) σ H (FamT (placedS n (tf T) F)) :=
  er_call3 ha hb hc (fun _ _ _ _ r => r) (Mo.fam F).mono fun x y z H1 _ rx ry rz Q q => by
    cases (show x = _ from rx)
    exact ⟨n, y, z, F, T, rfl, hw, ry, hF, rz, pm, q⟩
theorem er_lawComp {F : List LI} (ha : Er ta σ H (Is (.int (n : Int)))) (hb : Er tb σ H (FamT F)) (hw : Wd n) (hF : Fm n F) : Er (tCall spLawComp [] E0 (tCons ta (tCons tb tNil))) σ H (OptR (mtB F) (FamT (compS n F))) :=
  er_call2 ha hb (fun _ _ _ _ r => r) fun x y H1 _ rx ry Q q => by
    cases (show x = _ from rx)
    exact ⟨n, y, F, rfl, hw, ry, hF, q⟩
theorem er_doesMeet {F : List LI} (hb : Er tb σ H (FamT F)) (hw : Wd n) (hF : Fm n F) : Er (tCall spDoesMeet [] E0 (tCons tb tNil)) σ H (Is (.bl (mtB F))) :=
  er_call1 hb fun x H1 _ rx Q q => ⟨n, x, F, rfl, hw, rx, hF, fun H' s => q _ H' s rfl⟩
theorem er_whole {F G : List LI} (ha : Er ta σ H (Is (.int (n : Int)))) (hb : Er tb σ H (FamT F)) (hc : Er tc σ H (FamT G)) (hw : Wd n) (hF : Fm n F) (hG : Fm n G) (e : blocksS n F = F) (al : ∀ g ∈ G, has F g = true) : Er (tCall spWhole [] E0 (tCons ta (tCons tb (tCons tc tNil)))) σ H (Is (.bl true)) :=
  er_call3 ha hb hc (fun _ _ _ _ r => r) (Mo.fam F).mono fun x y z H1 _ rx ry rz Q q => by
    cases (show x = _ from rx)
    exact ⟨n, y, z, F, G, rfl, hw, ry, hF, rz, hG, e, al, fun H' s => q _ H' s rfl⟩
theorem er_compN {C : Addr} {F : List LI} (ha : Er ta σ H (Is (.int (n : Int)))) (hb : Er tb σ H (FamT F)) (hw : Wd n) (hF : Fm n F) (hm : mtB F = true) : Er (tCallS (spComp C) (fun _ => E0) (tCons ta (tCons tb tNil))) σ H (FamT (compS n F)) := fun H1 e Q q =>
  ha H1 e _ fun x H2 e2 rx => hb H2 (e.trans e2) _ fun y H3 e3 ry => by
    cases (show x = _ from rx)
    exact ⟨n, y, F, rfl, hw, ry, hF, fun _ v H' s r => q v H' ((e2.trans e3).trans s) r, fun z => by rw [hm] at z; cases z⟩
end
end Gq
set_option Elab.async false
set_option linter.all false
set_option maxRecDepth 100000
set_option maxHeartbeats 1000000
/-! Own base 20: zip of two lists of ints. -/
namespace Gq
open PySem PySem.Spec PyProof.Rows L2
theorem Mo.lstI (a : LI) (v : V) (H H' : Hp) (s : Same H H') (h : LstR RI a v H) : LstR RI a v H' := LstR.mono (fun _ => Mo.is _) s h
section
variable {K : PySem.W.Frag} {σ : L2.St} {H : Hp} {te : TE} {n : Nat}
theorem er_tailI {a : LI} (h : Er te σ H (LstR RI a)) : Er (tSl (rSlL K) te (tPart (tC (.int 1))) tNoPart) σ H (LstR RI (a.drop 1)) := fun H1 e Q q =>
  h H1 e _ fun x H2 e2 rx => by
    obtain ⟨p, xs, rfl, hp, r⟩ := rx
    refine ⟨1, rfl, p, xs, rfl, SqL.of hp, fun l hl => ?_⟩
    refine q _ _ (e2.trans (same_upd hl)) ⟨l, xs.drop 1, rfl, ?_, ?_⟩
    · rw [← cut1]
      exact upd_same
    · exact Rel.imp (H := H2) (H' := upd H2 l (.lst (cutV xs (some 1) none))) (fun c v r => r) (r.drop 1)
/-- [low < high for low, high in zip(a, b)] of two tuples of ints -/
theorem er_lcZL {ta : TA} {a b : LI} {j k : Nat} {ws : List Nat} (hn : a.length ≤ 1000)
    (hl : ∀ H1, Same H H1 → ∀ Q : List V → Hp → Prop, (∀ x y H2, Same H1 H2 → LstR RI a x H2 → LstR RI b y H2 → Q [x, y] H2) → ta σ H1 Q)
    (hw : ∀ x y, wipe (((wipe σ ws).set j (some x)).set k (some y)) ws = wipe σ ws)
    (he : ∀ x y : Int, ∀ H1, Same H H1 → Er te (((wipe σ ws).set j (some (.int x))).set k (some (.int y))) H1 (Is (.bl (decide (x < y))))) {g : TG}
    (hg : ∀ (T : Addr) (x y : V) (σ1 : L2.St) (H1 : Hp) (Q : L2.St → Hp → Prop), H1 T = some (.tup [x, y]) → Q ((σ1.set j (some x)).set k (some y)) H1 → g (.ref T) σ1 H1 Q) :
    Er (tLc (RZ.iZipA K ta) g tYes te ws) σ H (LstR (fun (c : Bool) v _ => v = .bl c) ((a.zip b).map fun p => decide (p.1 < p.2))) := by
  intro H0 e0 Q q
  refine hl H0 e0 _ fun vx vy H1 s1 rx ry => ?_
  obtain ⟨p, xs0, rfl, hp, rl1⟩ := rx
  rw [rl1.of_map] at hp
  obtain ⟨r, ys0, rfl, hr, rl2⟩ := ry
  rw [rl2.of_map] at hr
  refine ⟨p, r, a.map V.int, b.map V.int, rfl, .inl ⟨SqL.of hp, SqL.of hr, fun D hD => ?_⟩⟩
  have e1 := e0.trans s1
  have hlen : ((a.zip b).map fun p => decide (p.1 < p.2)).length = (a.zip b).length := List.length_map _
  have lz : (a.zip b).length = min a.length b.length := List.length_zip
  refine ⟨fun i m H' => m = (a.zip b).length - i ∧ i ≤ (a.zip b).length ∧ Pv (fun (c : Bool) v _ => v = .bl c) H1 D (((a.zip b).take i).map fun p => decide (p.1 < p.2)) H',
    ⟨_, rfl, Nat.zero_le _, [], same_upd hD, upd_same, .nil⟩, ?_⟩
  rintro i m H' ⟨rfl, hi, pv⟩
  have sm : Same H1 H' := pv.choose_spec.1
  by_cases hlt : i < (a.zip b).length
  · refine .inr ⟨?_, fun H'' => Pv (fun (c : Bool) v _ => v = .bl c) H1 D (((a.zip b).take (i + 1)).map fun p => decide (p.1 < p.2)) H'', fun H'' z => ⟨_, by omega, rfl, by omega, z⟩, ?_⟩
    · refine ⟨a.map V.int, b.map V.int, .int (a[i]'(by omega)), .int (b[i]'(by omega)), SqL.of (sm _ _ hp), SqL.of (sm _ _ hr), ?_, ?_⟩
      · rw [List.getElem?_map, List.getElem?_eq_getElem (by omega)]
        rfl
      · rw [List.getElem?_map, List.getElem?_eq_getElem (by omega)]
        rfl
    · rintro x H'' ⟨T, x1, x2, rfl, nT, rfl, f1, f2⟩
      have y1 := f1 _ (SqL.of (sm _ _ hp))
      have y2 := f2 _ (SqL.of (sm _ _ hr))
      rw [List.getElem?_map, List.getElem?_eq_getElem (show i < a.length by omega)] at y1
      rw [List.getElem?_map, List.getElem?_eq_getElem (show i < b.length by omega)] at y2
      cases y1
      cases y2
      refine hg T _ _ _ _ _ upd_same ⟨hw _ _, ?_⟩
      have pv2 : Pv (fun (c : Bool) v _ => v = .bl c) H1 D (((a.zip b).take i).map fun p => decide (p.1 < p.2)) (upd H' T (.tup [.int a[i], .int b[i]])) := by
        obtain ⟨ys, z1, z2, z3⟩ := pv
        exact ⟨ys, z1.trans (same_upd nT), same_upd nT _ _ z2, Rel.imp (H := H') (H' := upd H' T (.tup [.int a[i], .int b[i]])) (fun c v r => r) z3⟩
      have z := lc_turn (te := te) (t := tYes) (fun c => Mo.is _) hD pv2 (by rw [List.length_map, List.length_take]; omega) et_yes (fun _ => he a[i] b[i] H1 e1)
      rw [if_pos rfl] at z
      have tk : ((a.zip b).take (i + 1)).map (fun p => decide (p.1 < p.2)) = ((a.zip b).take i).map (fun p => decide (p.1 < p.2)) ++ [decide (a[i] < b[i])] := by
        rw [List.take_add_one, List.getElem?_eq_getElem hlt, List.map_append, List.getElem_zip]
        rfl
      rw [← tk] at z
      exact z
  · refine .inl ⟨⟨a.map V.int, b.map V.int, SqL.of (sm _ _ hp), SqL.of (sm _ _ hr), ?_⟩, ?_⟩
    · rw [List.length_map, List.length_map]
      omega
    · obtain ⟨ys, z1, z2, z3⟩ := pv
      rw [List.take_of_length_le (by omega)] at z3
      exact q _ H' (s1.trans z1) ⟨D, ys, rfl, z2, z3⟩
theorem er_lcTV {β : Type} {t : TT} {tl : TE} {j : Nat} {ws : List Nat} (as : LI) {RO : β → V → Hp → Prop} (mo : ∀ b, Mo (RO b)) (f : Int → Bool) (g : Int → β)
    (hl : Er tl σ H (TV as)) (hn : as.length ≤ 1000) (hw : ∀ x, wipe ((wipe σ ws).set j (some x)) ws = wipe σ ws)
    (ht : ∀ a, a ∈ as → ∀ x H1, Same H H1 → RI a x H1 → Et t ((wipe σ ws).set j (some x)) H1 (f a))
    (he : ∀ a, a ∈ as → f a = true → ∀ x H1, Same H H1 → RI a x H1 → Er te ((wipe σ ws).set j (some x)) H1 (RO (g a))) :
    Er (tLc (iTup K tl) (gName j) t te ws) σ H (LstR RO ((as.filter f).map g)) := by
  intro H0 e0 Q q
  refine hl H0 e0 _ fun v H1 s1 r1 => ?_
  obtain ⟨p, rfl, hp⟩ := r1
  have rel : Rel RI H1 (as.map V.int) as := Rel.mk_map fun _ _ => rfl
  generalize as.map V.int = xs at hp rel
  have st : ∀ H', Same H1 H' → SqT K H' p xs := fun H' s => by
    rcases hp with z | ⟨o, z⟩
    · exact .inl (.inl (s _ _ z))
    · exact .inl (.inr ⟨o, s _ _ z⟩)
  refine ⟨p, rfl, ⟨xs, st H1 (Same.refl H1)⟩, fun D hD => ?_⟩
  have e1 := e0.trans s1
  refine lc_tup (xs := xs) (fun i H' => Pv RO H1 D (((as.take i).filter f).map g) H') ⟨[], same_upd hD, upd_same, .nil⟩ (fun i H' _ pv => st H' pv.choose_spec.1) (fun i x H' hx pv => ⟨hw x, ?_⟩) (fun H' pv => ?_)
  · obtain ⟨a, ha, ra⟩ := rel.get hx
    have ma := List.mem_of_getElem? ha
    show t _ H' _
    have z := lc_turn (te := te) mo hD pv (Nat.le_trans (take_len f g) hn) (ht a ma x H1 e1 ra) (fun hf => he a ma hf x H1 e1 ra)
    rw [← take_f f g ha] at z
    exact z
  · obtain ⟨ys, s2, hy, r2⟩ := pv
    rw [rel.len, List.take_length] at r2
    exact q _ H' (s1.trans s2) ⟨D, ys, rfl, hy, r2⟩
theorem er_isiTV {a : LI} (h : Er te σ H (TV a)) : Er (tCB (rIsi K) (tCons te (tCons (tC (.ty "tuple")) tNil))) σ H (Is (.bl true)) := fun H1 e1 Q q =>
  h H1 e1 _ fun x H2 e2 rx => by
    obtain ⟨p, rfl, hp | ⟨o, hp⟩⟩ := rx
    · exact ⟨_, _, .type "tuple", .type "tuple", true, rfl, .ty _, Vk.ty (.tup hp), kit_ty (by decide +kernel), q _ H2 e2 rfl⟩
    · exact ⟨_, _, .type "tuple", .type "tuple", true, rfl, .ty _, .fTuple hp, kit_ty (by decide +kernel), q _ H2 e2 rfl⟩
theorem er_lenTV {a : LI} (h : Er te σ H (TV a)) : Er (tCB (rLenOf K) (tCons te tNil)) σ H (Is (.int a.length)) :=
  er_cb1 h fun x H1 _ rx Q q => by
    obtain ⟨p, rfl, hp⟩ := rx
    refine ⟨p, _, rfl, .inr (.inl hp), ?_⟩
    rw [List.length_map]
    exact q _ H1 (Same.refl H1) rfl
end
end Gq
set_option Elab.async false
set_option linter.all false
set_option maxRecDepth 100000
set_option maxHeartbeats 1000000
/-! Own base 21: what the law on completed families needs besides. -/
namespace Gq
open PySem PySem.Spec PyProof.Rows L2
theorem q_ifE {tz tu : TS} {t : TT} {D : Ends} {σ : L2.St} {H : Hp} (P : L2.St → Hp → Prop) (k : ∀ σ' H', P σ' H' → tz D σ' H')
    (h : ∀ nx : L2.St → Hp → Prop, (∀ σ' H', P σ' H' → nx σ' H') → t σ H fun b H1 => if b = true then tu { D with nx := nx } σ H1 else nx σ H1) :
    tSeq (tIfS t tu tNext) tz D σ H := h (tz D) k
theorem q_asgR {te : TE} {i : Nat} {tz : TS} {D : Ends} {σ : L2.St} {H : Hp} (h : te σ H fun v H1 => tz D (σ.set i (some v)) H1) : tSeq (tAsg te (gName i)) tz D σ H := h
def insS (n : Nat) (r : Int) (a : LI) : LI := (places n).filter fun q => decide (q ∈ a ++ [r])
theorem ins_pl (n : Nat) (r : Int) (a : LI) : Pl n (insS n r a) := ⟨(places_asc n).sublist List.filter_sublist, fun p hp => mem_places.mp (List.mem_filter.mp hp).1⟩
theorem mem_ins {n : Nat} {r : Int} {a : LI} (ha : Pl n a) (hr : 0 ≤ r ∧ r < (n : Int)) {q : Int} : q ∈ insS n r a ↔ q ∈ a ++ [r] := by
  unfold insS
  rw [List.mem_filter, mem_places, decide_eq_true_iff]
  constructor
  · exact fun z => z.2
  · intro z
    refine ⟨?_, z⟩
    rcases List.mem_append.mp z with y | y
    · exact ha.2 q y
    · rw [List.mem_singleton.mp y]
      exact hr
theorem ins_eq {n : Nat} {r : Int} {a : LI} (ha : Pl n a) (hr : 0 ≤ r ∧ r < (n : Int)) {ns : LI} (pw : ns.Pairwise (· < ·)) (h : ∀ k : Int, k ∈ ns ↔ k ∈ a ++ [r]) : ns = insS n r a :=
  asc_ext pw (ins_pl n r a).1 fun q => (h q).trans (mem_ins ha hr).symm
theorem ins_ne {n : Nat} {r : Int} {a : LI} (ha : Pl n a) (hr : 0 ≤ r ∧ r < (n : Int)) : insS n r a ≠ [] :=
  List.ne_nil_of_mem ((mem_ins ha hr).mpr (List.mem_append_right _ List.mem_cons_self))
theorem eqv_bl (a b : Bool) : PyData.eqv (.bool a) (.bool b) = decide (a = b) := by cases a <;> cases b <;> rfl
/-- a frozen tuple of ints -/
def TF (T : LI) : V → Hp → Prop := fun v H => ∃ p o, v = .ref p ∧ H p = some (.frz o (.tup (T.map V.int))) ∧ o.dict = none ∧ o.cls = .type "tuple"
theorem TF.mono {T : LI} : ∀ v H H', Same H H' → TF T v H → TF T v H' := by
  rintro v H H' s ⟨p, o, rfl, hp, hd, hc⟩
  exact ⟨p, o, rfl, s _ _ hp, hd, hc⟩
theorem TF.tv {T : LI} {v : V} {H : Hp} (h : TF T v H) : TV T v H := by
  obtain ⟨p, o, rfl, hp, hd, hc⟩ := h
  exact ⟨p, rfl, .inr ⟨o, hp⟩⟩
def rTupF (K : PySem.W.Frag) : List V → Hp → VK → Prop := fun xs H Q => ∃ p ys, xs = [.ref p] ∧ SqL K H p ys ∧
  ∀ (l : Addr) (o : Obj), H l = none → o.dict = none → o.cls = .type "tuple" → Q (.ref l) (upd H l (.frz o (.tup ys)))
theorem cr_tupF {X : Cx} : CallR X (.type "tuple") (rTupF X.K) := by
  intro pins s σ H vs us Q I r h
  obtain ⟨p, ys, rfl, hq, q⟩ := h
  rw [Vals.ref1 r]
  obtain ⟨its, rv, pl, hz⟩ := I.list hq
  refine call_tuple_list (PlainL.isList pl) (fun h' kp => ?_) (by rw [List.size_toArray, ← rv.length]; exact hz)
  have I1 : L2.Inv X pins σ H { s with heap := h' } := I.kept (t' := s.toks) kp
  have I2 := I1.laid (a := h'.objs.size) (o := .frz { cls := .type "tuple", data := .seq its.toArray } (.tup ys)) (h' := h'.push { cls := .type "tuple", data := .seq its.toArray }) (t' := s.toks) (fun b o e => Heap.get?_push_of_some _ e) (Nat.le_refl _)
    ⟨Heap.get?_push_size _ rfl, hz, its, rv, IsTup.new h' its.toArray⟩
  exact ⟨.ref h'.objs.size, _, I2, rfl, q h'.objs.size _ (I1.hok.fresh (Nat.le_refl _)) rfl rfl⟩
theorem cr_tupFK {X : Cx} {K : PySem.W.Frag} (h : X.K = K) : CallR X (.type "tuple") (rTupF K) := h ▸ cr_tupF
/-- a method of a frozen tuple -/
def tBMT (r : V → List V → Hp → VK → Prop) (to : TE) (t : TA) : TE := fun σ H Q => to σ H fun x H1 => (∃ p o xs, x = V.ref p ∧ H1 p = some (.frz o (.tup xs)) ∧ o.dict = none ∧ o.cls = .type "tuple") ∧ t σ H1 fun xs H2 => r x xs H2 Q
theorem pe_bmT {X : Cx} {o e : PySem.Expr} {es : List PySem.Expr} {to : TE} {t : TA} {name : Str} {apos cpos : Pos} {id : String} {r : V → List V → Hp → VK → Prop}
    (pa : PlainAttrs "tuple") (slot : Slot "tuple" name id) (hty : typeOf (Value.builtin id) = pure (Value.type "method_descriptor")) (hm : MtR X id r) (ho : PE X o to) (ha : PA X (e :: es) t)
    (hbase : attributeBase o name X.env (eval o X.env) = eval o X.env := by rfl)
    (hfew : ((((backTo cpos (starEach (e :: es) X.env)).all fun (x : Bool × Sem Value) => !x.fst) &&
            (backToKw cpos (keywordEach [] X.env)).all fun (x : Option Str × Sem Value) => x.fst.isSome) &&
          decide (((e :: es).length + ([] : List Keyword).length + if ([] : List Keyword).isEmpty = true then 0 else 1) < 30)) = true := by rfl)
    (hline : (apos.endLine == cpos.line) = true := by rfl)
    (hs : starEach (e :: es) X.env = (false, eval e X.env) :: starEach es X.env := by rfl)
    (hplain : ((backTo cpos (starEach es X.env)).any fun (x : Bool × Sem Value) => x.fst) = false := by rfl) :
    PE X ((o.Attribute name apos).Call (e :: es) [] cpos) (tBMT r to t) where
  run := fun pins s σ H Q I h => wpAny_Call_method_late hbase hfew hline rfl
    (thn (ho.run pins s σ H _ I h) fun v s1 x => by
      obtain ⟨x, H1, I1, r1, ⟨p, ob, ys, rfl, hp, hd, hc⟩, q1⟩ := x
      cases r1
      obtain ⟨hob, _⟩ := I1.hok p _ hp
      refine ⟨"tuple", id, pa, slot, hty, ⟨ob, hob, hc⟩, fun a e => ⟨ob, ?_, hd⟩, ?_⟩
      · cases e
        exact hob
      · have hA := ha.run cpos pins s1 σ H1 _ I1 q1
        rw [hs] at hA ⊢
        refine Calls.callWith_builtin (by show (false || _) = false; rw [Bool.false_or]; exact hplain) (Calls.evalArgs_plain (thn hA fun us s2 x1 => ?_))
        obtain ⟨vs, H2, I2, r2, q2⟩ := x1
        exact hm pins s2 σ H2 (.ref p) vs (.ref p) us Q I2 rfl r2 q2)
section
variable {K : PySem.W.Frag} {σ : L2.St} {H : Hp} {w : World} {ta tb te : TE} {n : Nat} {R : V → Hp → Prop} {b : Bool}
theorem er_sset {A B : LI} (h : Er te σ H (SetV A)) (hn : A.length < 64) (hB : ∀ ns : LI, ns.Pairwise (· < ·) → (∀ k : Int, k ∈ ns ↔ k ∈ A) → ns = B) : Er (tCB (rSortedSet w) (tCons (tCB (rSetI K w) (tCons te tNil)) tNil)) σ H (LstR RI B) := fun H1 e1 Q q =>
  h H1 e1 _ fun x H2 e2 rx => by
    obtain ⟨l, rfl, hl⟩ := rx
    refine ⟨l, A, rfl, SqT.of hl, by omega, fun a c na hc => ?_⟩
    refine ⟨a, _, c, rfl, upd_same, by omega, fun ns p pw hk hl np => ?_⟩
    refine q _ _ ((e2.trans (same_upd na)).trans (same_upd np)) ⟨p, _, rfl, upd_same, ?_⟩
    rw [← hB ns pw fun k => (hk k).trans (by rw [decide_eq_true_iff])]
    exact Rel.mk_map fun _ _ => rfl
theorem er_isN (h : Er te σ H (OptR b R)) (ne : ∀ v H, R v H → v ≠ .non) : Er (tOp (fun x y H Q => y = V.non ∧ Q (V.bl (decide (x = V.non))) H) te (tC .non)) σ H (Is (.bl (!b))) := fun H1 e1 Q q =>
  h H1 e1 _ fun x H2 e2 rx => ⟨rfl, by
    unfold OptR at rx
    cases b with
    | true =>
      rw [if_pos rfl] at rx
      rw [decide_eq_false (ne _ _ rx)]
      exact q _ H2 e2 rfl
    | false =>
      rw [if_neg Bool.false_ne_true] at rx
      rw [rx, decide_eq_true rfl]
      exact q _ H2 e2 rfl⟩
theorem er_notN (h : Er te σ H (OptR b R)) (ne : ∀ v H, R v H → v ≠ .non) : Er (tOp (fun x y H Q => y = V.non ∧ Q (V.bl !decide (x = V.non)) H) te (tC .non)) σ H (Is (.bl b)) := fun H1 e1 Q q =>
  h H1 e1 _ fun x H2 e2 rx => ⟨rfl, by
    unfold OptR at rx
    cases b with
    | true =>
      rw [if_pos rfl] at rx
      rw [decide_eq_false (ne _ _ rx)]
      exact q _ H2 e2 rfl
    | false =>
      rw [if_neg Bool.false_ne_true] at rx
      rw [rx, decide_eq_true rfl]
      exact q _ H2 e2 rfl⟩
theorem er_eqBD {a b : Bool} (ha : Er ta σ H (Is (.bl a))) (hb : Er tb σ H (Is (.bl b))) : Er (tOp (rEqD K) ta tb) σ H (Is (.bl (decide (a = b)))) :=
  er_op ha hb (fun _ _ _ _ r => r) fun x y H1 _ rx ry Q q => by
    cases (show x = _ from rx)
    cases (show y = _ from ry)
    exact ⟨.bool a, .bool b, .bl a, .bl b, by cases a <;> decide, by cases b <;> decide, by rw [eqv_bl]; exact q _ H1 (Same.refl H1) rfl⟩
theorem er_neBD {a b : Bool} (ha : Er ta σ H (Is (.bl a))) (hb : Er tb σ H (Is (.bl b))) : Er (tOp (rNeD K) ta tb) σ H (Is (.bl (!decide (a = b)))) :=
  er_op ha hb (fun _ _ _ _ r => r) fun x y H1 _ rx ry Q q => by
    cases (show x = _ from rx)
    cases (show y = _ from ry)
    exact ⟨.bool a, .bool b, .bl a, .bl b, by cases a <;> decide, by cases b <;> decide, by rw [eqv_bl]; exact q _ H1 (Same.refl H1) rfl⟩
theorem er_index {T : LI} {z : Int} (ha : Er ta σ H (TF T)) (hb : Er tb σ H (Is (.int z))) (hz : z ∈ T) : Er (tBMT (rIndexT K) ta (tCons tb tNil)) σ H (RI (tg T z)) := fun H1 e1 Q q =>
  ha H1 e1 _ fun x H2 e2 rx => by
    obtain ⟨p, o, rfl, hp, hd, hc⟩ := rx
    refine ⟨⟨p, o, _, rfl, hp, hd, hc⟩, ?_⟩
    refine hb H2 (e1.trans e2) _ fun y H3 e3 ry => ?_
    cases (show y = _ from ry)
    have l := List.idxOf_lt_length_of_mem hz
    refine ⟨p, T, z, T.idxOf z, rfl, rfl, .inl (.inr ⟨o, e3 _ _ hp⟩), ?_, fun m hm e => ?_, q _ H3 (e2.trans e3) rfl⟩
    · rw [List.getElem?_eq_getElem l, List.getElem_idxOf l]
    · have lm : m < T.length := by omega
      rw [List.getElem?_eq_getElem lm] at e
      have e2 : T[m] = z := Option.some.inj e
      have z1 := List.not_of_lt_findIdx (p := fun x => x == z) (xs := T) (i := m) hm
      simp only [beq_eq_false_iff_ne] at z1
      exact z1 e2
theorem er_tupF {A : LI} (h : Er te σ H (LstR RI A)) : Er (tCB (rTupF K) (tCons te tNil)) σ H (TF A) :=
  er_cb1 h fun x H1 _ rx Q q => by
    obtain ⟨p, xs, rfl, hp, rel⟩ := rx
    rw [rel.of_map] at hp
    exact ⟨p, _, rfl, SqL.of hp, fun l o nl hd hc => q _ _ (same_upd nl) ⟨l, o, rfl, upd_same, hd, hc⟩⟩
theorem fam_ne {F : List LI} {v : V} {H : Hp} (h : FamT F v H) : v ≠ .non := by
  obtain ⟨p, xs, rfl, _⟩ := h
  exact fun e => by cases e
theorem OptR.mono {F : List LI} {v : V} {H H' : Hp} (s : Same H H') (h : OptR b (FamT F) v H) : OptR b (FamT F) v H' := by
  unfold OptR at h ⊢
  split
  · rename_i c
    rw [if_pos c] at h
    exact (Mo.fam F).mono _ _ _ s h
  · rename_i c
    rw [if_neg c] at h
    exact h
theorem OptR.roll {F : List LI} {v : V} {p : Addr} {H H' : Hp} (d : Dice H p) (h : OptR b (FamT F) v H) (r : Roll p H H') : OptR b (FamT F) v H' := by
  unfold OptR at h ⊢
  split
  · rename_i c
    rw [if_pos c] at h
    exact FamT.roll d h r
  · rename_i c
    rw [if_neg c] at h
    exact h
end
end Gq
set_option Elab.async false
set_option linter.all false
set_option maxRecDepth 100000
set_option maxHeartbeats 2000000
namespace K06
open PySem PySem.Spec PyProof.Rows L2 Gq
def topS (i : Nat) : Stmt := PySem.Challenge.pw_grownquorums_k06_whole_completed_familie.main.body.getD i (.Pass ⟨0, 0, 0, 0⟩)
abbrev sis_integer : Stmt := topS 7
abbrev Nis_integer : List Str := ["value"]
theorem scis_integer : FnScope Nis_integer ["value"] (defScope sis_integer) := ⟨rfl, rfl, rfl, by decide +kernel, rfl, by decide +kernel, by decide +kernel⟩
abbrev scheck_width : Stmt := topS 11
abbrev Ncheck_width : List Str := ["width"]
theorem sccheck_width : FnScope Ncheck_width ["width"] (defScope scheck_width) := ⟨rfl, rfl, rfl, by decide +kernel, rfl, by decide +kernel, by decide +kernel⟩
abbrev scheck_places : Stmt := topS 12
abbrev Ncheck_places : List Str := ["width", "places"]
theorem sccheck_places : FnScope Ncheck_places ["width", "places"] (defScope scheck_places) := ⟨rfl, rfl, rfl, by decide +kernel, rfl, by decide +kernel, by decide +kernel⟩
abbrev scheck_family : Stmt := topS 13
abbrev Ncheck_family : List Str := ["width", "family"]
theorem sccheck_family : FnScope Ncheck_family ["width", "family"] (defScope scheck_family) := ⟨rfl, rfl, rfl, by decide +kernel, rfl, by decide +kernel, by decide +kernel⟩
abbrev s_is_place : Stmt := topS 14
abbrev N_is_place : List Str := ["width", "value"]
theorem sc_is_place : FnScope N_is_place ["width", "value"] (defScope s_is_place) := ⟨rfl, rfl, rfl, by decide +kernel, rfl, by decide +kernel, by decide +kernel⟩
abbrev sascends : Stmt := topS 15
abbrev Nascends : List Str := ["row", "low", "high"]
theorem scascends : FnScope Nascends ["row"] (defScope sascends) := ⟨rfl, rfl, rfl, by decide +kernel, rfl, by decide +kernel, by decide +kernel⟩
abbrev s_are_places : Stmt := topS 16
abbrev N_are_places : List Str := ["width", "value", "place"]
theorem sc_are_places : FnScope N_are_places ["width", "value"] (defScope s_are_places) := ⟨rfl, rfl, rfl, by decide +kernel, rfl, by decide +kernel, by decide +kernel⟩
abbrev s_are_sets : Stmt := topS 17
abbrev N_are_sets : List Str := ["width", "value", "places"]
theorem sc_are_sets : FnScope N_are_sets ["width", "value"] (defScope s_are_sets) := ⟨rfl, rfl, rfl, by decide +kernel, rfl, by decide +kernel, by decide +kernel⟩
abbrev sare_turns : Stmt := topS 18
abbrev Nare_turns : List Str := ["width", "value", "place"]
theorem scare_turns : FnScope Nare_turns ["width", "value"] (defScope sare_turns) := ⟨rfl, rfl, rfl, by decide +kernel, rfl, by decide +kernel, by decide +kernel⟩
abbrev sis_family : Stmt := topS 19
abbrev Nis_family : List Str := ["width", "value"]
theorem scis_family : FnScope Nis_family ["width", "value"] (defScope sis_family) := ⟨rfl, rfl, rfl, by decide +kernel, rfl, by decide +kernel, by decide +kernel⟩
abbrev scontains : Stmt := topS 20
abbrev Ncontains : List Str := ["places", "others", "place"]
theorem sccontains : FnScope Ncontains ["places", "others"] (defScope scontains) := ⟨rfl, rfl, rfl, by decide +kernel, rfl, by decide +kernel, by decide +kernel⟩
abbrev s_meet : Stmt := topS 21
abbrev N_meet : List Str := ["places", "others", "place"]
theorem sc_meet : FnScope N_meet ["places", "others"] (defScope s_meet) := ⟨rfl, rfl, rfl, by decide +kernel, rfl, by decide +kernel, by decide +kernel⟩
abbrev shas_least : Stmt := topS 22
abbrev Nhas_least : List Str := ["family", "places", "least"]
theorem schas_least : FnScope Nhas_least ["family", "places"] (defScope shas_least) := ⟨rfl, rfl, rfl, by decide +kernel, rfl, by decide +kernel, by decide +kernel⟩
abbrev s_least : Stmt := topS 23
abbrev N_least : List Str := ["sets", "found", "places", "other"]
theorem sc_least : FnScope N_least ["sets"] (defScope s_least) := ⟨rfl, rfl, rfl, by decide +kernel, rfl, by decide +kernel, by decide +kernel⟩
abbrev s_places_in : Stmt := topS 24
abbrev N_places_in : List Str := ["width", "bits", "place"]
theorem sc_places_in : FnScope N_places_in ["width", "bits"] (defScope s_places_in) := ⟨rfl, rfl, rfl, by decide +kernel, rfl, by decide +kernel, by decide +kernel⟩
abbrev s_all_sets : Stmt := topS 25
abbrev N_all_sets : List Str := ["width", "bits"]
theorem sc_all_sets : FnScope N_all_sets ["width"] (defScope s_all_sets) := ⟨rfl, rfl, rfl, by decide +kernel, rfl, by decide +kernel, by decide +kernel⟩
abbrev sis_held : Stmt := topS 26
abbrev Nis_held : List Str := ["width", "family", "places"]
theorem scis_held : FnScope Nis_held ["width", "family", "places"] (defScope sis_held) := ⟨rfl, rfl, rfl, by decide +kernel, rfl, by decide +kernel, by decide +kernel⟩
abbrev sblocks_of : Stmt := topS 27
abbrev Nblocks_of : List Str := ["width", "family", "places", "least"]
theorem scblocks_of : FnScope Nblocks_of ["width", "family"] (defScope sblocks_of) := ⟨rfl, rfl, rfl, by decide +kernel, rfl, by decide +kernel, by decide +kernel⟩
abbrev splaced : Stmt := topS 28
abbrev Nplaced : List Str := ["width", "family", "turns", "place", "least"]
theorem scplaced : FnScope Nplaced ["width", "family", "turns"] (defScope splaced) := ⟨rfl, rfl, rfl, by decide +kernel, rfl, by decide +kernel, by decide +kernel⟩
abbrev scompleted : Stmt := topS 29
abbrev Ncompleted : List Str := ["width", "family", "one", "other", "grown", "places", "least"]
theorem sccompleted : FnScope Ncompleted ["width", "family"] (defScope scompleted) := ⟨rfl, rfl, rfl, by decide +kernel, rfl, by decide +kernel, by decide +kernel⟩
abbrev s_law_dice : Stmt := topS 31
abbrev N_law_dice : List Str := ["script", "spot", "cell", "left"]
theorem sc_law_dice : FnScope N_law_dice ["script", "spot"] (defScope s_law_dice) := ⟨rfl, rfl, rfl, by decide +kernel, rfl, by decide +kernel, by decide +kernel⟩
abbrev s_law_roll : Stmt := topS 32
abbrev N_law_roll : List Str := ["dice", "total", "found", "one", "two"]
theorem sc_law_roll : FnScope N_law_roll ["dice", "total"] (defScope s_law_roll) := ⟨rfl, rfl, rfl, by decide +kernel, rfl, by decide +kernel, by decide +kernel⟩
abbrev s_law_pick : Stmt := topS 33
abbrev N_law_pick : List Str := ["dice", "items"]
theorem sc_law_pick : FnScope N_law_pick ["dice", "items"] (defScope s_law_pick) := ⟨rfl, rfl, rfl, by decide +kernel, rfl, by decide +kernel, by decide +kernel⟩
abbrev s_law_mixed : Stmt := topS 34
abbrev N_law_mixed : List Str := ["dice", "items", "left", "found", "turn"]
theorem sc_law_mixed : FnScope N_law_mixed ["dice", "items"] (defScope s_law_mixed) := ⟨rfl, rfl, rfl, by decide +kernel, rfl, by decide +kernel, by decide +kernel⟩
abbrev s_law_has_all : Stmt := topS 35
abbrev N_law_has_all : List Str := ["big", "small", "one"]
theorem sc_law_has_all : FnScope N_law_has_all ["big", "small"] (defScope s_law_has_all) := ⟨rfl, rfl, rfl, by decide +kernel, rfl, by decide +kernel, by decide +kernel⟩
abbrev s_law_least_sets : Stmt := topS 36
abbrev N_law_least_sets : List Str := ["sets", "some", "one", "two"]
theorem sc_law_least_sets : FnScope N_law_least_sets ["sets"] (defScope s_law_least_sets) := ⟨rfl, rfl, rfl, by decide +kernel, rfl, by decide +kernel, by decide +kernel⟩
abbrev s_law_place_sets : Stmt := topS 37
abbrev N_law_place_sets : List Str := ["width", "found", "place", "one"]
theorem sc_law_place_sets : FnScope N_law_place_sets ["width"] (defScope s_law_place_sets) := ⟨rfl, rfl, rfl, by decide +kernel, rfl, by decide +kernel, by decide +kernel⟩
abbrev s_law_some_family : Stmt := topS 38
abbrev N_law_some_family : List Str := ["dice", "width", "every", "turn"]
theorem sc_law_some_family : FnScope N_law_some_family ["dice", "width"] (defScope s_law_some_family) := ⟨rfl, rfl, rfl, by decide +kernel, rfl, by decide +kernel, by decide +kernel⟩
abbrev s_law_completed : Stmt := topS 39
abbrev N_law_completed : List Str := ["width", "family"]
theorem sc_law_completed : FnScope N_law_completed ["width", "family"] (defScope s_law_completed) := ⟨rfl, rfl, rfl, by decide +kernel, rfl, by decide +kernel, by decide +kernel⟩
abbrev s_law_does_meet : Stmt := topS 40
abbrev N_law_does_meet : List Str := ["family", "one", "other", "place"]
theorem sc_law_does_meet : FnScope N_law_does_meet ["family"] (defScope s_law_does_meet) := ⟨rfl, rfl, rfl, by decide +kernel, rfl, by decide +kernel, by decide +kernel⟩
abbrev s_law_is_whole : Stmt := topS 41
abbrev N_law_is_whole : List Str := ["width", "told", "family", "one"]
theorem sc_law_is_whole : FnScope N_law_is_whole ["width", "told", "family"] (defScope s_law_is_whole) := ⟨rfl, rfl, rfl, by decide +kernel, rfl, by decide +kernel, by decide +kernel⟩
abbrev s_law_right : Stmt := topS 42
abbrev N_law_right : List Str := ["dice", "width", "family", "place", "one", "told", "turns", "moved", "due", "back", "other"]
theorem sc_law_right : FnScope N_law_right ["dice", "width"] (defScope s_law_right) := ⟨rfl, rfl, rfl, by decide +kernel, rfl, by decide +kernel, by decide +kernel⟩
abbrev slaw : Stmt := topS 43
abbrev Nlaw : List Str := ["script", "spot", "dice", "width", "told"]
theorem sclaw : FnScope Nlaw ["script"] (defScope slaw) := ⟨rfl, rfl, rfl, by decide +kernel, rfl, by decide +kernel, by decide +kernel⟩
abbrev scK7 : Scope := { kind := .function, names := [(".0", .local), ("places", .cell), ("any", .globalImplicit), ("found", .cell)], isGenerator := false, isCoroutine := false }
abbrev scK11 : Scope := { kind := .function, names := [(".0", .local), ("places", .cell), ("all", .globalImplicit), ("family", .cell)], isGenerator := false, isCoroutine := false }
abbrev scK13 : Scope := { kind := .function, names := [(".0", .local), ("least", .local), ("tuple", .globalImplicit), ("sorted", .globalImplicit), ("turns", .cell)], isGenerator := false, isCoroutine := false }
abbrev scK18 : Scope := { kind := .function, names := [(".0", .local), ("one", .cell), ("some", .cell)], isGenerator := false, isCoroutine := false }
abbrev scK22 : Scope := { kind := .function, names := [(".0", .local), ("other", .cell), ("one", .cell)], isGenerator := false, isCoroutine := false }
abbrev scK26 : Scope := { kind := .function, names := [(".0", .local), ("one", .local), ("tuple", .globalImplicit), ("sorted", .globalImplicit), ("turns", .cell)], isGenerator := false, isCoroutine := false }
structure Bn (mg : Str → Option Value) : Prop where
  abs : mg "abs" = none
  all : mg "all" = none
  any : mg "any" = none
  bool : mg "bool" = none
  int : mg "int" = none
  isinstance : mg "isinstance" = none
  len : mg "len" = none
  list : mg "list" = none
  max : mg "max" = none
  min : mg "min" = none
  range : mg "range" = none
  repr : mg "repr" = none
  set : mg "set" = none
  sorted : mg "sorted" = none
  tuple : mg "tuple" = none
  zip : mg "zip" = none
structure Cn (mg : Str → Option Value) : Prop where
  _OUT_OF_REACH : ∃ t, mg "_OUT_OF_REACH" = some (.int lim t)
  _LEAST_WIDTH : ∃ t, mg "_LEAST_WIDTH" = some (.int 2 t)
  _GREATEST_WIDTH : ∃ t, mg "_GREATEST_WIDTH" = some (.int 5 t)
theorem in64 (x : Int) : -(2 ^ 64) < x % 2305843009213693907 ∧ x % 2305843009213693907 < 2 ^ 64 := by
  have o1 := Int.emod_nonneg x (show (2305843009213693907 : Int) ≠ 0 by decide)
  have o2 := Int.emod_lt_of_pos x (show (0 : Int) < 2305843009213693907 by decide)
  constructor <;> omega
section
variable {P : Program} {w : World} {K : PySem.W.Frag} {mg : Str → Option Value} {base : Heap} {f : Addr} {fd : FuncData} {C0 : Addr}
theorem ok_is_integer (B : Bn mg) (C : Cn mg) (F : Fun K "is_integer" "is_integer" sis_integer f fd) : FnOk P w K mg base CX0 1 f fd ["value"] spIsI := by
  refine F.ok scis_integer (fun vs H Q E h => ?_) (fun cdv A outer s H vs Q E hr h => ?_)
  · obtain ⟨x, n, rfl, _⟩ := h
    rfl
  obtain ⟨x, n, rfl, hv, q⟩ := h
  refine ⟨_, (pss_cons (ps_if (PW.pt (pw_or (pt_not (pt_val (pe_callB (call_isiK2 (K := K) rfl) rfl B.isinstance (by decide +kernel) (pa_cons (pv 0) (pa_cons (pe_ty (T := "int") rfl B.int (by decide +kernel)) pa_nil))))) (pw_or1 (pt_val (pe_callB (call_isiK2 (K := K) rfl) rfl B.isinstance (by decide +kernel) (pa_cons (pv 0) (pa_cons (pe_ty (T := "bool") rfl B.bool (by decide +kernel)) pa_nil))))))) 
      (pss_one (ps_ret pe_bl)) pss_nil)
    (pss_one (ps_ret (pe_chain op_lt op_lt (pe_un un_neg (pe_gi rfl C._OUT_OF_REACH)) (pv 0) (pe_gi rfl C._OUT_OF_REACH))))), ?_⟩
  refine ⟨_, rfl, ?_⟩
  cases hv with
  | int i =>
    refine ⟨_, _, _, .type "int", true, rfl, .ty _, Vk.ty (.int i), kit_ty (by decide +kernel), ?_⟩
    refine ⟨_, rfl, ?_⟩
    refine iteF ?_
    refine ⟨_, rfl, ?_⟩
    refine ⟨_, _, _, .type "bool", false, rfl, .ty _, Vk.ty (.int i), kit_ty (by decide +kernel), ?_⟩
    refine ⟨_, rfl, ?_⟩
    refine iteF ?_
    refine ⟨lim, rfl, _, rfl, -lim, i, rfl, rfl, _, rfl, ?_⟩
    refine ite2 (fun c1 => ?_) (fun c1 => ?_)
    · refine ⟨i, lim, rfl, rfl, ?_⟩
      have e : isI (.int i) = decide (i < lim) := by
        show (decide (-lim < i) && decide (i < lim)) = _
        rw [c1, Bool.true_and]
      rw [e] at q
      exact q
    · have e : isI (.int i) = false := by
        show (decide (-lim < i) && decide (i < lim)) = _
        rw [Bool.eq_false_iff.mpr c1, Bool.false_and]
      rw [e] at q
      exact q
  | bl b =>
    refine ⟨_, _, _, .type "int", true, rfl, .ty _, Vk.ty (.bl b), kit_ty (by decide +kernel), ?_⟩
    refine ⟨_, rfl, ?_⟩
    refine iteF ?_
    refine ⟨_, rfl, ?_⟩
    refine ⟨_, _, _, .type "bool", true, rfl, .ty _, Vk.ty (.bl b), kit_ty (by decide +kernel), ?_⟩
    refine ⟨_, rfl, ?_⟩
    exact iteT q
  | non => refine ⟨_, _, _, .type "int", false, rfl, .ty _, Vk.ty (.non), kit_ty (by decide +kernel), ?_⟩; exact ⟨_, rfl, iteT (iteT q)⟩
  | str z => refine ⟨_, _, _, .type "int", false, rfl, .ty _, Vk.ty (.str z), kit_ty (by decide +kernel), ?_⟩; exact ⟨_, rfl, iteT (iteT q)⟩
  | lst h => refine ⟨_, _, _, .type "int", false, rfl, .ty _, Vk.ty (.lst h), kit_ty (by decide +kernel), ?_⟩; exact ⟨_, rfl, iteT (iteT q)⟩
  | tup h => refine ⟨_, _, _, .type "int", false, rfl, .ty _, Vk.ty (.tup h), kit_ty (by decide +kernel), ?_⟩; exact ⟨_, rfl, iteT (iteT q)⟩
  | dK h => refine ⟨_, _, _, .type "int", false, rfl, .ty _, Vk.ty (.dK h), kit_ty (by decide +kernel), ?_⟩; exact ⟨_, rfl, iteT (iteT q)⟩
theorem ok_check_width (C : Cn mg) (Dis_integer : Cl P w K mg base 1 "is_integer" spIsI) (F : Fun K "check_width" "check_width" scheck_width f fd) : FnOk P w K mg base CX0 2 f fd ["width"] spCkW := by
  refine F.ok sccheck_width (fun vs H Q E h => ?_) (fun cdv A outer s H vs Q E hr h => ?_)
  · obtain ⟨n, rfl, _⟩ := h
    rfl
  obtain ⟨n, rfl, hw, q⟩ := h
  have e1 : isI (.int (n : Int)) = true := wd_isI hw
  have b2 : 2 ≤ (n : Int) := by rcases hw with rfl | rfl | rfl | rfl <;> decide
  have b5 : (n : Int) ≤ 5 := by rcases hw with rfl | rfl | rfl | rfl <;> decide
  refine ⟨_, (pss_one (ps_if (PW.pt (pw_or (pt_not (pt_val (pe_c Dis_integer hr (by decide) rfl (pa_cons (pv 0) pa_nil)))) (pw_or1 (pt_not (pt_chain op_le op_le (pe_gi rfl C._LEAST_WIDTH) (pv 0) (pe_gi rfl C._GREATEST_WIDTH)))))) 
      (pss_one ps_never) pss_nil)), ?_⟩
  refine ⟨_, rfl, .int n, _, rfl, .int _, _, rfl, ?_⟩
  rw [e1]
  refine iteF ?_
  refine ⟨_, rfl, 2, n, rfl, rfl, _, rfl, ?_⟩
  rw [decide_eq_true b2]
  refine iteT ⟨_, _, rfl, rfl, _, rfl, ?_⟩
  rw [decide_eq_true b5]
  exact iteF q
theorem ok_is_place (Dis_integer : Cl P w K mg base 1 "is_integer" spIsI) (F : Fun K "_is_place" "_is_place" s_is_place f fd) : FnOk P w K mg base CX0 2 f fd ["width", "value"] spIsPl := by
  refine F.ok sc_is_place (fun vs H Q E h => ?_) (fun cdv A outer s H vs Q E hr h => ?_)
  · obtain ⟨n, p, rfl, _⟩ := h
    rfl
  obtain ⟨n, p, rfl, hw, h0, h1, q⟩ := h
  have hl : (5 : Int) < lim := by decide +kernel
  have b5 : (n : Int) ≤ 5 := by rcases hw with rfl | rfl | rfl | rfl <;> decide
  have e1 : isI (.int p) = true := by
    show (decide (-lim < p) && decide (p < lim)) = true
    rw [decide_eq_true (by omega), decide_eq_true (by omega)]
    rfl
  refine ⟨_, (pss_one (ps_ret (pe_and (pe_c Dis_integer hr (by decide) rfl (pa_cons (pv 1) pa_nil)) (pe_one (pe_chain op_le op_lt pe_int (pv 1) (pv 0)))))), ?_⟩
  refine ⟨_, rfl, .int p, _, rfl, .int _, _, rfl, ?_⟩
  rw [e1]
  refine iteT ?_
  refine ⟨_, rfl, 0, p, rfl, rfl, _, rfl, ?_⟩
  rw [decide_eq_true h0]
  refine iteT ⟨_, rfl, _, _, rfl, rfl, ?_⟩
  have z := q H (Same.refl H)
  rw [← decide_eq_true h1] at z
  exact z
theorem ok_contains (B : Bn mg) (F : Fun K "contains" "contains" scontains f fd) : FnOk P w K mg base CX0 1 f fd ["places", "others"] spSub := by
  refine F.ok sccontains (fun vs H Q E h => ?_) (fun cdv A outer s H vs Q E hr h => ?_)
  · obtain ⟨x, y, a, b, rfl, _⟩ := h
    rfl
  obtain ⟨x, y, a, b, rfl, ha, hb, hz, q⟩ := h
  refine ⟨_, (pss_one (ps_ret (pe_callB (cr_allK (K := K) rfl rfl) rfl B.all (by decide +kernel) (pa_cons (pe_lc (own := [("place", 2)]) (g := (gName 2)) (tt := tYes) rfl sccontains.nd (pi_tupK (K := K) rfl (pv 1)) (blkOk_by (N := Ncontains) (sc := defScope scontains) (by decide +kernel)) (fun _ _ _ _ _ => pg_name (i := 2) sccontains.nd rfl (Or.inl rfl)) (fun _ _ _ _ _ => pts_nil) (fun _ _ _ _ _ => (pe_cmpR (op_inK (K := K) rfl) (pv 2) (pv 0) rfl))) pa_nil)))), ?_⟩
  refine q_ret (R := Is (.bl (sub a b))) (er_all (K := K) (bs := b.map fun p => decide (p ∈ a)) ?_ ?_) (fun v H1 s1 r => ?_)
  · have z := er_lcT (K := K) (tl := tVar 1) (t := tYes) (te := tOp (rIn K false) (tVar 2) (tVar 0)) (σ := [some x, some y, none]) (H := H) (j := 2) (ws := [2]) b
      (RI := fun p v _ => v = .int p) (RO := fun c v _ => v = .bl c) (fun c => Mo.is _) (fun _ => true) (fun p => decide (p ∈ a))
      (er_var (fun H1 s1 => setTup ((Mo.set b).mono _ _ _ s1 hb)) rfl) hz (fun _ => rfl) (fun _ _ _ _ _ _ => et_yes) (fun p hp _ x' H1 s1 e => ?_)
    · rw [filter_yes] at z
      exact z
    · subst e
      exact er_in (A := a) (er_var (R := Is (.int p)) (fun _ _ => rfl) rfl) (er_var (fun H2 s2 => (Mo.set a).mono _ _ _ (s1.trans s2) ha) rfl)
  · unfold sub
    rw [List.all_map]
    rfl
  · cases (show v = _ from r)
    exact q H1 s1
theorem ok_meet (B : Bn mg) (F : Fun K "_meet" "_meet" s_meet f fd) : FnOk P w K mg base CX0 1 f fd ["places", "others"] spMeet := by
  refine F.ok sc_meet (fun vs H Q E h => ?_) (fun cdv A outer s H vs Q E hr h => ?_)
  · obtain ⟨x, y, a, b, rfl, _⟩ := h
    rfl
  obtain ⟨x, y, a, b, rfl, ha, hb, hz, q⟩ := h
  refine ⟨_, (pss_one (ps_ret (pe_callB (cr_anyK (K := K) rfl rfl) rfl B.any (by decide +kernel) (pa_cons (pe_lc (own := [("place", 2)]) (g := (gName 2)) (tt := tYes) rfl sc_meet.nd (pi_tupK (K := K) rfl (pv 1)) (blkOk_by (N := N_meet) (sc := defScope s_meet) (by decide +kernel)) (fun _ _ _ _ _ => pg_name (i := 2) sc_meet.nd rfl (Or.inl rfl)) (fun _ _ _ _ _ => pts_nil) (fun _ _ _ _ _ => (pe_cmpR (op_inK (K := K) rfl) (pv 2) (pv 0) rfl))) pa_nil)))), ?_⟩
  refine q_ret (R := Is (.bl (meets a b))) (er_any (K := K) (bs := b.map fun p => decide (p ∈ a)) ?_ ?_) (fun v H1 s1 r => ?_)
  · have z := er_lcT (K := K) (tl := tVar 1) (t := tYes) (te := tOp (rIn K false) (tVar 2) (tVar 0)) (σ := [some x, some y, none]) (H := H) (j := 2) (ws := [2]) b
      (RI := fun p v _ => v = .int p) (RO := fun c v _ => v = .bl c) (fun c => Mo.is _) (fun _ => true) (fun p => decide (p ∈ a))
      (er_var (fun H1 s1 => setTup ((Mo.set b).mono _ _ _ s1 hb)) rfl) hz (fun _ => rfl) (fun _ _ _ _ _ _ => et_yes) (fun p hp _ x' H1 s1 e => ?_)
    · rw [filter_yes] at z
      exact z
    · subst e
      exact er_in (A := a) (er_var (R := Is (.int p)) (fun _ _ => rfl) rfl) (er_var (fun H2 s2 => (Mo.set a).mono _ _ _ (s1.trans s2) ha) rfl)
  · unfold meets
    rw [List.any_map]
    rfl
  · cases (show v = _ from r)
    exact q H1 s1
theorem ok_has_least (B : Bn mg) (Dcontains : Cl P w K mg base 1 "contains" spSub) (F : Fun K "has_least" "has_least" shas_least f fd) : FnOk P w K mg base CX0 2 f fd ["family", "places"] spHas := by
  refine F.ok schas_least (fun vs H Q E h => ?_) (fun cdv A outer s H vs Q E hr h => ?_)
  · obtain ⟨x, y, G, a, rfl, _⟩ := h
    rfl
  obtain ⟨x, y, G, a, rfl, hG, ha, hn, hz, q⟩ := h
  refine ⟨_, (pss_one (ps_ret (pe_callB (cr_anyK (K := K) rfl rfl) rfl B.any (by decide +kernel) (pa_cons (pe_lc (own := [("least", 2)]) (g := (gName 2)) (tt := tYes) rfl schas_least.nd (pi_tupK (K := K) rfl (pv 0)) (blkOk_by (N := Nhas_least) (sc := defScope shas_least) (by decide +kernel)) (fun _ _ _ _ _ => pg_name (i := 2) schas_least.nd rfl (Or.inl rfl)) (fun _ _ _ _ _ => pts_nil) (fun _ _ _ _ _ => (pe_c Dcontains hr (by decide) rfl (pa_cons (pv 1) (pa_cons (pv 2) pa_nil))))) pa_nil)))), ?_⟩
  refine q_ret (R := Is (.bl (has G a))) (er_any (K := K) (bs := G.map fun g => sub a g) ?_ ?_) (fun v H1 s1 r => ?_)
  · have z := er_lcT (K := K) (tl := tVar 0) (t := tYes) (te := tCall spSub [] E0 (tCons (tVar 1) (tCons (tVar 2) tNil))) (σ := [some x, some y, none]) (H := H) (j := 2) (ws := [2]) G
      (RI := SetV) (RO := fun c v _ => v = .bl c) (fun c => Mo.is _) (fun _ => true) (fun g => sub a g)
      (er_var (fun H1 s1 => (Mo.fam G).mono _ _ _ s1 hG) rfl) hn (fun _ => rfl) (fun _ _ _ _ _ _ => et_yes) (fun g hg _ x' H1 s1 e => ?_)
    · rw [filter_yes] at z
      exact z
    · exact er_sub (er_var (fun H2 s2 => (Mo.set a).mono _ _ _ (s1.trans s2) ha) rfl) (er_var (fun H2 s2 => (Mo.set g).mono _ _ _ s2 e) rfl) (hz g hg)
  · unfold has
    rw [List.any_map]
    rfl
  · cases (show v = _ from r)
    exact q H1 s1
theorem ok_least (B : Bn mg) (Dcontains : Cl P w K mg base 1 "contains" spSub) (F : Fun K "_least" "_least" s_least f fd) : FnOk P w K mg base CX0 2 f fd ["sets"] spLeast := by
  refine F.ok sc_least (fun vs H Q E h => ?_) (fun cdv A outer s H vs Q E hr h => ?_)
  · obtain ⟨x, G, rfl, _⟩ := h
    rfl
  obtain ⟨x, G, rfl, hG, hn, hz, q⟩ := h
  refine ⟨_, (pss_cons (ps_set (i := 1) sc_least.nd rfl (Or.inr rfl) (pe_callB (cr_sortedL rfl) rfl B.sorted (by decide +kernel) (pa_cons (pe_callTy (cr_setOfU rfl hr.units) rfl B.set (by decide +kernel) (pa_cons (pv 0) pa_nil)) pa_nil)))
    (pss_one (ps_ret (pe_callTy (call_tupK (K := K) rfl) rfl B.tuple (by decide +kernel) (pa_cons (pe_lc (own := [("places", 2)]) (g := (gName 2)) (tt := _) rfl sc_least.nd (pi_listK (K := K) rfl (pv 1)) (blkOk_by (N := N_least) (sc := defScope s_least) (by decide +kernel)) (fun _ _ _ _ _ => pg_name (i := 2) sc_least.nd rfl (Or.inr rfl)) (fun _ _ _ _ _ => (pts_one (pt_not (pt_val (pe_callB (cr_anyK (K := K) rfl rfl) rfl B.any (by decide +kernel) (pa_cons (pe_lc (own := [("other", 3)]) (g := (gName 3)) (tt := _) rfl sc_least.nd (pi_listK (K := K) rfl (pv 1)) (blkOk_by (N := N_least) (sc := scK7) (by decide +kernel)) (fun _ _ _ _ _ => pg_name (i := 3) sc_least.nd rfl (Or.inl rfl)) (fun _ _ _ _ _ => (pts_one (pt_cmpR (op_neK (K := K) rfl hr.units) (pv 3) (pv 2) (nomark _)))) (fun _ _ _ _ _ => (pe_c Dcontains hr (by decide) rfl (pa_cons (pv 2) (pa_cons (pv 3) pa_nil))))) pa_nil)))))) (fun _ _ _ _ _ => (pv 2))) pa_nil))))), ?_⟩
  refine q_set (er_sortedSet (K := K) (P := P) (w := w) (er_var (R := fun v H => FamL G v H ∨ FamT G v H) (fun H1 s1 => hG.imp (FamL.mono s1) ((Mo.fam G).mono _ _ _ s1)) rfl) hn (fun g hg => (hz g hg).1)) (fun v H1 s1 r1 => ?_)
  refine q_ret (R := FamT (minS G)) (er_tupOf (K := K) Mo.set ?_) (fun v2 H2 s2 r2 => q v2 H2 (s1.trans s2) r2)
  have hm : ∀ g ∈ sortS G, g.length ≤ 1000 := fun g hg => (hz g (mem_sortS.mp hg)).2
  have hl : (sortS G).length ≤ 1000 := Nat.le_trans (sortS_len G) (by omega)
  have z := er_lcL (K := K) (tl := tVar 1) (t := tNot (tB (tCB (rAny K) (tCons (tLc (iList K (tVar 1)) (gName 3) (tTest (tOp (rNeD K) (tVar 3) (tVar 2))) (tCall spSub [] E0 (tCons (tVar 2) (tCons (tVar 3) tNil))) [3]) tNil)))) (te := tVar 2)
    (σ := [some x, some v, none, none]) (H := H1) (j := 2) (ws := [2]) (sortS G) (RI := SetV) (RO := SetV) Mo.set
    (fun a => !((sortS G).filter fun o => decide (o ≠ a)).any fun o => sub a o) (fun a => a)
    (er_var (fun H2 s2 => FamL.mono s2 r1) rfl) hl (fun _ => rfl) (fun a ha xa H2 s2 ra => ?_) (fun a ha _ xa H2 s2 ra => er_var (fun H3 s3 => (Mo.set a).mono _ _ _ s3 ra) rfl)
  · rw [List.map_id'] at z
    exact z
  · refine et_not (et_B (er_any (K := K) (bs := ((sortS G).filter fun o => decide (o ≠ a)).map fun o => sub a o) ?_ (by rw [List.any_map]; rfl)))
    exact er_lcL (K := K) (tl := tVar 1) (t := tTest (tOp (rNeD K) (tVar 3) (tVar 2))) (te := tCall spSub [] E0 (tCons (tVar 2) (tCons (tVar 3) tNil)))
      (σ := [some x, some v, some xa, none]) (H := H2) (j := 3) (ws := [3]) (sortS G) (RI := SetV) (RO := fun c v _ => v = .bl c) (fun c => Mo.is _)
      (fun o => decide (o ≠ a)) (fun o => sub a o) (er_var (fun H3 s3 => FamL.mono (s2.trans s3) r1) rfl) hl (fun _ => rfl)
      (fun o ho xo H3 s3 ro => et_test (er_neSet (er_var (fun H4 s4 => (Mo.set o).mono _ _ _ s4 ro) rfl) (er_var (fun H4 s4 => (Mo.set a).mono _ _ _ (s3.trans s4) ra) rfl)))
      (fun o ho _ xo H3 s3 ro => er_sub (er_var (fun H4 s4 => (Mo.set a).mono _ _ _ (s3.trans s4) ra) rfl) (er_var (fun H4 s4 => (Mo.set o).mono _ _ _ s4 ro) rfl) (hm o ho))
theorem ok_ascends (B : Bn mg) (F : Fun K "ascends" "ascends" sascends f fd) : FnOk P w K mg base CX0 1 f fd ["row"] spAsc := by
  refine F.ok scascends (fun vs H Q E h => ?_) (fun cdv A outer s H vs Q E hr h => ?_)
  · obtain ⟨x, a, rfl, _⟩ := h
    rfl
  obtain ⟨x, a, rfl, ha, hn, q⟩ := h
  refine ⟨_, (pss_one (ps_ret (pe_callB (cr_allK (K := K) rfl rfl) rfl B.all (by decide +kernel) (pa_cons (pe_lc (own := [("low", 1), ("high", 2)]) (g := (gTup K 2 (gCons (gName 1) (gCons (gName 2) gNil)))) (tt := tYes) rfl scascends.nd (RZ.pi_zipA rfl B.zip (pa_cons (pv 0) (pa_cons (pe_slice (sl_tupK (K := K) rfl) (pv 0) (po_some pe_int) po_none) pa_nil))) (blkOk_by (N := Nascends) (sc := defScope sascends) (by decide +kernel)) (fun _ _ _ _ _ => pg_tup rfl (pgs_cons (pg_name (i := 1) scascends.nd rfl (Or.inl rfl) (Or.inr rfl)) (pgs_cons (pg_name (i := 2) scascends.nd rfl (Or.inl rfl) (Or.inr rfl)) pgs_nil))) (fun _ _ _ _ _ => pts_nil) (fun _ _ _ _ _ => (pe_cmpR op_lt (pv 1) (pv 2) (nomark _)))) pa_nil)))), ?_⟩
  refine q_ret (R := Is (.bl (ascB a))) (er_all (K := K) (bs := zipB a) ?_ (zip_asc a)) (fun v H1 s1 r => ?_)
  · refine er_lcZ (K := K) (a := a) (b := a.drop 1) (j := 1) (k := 2) (ws := [1, 2]) hn (fun H1 s1 Q q => ?_) (fun _ _ => rfl) (fun x y H1 s1 => ?_) (fun T x y σ1 H1 Q hT q => ?_)
    · refine er_var (σ := [some x, none, none]) (i := 0) (fun H2 s2 => (Mo.set a).mono _ _ _ (s1.trans s2) ha) rfl H1 (Same.refl H1) _ fun v1 H2 s2 r1 => ?_
      exact er_tail (K := K) (er_var (σ := [some x, none, none]) (i := 0) (fun H3 s3 => (Mo.set a).mono _ _ _ ((s1.trans s2).trans s3) ha) rfl) H2 (Same.refl H2) _ fun v2 H3 s3 r2 => q v1 v2 H3 (s2.trans s3) ((Mo.set a).mono _ _ _ s3 r1) r2
    · exact er_op (Ra := Is (.int x)) (Rb := Is (.int y)) (er_var (fun _ _ => rfl) rfl) (er_var (fun _ _ => rfl) rfl) (fun _ _ _ _ r => r) fun u v H2 _ r1 r2 Q q => ⟨x, y, r1, r2, q _ H2 (Same.refl H2) rfl⟩
    · exact ⟨T, _, rfl, SqT.of hT, rfl, x, [y], rfl, y, [], rfl, rfl, q⟩
  · cases (show v = _ from r)
    exact q H1 s1
theorem ok_are_places (B : Bn mg) (Dascends : Cl P w K mg base 1 "ascends" spAsc) (D_is_place : Cl P w K mg base 2 "_is_place" spIsPl) (F : Fun K "_are_places" "_are_places" s_are_places f fd) : FnOk P w K mg base CX0 3 f fd ["width", "value"] spArePl := by
  refine F.ok sc_are_places (fun vs H Q E h => ?_) (fun cdv A outer s H vs Q E hr h => ?_)
  · obtain ⟨n, x, a, rfl, _⟩ := h
    rfl
  obtain ⟨n, x, a, rfl, hw, ha, hn, h0, q⟩ := h
  refine ⟨_, (pss_cons (ps_if (pt_not (pt_val (pe_callB (call_isiK2 (K := K) rfl) rfl B.isinstance (by decide +kernel) (pa_cons (pv 1) (pa_cons (pe_ty (T := "tuple") rfl B.tuple (by decide +kernel)) pa_nil))))) 
      (pss_one (ps_ret pe_bl)) pss_nil)
    (pss_one (ps_ret (pe_and (pe_callB (cr_allK (K := K) rfl rfl) rfl B.all (by decide +kernel) (pa_cons (pe_lc (own := [("place", 2)]) (g := (gName 2)) (tt := tYes) rfl sc_are_places.nd (pi_tupK (K := K) rfl (pv 1)) (blkOk_by (N := N_are_places) (sc := defScope s_are_places) (by decide +kernel)) (fun _ _ _ _ _ => pg_name (i := 2) sc_are_places.nd rfl (Or.inl rfl)) (fun _ _ _ _ _ => pts_nil) (fun _ _ _ _ _ => (pe_c D_is_place hr (by decide) rfl (pa_cons (pv 0) (pa_cons (pv 2) pa_nil))))) pa_nil)) (pe_one (pe_c Dascends hr (by decide) rfl (pa_cons (pv 1) pa_nil))))))), ?_⟩
  refine q_skip (et_not (b := true) (et_B (er_isiT (K := K) (a := a) (er_var (fun H1 s1 => (Mo.set a).mono _ _ _ s1 ha) rfl) (by decide +kernel)))) (fun H1 s1 => ?_)
  refine q_ret (R := Is (.bl (true && ascB a))) (er_and (er_all (K := K) (bs := a.map fun _ => true) ?_ (by rw [List.all_map]; exact List.all_eq_true.mpr fun _ _ => rfl)) fun _ => ?_) (fun v H2 s2 r => ?_)
  · have z := er_lcT (K := K) (tl := tVar 1) (t := tYes) (te := tCall spIsPl [] E0 (tCons (tVar 0) (tCons (tVar 2) tNil))) (σ := [some (.int (n : Int)), some x, none]) (H := H1) (j := 2) (ws := [2]) a
      (RI := fun p v _ => v = .int p) (RO := fun c v _ => v = .bl c) (fun c => Mo.is _) (fun _ => true) (fun _ => true)
      (er_var (fun H2 s2 => setTup ((Mo.set a).mono _ _ _ (s1.trans s2) ha)) rfl) hn (fun _ => rfl) (fun _ _ _ _ _ _ => et_yes) (fun p hp _ x' H2 s2 e => ?_)
    · rw [filter_yes] at z
      exact z
    · subst e
      exact er_isPl (er_var (fun _ _ => rfl) rfl) (er_var (fun _ _ => rfl) rfl) hw (h0 p hp)
  · exact er_asc (er_var (fun H2 s2 => (Mo.set a).mono _ _ _ (s1.trans s2) ha) rfl) hn
  · cases (show v = _ from r)
    exact q H2 (s1.trans s2)
theorem ok_are_sets (B : Bn mg) (D_are_places : Cl P w K mg base 3 "_are_places" spArePl) (F : Fun K "_are_sets" "_are_sets" s_are_sets f fd) : FnOk P w K mg base CX0 4 f fd ["width", "value"] spAreSets := by
  refine F.ok sc_are_sets (fun vs H Q E h => ?_) (fun cdv A outer s H vs Q E hr h => ?_)
  · obtain ⟨n, x, G, rfl, _⟩ := h
    rfl
  obtain ⟨n, x, G, rfl, hw, hG, hne, hn, h0, q⟩ := h
  refine ⟨_, (pss_cons (ps_if (PW.pt (pw_or (pt_not (pt_val (pe_callB (call_isiK2 (K := K) rfl) rfl B.isinstance (by decide +kernel) (pa_cons (pv 1) (pa_cons (pe_ty (T := "tuple") rfl B.tuple (by decide +kernel)) pa_nil))))) (pw_or1 (pt_cmpR (op_eqK (K := K) rfl hr.units) (pv 1) (pe_tup pa_nil) (nomark _))))) 
      (pss_one (ps_ret pe_bl)) pss_nil)
    (pss_one (ps_ret (pe_callB (cr_allK (K := K) rfl rfl) rfl B.all (by decide +kernel) (pa_cons (pe_lc (own := [("places", 2)]) (g := (gName 2)) (tt := tYes) rfl sc_are_sets.nd (pi_tupK (K := K) rfl (pv 1)) (blkOk_by (N := N_are_sets) (sc := defScope s_are_sets) (by decide +kernel)) (fun _ _ _ _ _ => pg_name (i := 2) sc_are_sets.nd rfl (Or.inl rfl)) (fun _ _ _ _ _ => pts_nil) (fun _ _ _ _ _ => (pe_and (pe_c D_are_places hr (by decide) rfl (pa_cons (pv 0) (pa_cons (pv 2) pa_nil))) (pe_one (pe_cmpR (op_neK (K := K) rfl hr.units) (pv 2) (pe_tup pa_nil) (nomark _)))))) pa_nil))))), ?_⟩
  have vG : ∀ {σ : L2.St} {H1 : Hp}, Same H H1 → σ[1]? = some (some x) → Er (tVar 1) σ H1 (FamT G) := fun s1 e => er_var (fun H2 s2 => (Mo.fam G).mono _ _ _ (s1.trans s2) hG) e
  refine q_skip (Et.bl (et_or (et_not (b := true) (et_B (er_isiF (K := K) (F := G) (vG (Same.refl H) rfl) (by decide +kernel)))) fun _ => et_test (er_eqFam (K := K) (G := []) (vG (Same.refl H) rfl) er_tup0F)) (by rw [decide_eq_false hne]; rfl)) (fun H1 s1 => ?_)
  refine q_ret (R := Is (.bl true)) (er_all (K := K) (bs := G.map fun _ => true) ?_ (by rw [List.all_map]; exact List.all_eq_true.mpr fun _ _ => rfl)) (fun v H2 s2 r => ?_)
  · have z := er_lcT (K := K) (tl := tVar 1) (t := tYes) (te := tAndV (tCall spArePl [] E0 (tCons (tVar 0) (tCons (tVar 2) tNil))) (tOp (rNeD K) (tVar 2) (tTup tNil))) (σ := [some (.int (n : Int)), some x, none]) (H := H1) (j := 2) (ws := [2]) G
      (RI := SetV) (RO := fun c v _ => v = .bl c) (fun c => Mo.is _) (fun _ => true) (fun _ => true)
      (vG s1 rfl) hn (fun _ => rfl) (fun _ _ _ _ _ _ => et_yes) (fun a ha _ x' H2 s2 e => ?_)
    · rw [filter_yes] at z
      exact z
    · have va : ∀ {σ : L2.St} {H3 : Hp}, Same H2 H3 → σ[2]? = some (some x') → Er (tVar 2) σ H3 (SetV a) := fun s3 e3 => er_var (fun H4 s4 => (Mo.set a).mono _ _ _ (s3.trans s4) e) e3
      obtain ⟨a0, a1, a2⟩ := h0 a ha
      exact Er.bl (er_and (er_arePl (er_var (fun _ _ => rfl) rfl) (va (Same.refl H2) rfl) hw (Nat.le_trans (Pl.len hw ⟨a1, a2⟩) (by decide)) a2) fun _ => er_neSet (K := K) (b := []) (va (Same.refl H2) rfl) er_tup0)
        (by rw [show ascB a = true from decide_eq_true a1, decide_eq_true a0]; rfl)
  · cases (show v = _ from r)
    exact q H2 (s1.trans s2)
theorem ok_is_family (B : Bn mg) (Dcheck_width : Cl P w K mg base 2 "check_width" spCkW) (D_are_sets : Cl P w K mg base 4 "_are_sets" spAreSets) (D_least : Cl P w K mg base 2 "_least" spLeast) (F : Fun K "is_family" "is_family" sis_family f fd) : FnOk P w K mg base CX0 5 f fd ["width", "value"] spIsFam := by
  refine F.ok scis_family (fun vs H Q E h => ?_) (fun cdv A outer s H vs Q E hr h => ?_)
  · obtain ⟨n, x, G, rfl, _⟩ := h
    rfl
  obtain ⟨n, x, G, rfl, hw, hG, hF, q⟩ := h
  refine ⟨_, (pss_cons (ps_expr (pe_c Dcheck_width hr (by decide) rfl (pa_cons (pv 0) pa_nil)))
    (pss_one (ps_ret (pe_and (pe_c D_are_sets hr (by decide) rfl (pa_cons (pv 0) (pa_cons (pv 1) pa_nil))) (pe_one (pe_cmpR (op_eqK (K := K) rfl hr.units) (pe_c D_least hr (by decide) rfl (pa_cons (pv 1) pa_nil)) (pv 1) (nomark _))))))), ?_⟩
  have vG : ∀ {σ : L2.St} {H1 : Hp}, Same H H1 → σ[1]? = some (some x) → Er (tVar 1) σ H1 (FamT G) := fun s1 e => er_var (fun H2 s2 => (Mo.fam G).mono _ _ _ (s1.trans s2) hG) e
  refine q_drop (er_ckW (er_var (fun _ _ => rfl) rfl) hw) (fun H1 s1 => ?_)
  have l31 := hF.len hw
  refine q_ret (R := Is (.bl (true && decide (minS G = G)))) (er_and (er_areSets (er_var (fun _ _ => rfl) rfl) (vG s1 rfl) hw hF.ne (by omega) hF.pl) fun _ => er_eqFam (K := K) (er_leastF ((vG s1 rfl).imp fun _ _ _ r => .inr r) (by omega) fun a ha => ⟨(hF.pl a ha).1, Nat.le_trans (Pl.len hw (hF.pl a ha).2) (by decide)⟩) (vG s1 rfl)) (fun v H2 s2 r => ?_)
  cases (show v = _ from r)
  rw [decide_eq_true hF.min]
  exact q H2 (s1.trans s2)
theorem ok_check_family (Dis_family : Cl P w K mg base 5 "is_family" spIsFam) (F : Fun K "check_family" "check_family" scheck_family f fd) : FnOk P w K mg base CX0 6 f fd ["width", "family"] spCkFam := by
  refine F.ok sccheck_family (fun vs H Q E h => ?_) (fun cdv A outer s H vs Q E hr h => ?_)
  · obtain ⟨n, x, G, rfl, _⟩ := h
    rfl
  obtain ⟨n, x, G, rfl, hw, hG, hF, q⟩ := h
  refine ⟨_, (pss_one (ps_if (pt_not (pt_val (pe_c Dis_family hr (by decide) rfl (pa_cons (pv 0) (pa_cons (pv 1) pa_nil))))) 
      (pss_one ps_never) pss_nil)), ?_⟩
  exact et_not (b := true) (et_B (er_isFam (er_var (fun _ _ => rfl) rfl) (er_var (fun H1 s1 => (Mo.fam G).mono _ _ _ s1 hG) rfl) hw hF)) H (Same.refl H) _ fun H1 s1 => iteF (q H1 s1)
theorem ok_check_places (Dcheck_width : Cl P w K mg base 2 "check_width" spCkW) (D_are_places : Cl P w K mg base 3 "_are_places" spArePl) (F : Fun K "check_places" "check_places" scheck_places f fd) : FnOk P w K mg base CX0 4 f fd ["width", "places"] spCkPl := by
  refine F.ok sccheck_places (fun vs H Q E h => ?_) (fun cdv A outer s H vs Q E hr h => ?_)
  · obtain ⟨n, x, a, rfl, _⟩ := h
    rfl
  obtain ⟨n, x, a, rfl, hw, ha, hF, q⟩ := h
  refine ⟨_, (pss_cons (ps_expr (pe_c Dcheck_width hr (by decide) rfl (pa_cons (pv 0) pa_nil)))
    (pss_one (ps_if (pt_not (pt_val (pe_c D_are_places hr (by decide) rfl (pa_cons (pv 0) (pa_cons (pv 1) pa_nil))))) 
      (pss_one ps_never) pss_nil))), ?_⟩
  refine q_drop (er_ckW (er_var (fun _ _ => rfl) rfl) hw) (fun H1 s1 => ?_)
  exact et_not (b := ascB a) (et_B (er_arePl (er_var (fun _ _ => rfl) rfl) (er_var (fun H2 s2 => (Mo.set a).mono _ _ _ (s1.trans s2) ha) rfl) hw (Nat.le_trans (Pl.len hw hF) (by decide)) hF.2)) H1 (Same.refl H1) _ fun H2 s2 => by
    rw [show ascB a = true from decide_eq_true hF.1]
    exact iteF (q H2 (s1.trans s2))
theorem ok_places_in (B : Bn mg) (F : Fun K "_places_in" "_places_in" s_places_in f fd) : FnOk P w K mg base CX0 1 f fd ["width", "bits"] spPlIn := by
  refine F.ok sc_places_in (fun vs H Q E h => ?_) (fun cdv A outer s H vs Q E hr h => ?_)
  · obtain ⟨n, b, rfl, _⟩ := h
    rfl
  obtain ⟨n, b, rfl, hw, h32, q⟩ := h
  refine ⟨_, (pss_one (ps_ret (pe_callTy (call_tupK (K := K) rfl) rfl B.tuple (by decide +kernel) (pa_cons (pe_lc (own := [("place", 2)]) (g := (gName 2)) (tt := _) rfl sc_places_in.nd (pi_range1 rfl B.range (pa_cons (pv 0) pa_nil)) (blkOk_by (N := N_places_in) (sc := defScope s_places_in) (by decide +kernel)) (fun _ _ _ _ _ => pg_name (i := 2) sc_places_in.nd rfl (Or.inl rfl)) (fun _ _ _ _ _ => (pts_one (pt_truthK (K := K) rfl (pe_op op_and (pe_op op_shr (pv 1) (pv 2)) pe_int) (fun _ => rfl)))) (fun _ _ _ _ _ => (pv 2))) pa_nil)))), ?_⟩
  refine q_ret (R := SetV (placesIn n b)) (er_tupInts (K := K) ?_) q
  have z := er_lcR (tl := tVar 0) (t := tTr K (tOp (rI0 fun i j => V.int (Builtin.bitAnd i j)) (tOp (rI (fun _ j => 0 ≤ j) fun i j => V.int (i / 2 ^ j.toNat)) (tVar 1) (tVar 2)) (tC (.int 1)))) (te := tVar 2)
    (σ := [some (.int (n : Int)), some (.int (b : Int)), none]) (H := H) (j := 2) (ws := [2]) n (RO := fun (p : Int) v _ => v = .int p) (fun c => Mo.is _) (fun i => bitT b i) (fun i => (i : Int))
    (er_var (fun _ _ => rfl) rfl) (by rcases hw with rfl | rfl | rfl | rfl <;> decide) (fun _ => rfl) (fun i hi H1 s1 => ?_) (fun i hi _ H1 s1 => er_var (fun _ _ => rfl) rfl)
  · rw [placesIn_eq hw h32] at z
    exact z
  · refine er_truI (K := K) (i := Builtin.bitAnd ((b : Int) / 2 ^ ((i : Int)).toNat) 1) (er_op (Ra := Is (.int ((b : Int) / 2 ^ ((i : Int)).toNat))) (Rb := Is (.int 1)) ?_ er_c (fun _ _ _ _ r => r) fun x y H2 _ r1 r2 Q q => ⟨_, _, r1, r2, q _ H2 (Same.refl H2) rfl⟩) rfl
    exact er_op (Ra := Is (.int (b : Int))) (Rb := Is (.int (i : Int))) (er_var (fun _ _ => rfl) rfl) (er_var (fun _ _ => rfl) rfl) (fun _ _ _ _ r => r) fun x y H2 _ r1 r2 Q q => ⟨_, _, r1, r2, by omega, q _ H2 (Same.refl H2) rfl⟩
theorem ok_all_sets (B : Bn mg) (D_places_in : Cl P w K mg base 1 "_places_in" spPlIn) (F : Fun K "_all_sets" "_all_sets" s_all_sets f fd) : FnOk P w K mg base CX0 2 f fd ["width"] spAllS := by
  refine F.ok sc_all_sets (fun vs H Q E h => ?_) (fun cdv A outer s H vs Q E hr h => ?_)
  · obtain ⟨n, rfl, _⟩ := h
    rfl
  obtain ⟨n, rfl, hw, q⟩ := h
  refine ⟨_, (pss_one (ps_ret (pe_lc (own := [("bits", 1)]) (g := (gName 1)) (tt := tYes) rfl sc_all_sets.nd (pi_range2 rfl B.range (pa_cons pe_int (pa_cons (pe_op op_shl pe_int (pv 0)) pa_nil))) (blkOk_by (N := N_all_sets) (sc := defScope s_all_sets) (by decide +kernel)) (fun _ _ _ _ _ => pg_name (i := 1) sc_all_sets.nd rfl (Or.inl rfl)) (fun _ _ _ _ _ => pts_nil) (fun _ _ _ _ _ => (pe_c D_places_in hr (by decide) rfl (pa_cons (pv 0) (pa_cons (pv 1) pa_nil))))))), ?_⟩
  obtain ⟨e2, l31⟩ := two_pow hw
  have z := er_lcR2 (tl2 := tCons (tC (.int 1)) (tCons (tOp (rI CPow fun i j => V.int (i * 2 ^ j.toNat)) (tC (.int 1)) (tVar 0)) tNil)) (t := tYes) (te := tCall spPlIn [] E0 (tCons (tVar 0) (tCons (tVar 1) tNil)))
    (σ := [some (.int (n : Int)), none]) (H := H) (j := 1) (ws := [1]) 1 (2 ^ n - 1) (RO := SetV) Mo.set (fun _ => true) (fun i => placesIn n (i + 1))
    (fun H1 s1 Q q => ?_) (by omega) (by omega) (fun _ => rfl) (fun _ _ _ _ => et_yes) (fun i hi _ H1 s1 => ?_)
  · rw [filter_yes] at z
    exact q_ret (R := FamL (allS n)) z q
  · refine ⟨_, rfl, 1, (n : Int), rfl, rfl, ⟨by omega, by rcases hw with rfl | rfl | rfl | rfl <;> decide, by decide⟩, ?_⟩
    show Q [.int 1, .int (1 * 2 ^ ((n : Int)).toNat)] H1
    rw [e2]
    exact q H1 (Same.refl H1)
  · rw [Nat.add_comm i 1]
    exact er_plIn (er_var (fun _ _ => rfl) rfl) (er_var (fun _ _ => rfl) rfl) hw (by omega)
theorem ok_is_held (Dcheck_family : Cl P w K mg base 6 "check_family" spCkFam) (Dcheck_places : Cl P w K mg base 4 "check_places" spCkPl) (Dhas_least : Cl P w K mg base 2 "has_least" spHas) (F : Fun K "is_held" "is_held" sis_held f fd) : FnOk P w K mg base CX0 7 f fd ["width", "family", "places"] spHeld := by
  refine F.ok scis_held (fun vs H Q E h => ?_) (fun cdv A outer s H vs Q E hr h => ?_)
  · obtain ⟨n, x, y, G, a, rfl, _⟩ := h
    rfl
  obtain ⟨n, x, y, G, a, rfl, hw, hG, hF, ha, hp, q⟩ := h
  refine ⟨_, (pss_cons (ps_expr (pe_c Dcheck_family hr (by decide) rfl (pa_cons (pv 0) (pa_cons (pv 1) pa_nil))))
    (pss_cons (ps_expr (pe_c Dcheck_places hr (by decide) rfl (pa_cons (pv 0) (pa_cons (pv 2) pa_nil))))
    (pss_one (ps_ret (pe_c Dhas_least hr (by decide) rfl (pa_cons (pv 1) (pa_cons (pv 2) pa_nil))))))), ?_⟩
  have vG : ∀ {σ : L2.St} {H1 : Hp}, Same H H1 → σ[1]? = some (some x) → Er (tVar 1) σ H1 (FamT G) := fun s1 e => er_var (fun H2 s2 => (Mo.fam G).mono _ _ _ (s1.trans s2) hG) e
  have va : ∀ {σ : L2.St} {H1 : Hp}, Same H H1 → σ[2]? = some (some y) → Er (tVar 2) σ H1 (SetV a) := fun s1 e => er_var (fun H2 s2 => (Mo.set a).mono _ _ _ (s1.trans s2) ha) e
  refine q_drop (er_ckFam (er_var (fun _ _ => rfl) rfl) (vG (Same.refl H) rfl) hw hF) (fun H1 s1 => ?_)
  refine q_drop (er_ckPl (er_var (fun _ _ => rfl) rfl) (va s1 rfl) hw hp) (fun H2 s2 => ?_)
  have l31 := hF.len hw
  refine q_ret (er_hasL (vG (s1.trans s2) rfl) (va (s1.trans s2) rfl) (by omega) fun g hg => Nat.le_trans (Pl.len hw (hF.pl g hg).2) (by decide)) fun v H3 s3 r => ?_
  cases (show v = _ from r)
  exact q H3 ((s1.trans s2).trans s3)
theorem ok_blocks_of (B : Bn mg) (Dcheck_family : Cl P w K mg base 6 "check_family" spCkFam) (D_all_sets : Cl P w K mg base 2 "_all_sets" spAllS) (D_meet : Cl P w K mg base 1 "_meet" spMeet) (D_least : Cl P w K mg base 2 "_least" spLeast) (F : Fun K "blocks_of" "blocks_of" sblocks_of f fd) : FnOk P w K mg base CX0 7 f fd ["width", "family"] spBlocks := by
  refine F.ok scblocks_of (fun vs H Q E h => ?_) (fun cdv A outer s H vs Q E hr h => ?_)
  · obtain ⟨n, x, G, rfl, _⟩ := h
    rfl
  obtain ⟨n, x, G, rfl, hw, hG, hF, q⟩ := h
  refine ⟨_, (pss_cons (ps_expr (pe_c Dcheck_family hr (by decide) rfl (pa_cons (pv 0) (pa_cons (pv 1) pa_nil))))
    (pss_one (ps_ret (pe_c D_least hr (by decide) rfl (pa_cons (pe_lc (own := [("places", 2)]) (g := (gName 2)) (tt := _) rfl scblocks_of.nd (pi_listK (K := K) rfl (pe_c D_all_sets hr (by decide) rfl (pa_cons (pv 0) pa_nil))) (blkOk_by (N := Nblocks_of) (sc := defScope sblocks_of) (by decide +kernel)) (fun _ _ _ _ _ => pg_name (i := 2) scblocks_of.nd rfl (Or.inr rfl)) (fun _ _ _ _ _ => (pts_one (pt_val (pe_callB (cr_allK (K := K) rfl rfl) rfl B.all (by decide +kernel) (pa_cons (pe_lc (own := [("least", 3)]) (g := (gName 3)) (tt := tYes) rfl scblocks_of.nd (pi_tupK (K := K) rfl (pv 1)) (blkOk_by (N := Nblocks_of) (sc := scK11) (by decide +kernel)) (fun _ _ _ _ _ => pg_name (i := 3) scblocks_of.nd rfl (Or.inl rfl)) (fun _ _ _ _ _ => pts_nil) (fun _ _ _ _ _ => (pe_c D_meet hr (by decide) rfl (pa_cons (pv 2) (pa_cons (pv 3) pa_nil))))) pa_nil))))) (fun _ _ _ _ _ => (pv 2))) pa_nil))))), ?_⟩
  have l31 := hF.len hw
  have a31 := allS_len hw
  have vG : ∀ {σ : L2.St} {H1 : Hp}, Same H H1 → σ[1]? = some (some x) → Er (tVar 1) σ H1 (FamT G) := fun s1 e => er_var (fun H2 s2 => (Mo.fam G).mono _ _ _ (s1.trans s2) hG) e
  refine q_drop (er_ckFam (er_var (fun _ _ => rfl) rfl) (vG (Same.refl H) rfl) hw hF) (fun H1 s1 => ?_)
  have z := er_lcL (K := K) (tl := tCall spAllS [] E0 (tCons (tVar 0) tNil)) (t := tB (tCB (rAll K) (tCons (tLc (iTup K (tVar 1)) (gName 3) tYes (tCall spMeet [] E0 (tCons (tVar 2) (tCons (tVar 3) tNil))) [3]) tNil))) (te := tVar 2)
    (σ := [some (.int (n : Int)), some x, none, none]) (H := H1) (j := 2) (ws := [2]) (allS n) (RI := SetV) (RO := SetV) Mo.set (fun a => G.all fun f => meets a f) (fun a => a)
    (er_allS (er_var (fun _ _ => rfl) rfl) hw) (by omega) (fun _ => rfl) (fun a ha xa H2 s2 ra => ?_) (fun a ha _ xa H2 s2 ra => er_var (fun H3 s3 => (Mo.set a).mono _ _ _ s3 ra) rfl)
  · rw [List.map_id'] at z
    refine q_ret (er_leastF (z.imp fun _ _ _ r => .inl r) (Nat.lt_of_le_of_lt (List.length_filter_le _ _) (by omega)) fun a ha => ?_) fun v H2 s2 r => q v H2 (s1.trans s2) r
    obtain ⟨h1, h2⟩ := (mem_allS hw).mp (List.mem_filter.mp ha).1
    exact ⟨h1, Nat.le_trans (Pl.len hw h2) (by decide)⟩
  · refine et_B (er_all (K := K) (bs := G.map fun f => meets a f) ?_ (by rw [List.all_map]; rfl))
    have y := er_lcT (K := K) (tl := tVar 1) (t := tYes) (te := tCall spMeet [] E0 (tCons (tVar 2) (tCons (tVar 3) tNil))) (σ := [some (.int (n : Int)), some x, some xa, none]) (H := H2) (j := 3) (ws := [3]) G
      (RI := SetV) (RO := fun c v _ => v = .bl c) (fun c => Mo.is _) (fun _ => true) (fun f => meets a f)
      (vG (s1.trans s2) rfl) (by omega) (fun _ => rfl) (fun _ _ _ _ _ _ => et_yes) (fun g hg _ xg H3 s3 rg => ?_)
    · rw [filter_yes] at y
      exact y
    · exact er_meets (er_var (fun H4 s4 => (Mo.set a).mono _ _ _ (s3.trans s4) ra) rfl) (er_var (fun H4 s4 => (Mo.set g).mono _ _ _ s4 rg) rfl) (Nat.le_trans (Pl.len hw (hF.pl g hg).2) (by decide))
theorem ok_law_roll (B : Bn mg) (F : Fun K "_law_roll" "_law_roll" s_law_roll f fd) : FnOk P w K mg base CX0 1 f fd ["dice", "total"] spRoll := by
  refine F.ok sc_law_roll (fun vs H Q E h => ?_) (fun cdv A outer s H vs Q E hr h => ?_)
  · obtain ⟨p, n, rfl, _⟩ := h
    rfl
  obtain ⟨p, n, rfl, ⟨a, b, c, hp⟩, hn, hn2, q⟩ := h
  refine ⟨_, (pss_cons (ps_if (pt_cmpR op_gt (pe_ix (ix_listK (K := K) rfl) (pv 0) pe_int (fun _ _ => rfl)) pe_int (nomark _)) 
      (pss_cons (ps_set (i := 2) sc_law_roll.nd rfl (Or.inl rfl) (pe_op op_mod (pe_callTy call_int1 rfl B.int (by decide +kernel) (pa_cons (pe_ix (ix_listK (K := K) rfl) (pv 0) pe_int (fun _ _ => rfl)) pa_nil)) (pv 1)))
      (pss_cons (ps_asg (pe_op op_fdivW (pe_ix (ix_listK (K := K) rfl) (pv 0) pe_int (fun _ _ => rfl)) (pv 1)) (pg_sub (pv 0) pe_int set_list))
      (pss_one (ps_ret (pv 2))))) pss_nil)
    (pss_cons (ps_asg (pe_op op_add (pe_ix (ix_listK (K := K) rfl) (pv 0) pe_int (fun _ _ => rfl)) pe_int) (pg_sub (pv 0) pe_int set_list))
    (pss_cons (ps_set (i := 3) sc_law_roll.nd rfl (Or.inl rfl) (pe_op op_mod (pe_callTy call_int1 rfl B.int (by decide +kernel) (pa_cons (pe_op op_add (pe_ix (ix_listK (K := K) rfl) (pv 0) pe_int (fun _ _ => rfl)) (pe_op op_mul pe_int (pe_ix (ix_listK (K := K) rfl) (pv 0) pe_int (fun _ _ => rfl)))) pa_nil)) pe_int))
    (pss_cons (ps_set (i := 4) sc_law_roll.nd rfl (Or.inl rfl) (pe_op op_add (pe_op op_mul (pe_op op_mod (pe_callTy call_int1 rfl B.int (by decide +kernel) (pa_cons (pe_op op_add (pe_op op_mul (pv 3) (pv 3)) (pe_op op_mul pe_int (pe_ix (ix_listK (K := K) rfl) (pv 0) pe_int (fun _ _ => rfl)))) pa_nil)) pe_int) pe_int) (pv 3)))
    (pss_one (ps_ret (pe_op op_mod (pe_callTy call_int1 rfl B.int (by decide +kernel) (pa_cons (pe_op op_fdivW (pv 4) pe_int) pa_nil)) (pv 1)))))))), ?_⟩
  refine ⟨_, rfl, p, _, 0, .int a, rfl, rfl, SqL.of hp, rfl, a, 0, rfl, rfl, _, rfl, ?_⟩
  refine ite2 (fun c1 => ?_) (fun c1 => ?_)
  · refine ⟨_, rfl, p, _, 0, .int a, rfl, rfl, SqL.of hp, rfl, .inl ⟨a, rfl, _, rfl, a, n, rfl, rfl, hn, ?_⟩⟩
    refine ⟨_, rfl, p, _, 0, .int a, rfl, rfl, SqL.of hp, rfl, _, rfl, a, n, rfl, rfl, wide_div hn hn2 (by decide) (by decide), ?_⟩
    refine ⟨_, rfl, p, _, 0, 0, rfl, rfl, hp, rfl, ?_⟩
    refine ⟨_, rfl, ?_⟩
    exact q _ _ (Int.emod_nonneg _ (by omega)) (Int.emod_lt_of_pos _ hn) (Roll.set _ _ _)
  · refine ⟨_, rfl, p, _, 2, .int c, rfl, rfl, SqL.of hp, rfl, c, 1, rfl, rfl, ?_⟩
    refine ⟨_, rfl, p, _, 2, 2, rfl, rfl, hp, rfl, ?_⟩
    have hp2 : (upd H p (.lst ([.int a, .int b, .int c].set 2 (.int (c + 1))))) p = some (.lst [.int a, .int b, .int (c + 1)]) := upd_same
    refine ⟨_, rfl, p, _, 1, .int b, rfl, rfl, SqL.of hp2, rfl, _, rfl, p, _, 2, .int (c + 1), rfl, rfl, SqL.of hp2, rfl, 49979687, c + 1, rfl, rfl, .inl (by decide), b, _, rfl, rfl, .inl ⟨_, rfl, _, _, rfl, rfl, by show (0 : Int) < 2305843009213693907; decide, ?_⟩⟩
    refine ⟨_, rfl, _, rfl, _, _, rfl, rfl, .inl (in64 _), _, rfl, p, _, 2, .int (c + 1), rfl, rfl, SqL.of hp2, rfl, 89, c + 1, rfl, rfl, .inl (by decide), _, _, rfl, rfl, .inl ⟨_, rfl, _, _, rfl, rfl, by show (0 : Int) < 1152921504606846847; decide, _, _, rfl, rfl, .inr (by decide), _, rfl, _, _, rfl, rfl, ?_⟩⟩
    refine ⟨_, rfl, _, _, rfl, rfl, wide_div (b := 20) (by decide) (by decide) (by decide) (by decide), .inl ⟨_, rfl, _, rfl, _, n, rfl, rfl, hn, ?_⟩⟩
    exact q _ _ (Int.emod_nonneg _ (by omega)) (Int.emod_lt_of_pos _ hn) (Roll.set _ _ _)
theorem ok_law_dice (B : Bn mg) (F : Fun K "_law_dice" "_law_dice" s_law_dice f fd) : FnOk P w K mg base CX0 1 f fd ["script", "spot"] (spDice K) := by
  refine F.ok sc_law_dice (fun vs H Q E h => ?_) (fun cdv A outer s H vs Q E hr h => ?_)
  · obtain ⟨a, ns, i, rfl, _⟩ := h
    rfl
  obtain ⟨a, ns, i, rfl, hS, h0, q⟩ := h
  refine ⟨_, (pss_cons (ps_set (i := 2) sc_law_dice.nd rfl (Or.inl rfl) (pe_ifExp (pt_cmpR op_lt (pv 1) (pe_callB (call_lenK (K := K) rfl) rfl B.len (by decide +kernel) (pa_cons (pv 0) pa_nil)) (nomark _)) (pe_callTy call_int1 rfl B.int (by decide +kernel) (pa_cons (pe_ix (ix_listK (K := K) rfl) (pv 0) (pv 1) (fun _ _ => rfl)) pa_nil)) (pe_op op_add (pe_op op_mul pe_int (pv 1)) pe_int)))
    (pss_cons (ps_set (i := 3) sc_law_dice.nd rfl (Or.inl rfl) (pe_op op_mod (pe_callB (call_max2 rfl) rfl B.max (by decide +kernel) (pa_cons pe_int (pa_cons (pe_op op_sub (pe_callB call_abs rfl B.abs (by decide +kernel) (pa_cons (pv 2) pa_nil)) (pe_op op_pow pe_int pe_int)) pa_nil))) (pe_op op_mulW (pe_op op_pow pe_int pe_int) (pe_op op_pow pe_int pe_int))))
    (pss_one (ps_ret (pe_lst (pa_cons (pv 3) (pa_cons (pe_op op_add (pe_op op_add (pe_op op_add (pe_op op_mul (pe_op op_mod (pe_callB call_abs rfl B.abs (by decide +kernel) (pa_cons (pv 2) pa_nil)) pe_int) pe_int) (pe_op op_mul pe_int (pv 1))) (pe_op op_mul pe_int (pe_callTy call_int1 rfl B.int (by decide +kernel) (pa_cons (pe_cmpR op_lt (pv 2) pe_int (nomark _)) pa_nil)))) pe_int) (pa_cons pe_int pa_nil)))))))), ?_⟩
  have cm : ∀ c d : Int, c = 67 ∨ c = 907 ∨ c = 29 → CMul c d := fun c d h => .inl (by omega)
  refine ⟨_, rfl, _, rfl, a, _, rfl, .inl hS, _, _, rfl, rfl, _, rfl, ?_⟩
  refine ite2 (fun c1 => ?_) (fun c1 => ?_)
  focus
    have c2 : i < (((ns.map V.int).length : Nat) : Int) := of_decide_eq_true c1
    obtain ⟨v, hv, hm⟩ := at_mem h0 c2
    obtain ⟨cell, -, rfl⟩ := List.mem_map.mp hm
    refine ⟨_, rfl, _, rfl, a, _, _, _, rfl, rfl, hS, hv, .inl ⟨cell, rfl, ?_⟩⟩
  rotate_left
  focus
    refine ⟨_, rfl, _, _, rfl, rfl, cm _ _ (.inl rfl), _, _, rfl, rfl, ?_⟩
    generalize 67 * i + 23 = cell
  all_goals
    refine ⟨_, rfl, _, rfl, 10, 15, rfl, rfl, ⟨by decide, by decide, by decide⟩, _, _, rfl, rfl, _, _, rfl, ?_⟩
    refine ⟨10, 60, rfl, rfl, ⟨by decide, by decide, by decide⟩, 10, 60, rfl, rfl, ⟨by decide, by decide, by decide⟩, _, _, rfl, rfl, wide_mul (a := 200) (b := 200) (by decide +kernel) (by decide +kernel) (by decide) (by decide) (by decide), _, _, rfl, rfl, by show (0 : Int) < 10 ^ 60 * 10 ^ 60; decide +kernel, ?_⟩
    refine ⟨_, rfl, _, rfl, _, rfl, _, _, rfl, rfl, by show (0 : Int) < 1152921504606846959; decide, _, _, rfl, rfl, .inr (by decide), ?_⟩
    refine ⟨_, rfl, _, _, rfl, rfl, cm _ _ (.inr (.inl rfl)), _, _, rfl, rfl, _, rfl, _, _, rfl, rfl, .inr ⟨_, rfl, _, _, rfl, rfl, cm _ _ (.inr (.inr rfl)), _, _, rfl, rfl, _, _, rfl, rfl, (by show 3 ≤ sizeLine; decide), fun p hp => ?_⟩⟩
    exact q p _ (same_upd hp) hp ⟨_, _, _, upd_same⟩
theorem ok_law_pick (B : Bn mg) (D_law_roll : Cl P w K mg base 1 "_law_roll" spRoll) (F : Fun K "_law_pick" "_law_pick" s_law_pick f fd) : FnOk P w K mg base CX0 2 f fd ["dice", "items"] spPick := by
  refine F.ok sc_law_pick (fun vs H Q E h => ?_) (fun cdv A outer s H vs Q E hr h => ?_)
  · obtain ⟨p, l, xs, rfl, _⟩ := h
    rfl
  obtain ⟨p, l, xs, rfl, hd, hl, hne, h0, h1, q⟩ := h
  refine ⟨_, (pss_one (ps_ret (pe_ix (ix_listK (K := K) rfl) (pv 1) (pe_c D_law_roll hr (by decide) rfl (pa_cons (pv 0) (pa_cons (pe_callB (call_lenK (K := K) rfl) rfl B.len (by decide +kernel) (pa_cons (pv 1) pa_nil)) pa_nil))) (fun _ _ => rfl)))), ?_⟩
  refine ⟨_, rfl, _, rfl, _, rfl, l, _, rfl, .inl (SqL.of hl), p, _, rfl, hd, by omega, ?_, fun r H' r0 r1 hR => ?_⟩
  · exact Nat.lt_of_le_of_lt (show xs.length ≤ 1000 from h1) (by decide +kernel)
  obtain ⟨v, hv, hm⟩ := at_mem r0 r1
  exact ⟨l, xs, r, v, rfl, rfl, SqL.of (hR.2 _ _ hne hl), hv, q v H' hm hR⟩
theorem ok_law_has_all (F : Fun K "_law_has_all" "_law_has_all" s_law_has_all f fd) : FnOk P w K mg base CX0 1 f fd ["big", "small"] spHasAll := by
  refine F.ok sc_law_has_all (fun vs H Q E h => ?_) (fun cdv A outer s H vs Q E hr h => ?_)
  · obtain ⟨x, y, a, b, rfl, _⟩ := h
    rfl
  obtain ⟨x, y, a, b, rfl, ha, hb, hz, q⟩ := h
  refine ⟨_, (pss_one (ps_ret (pe_cmpR (op_eqK (K := K) rfl hr.units) (pe_lc (own := [("one", 2)]) (g := (gName 2)) (tt := _) rfl sc_law_has_all.nd (pi_tupK (K := K) rfl (pv 1)) (blkOk_by (N := N_law_has_all) (sc := defScope s_law_has_all) (by decide +kernel)) (fun _ _ _ _ _ => pg_name (i := 2) sc_law_has_all.nd rfl (Or.inl rfl)) (fun _ _ _ _ _ => (pts_one (pt_cmpR (op_notInK (K := K) rfl) (pv 2) (pv 0) rfl))) (fun _ _ _ _ _ => (pv 2))) (pe_lst pa_nil) (nomark _)))), ?_⟩
  have z := er_lcT (K := K) (tl := tVar 1) (t := tTest (tOp (rIn K true) (tVar 2) (tVar 0))) (te := tVar 2) (σ := [some x, some y, none]) (H := H) (j := 2) (ws := [2]) b
      (RI := fun p v _ => v = .int p) (RO := fun (p : Int) v _ => v = .int p) (fun c => Mo.is _) (fun p => decide (p ∉ a)) (fun p => p)
      (er_var (fun H1 s1 => setTup ((Mo.set b).mono _ _ _ s1 hb)) rfl) hz (fun _ => rfl) (fun p hp x' H1 s1 e => ?_) (fun p hp _ x' H1 s1 e => ?_)
  · rw [List.map_id'] at z
    refine q_ret (Er.bl (er_eqNilI (K := K) z) (sub_filter a b)) fun v H1 s1 r => ?_
    cases (show v = _ from r)
    exact q H1 s1
  · subst e
    exact et_test (er_notIn (A := a) (er_var (R := Is (.int p)) (fun _ _ => rfl) rfl) (er_var (fun H2 s2 => (Mo.set a).mono _ _ _ (s1.trans s2) ha) rfl))
  · subst e
    exact er_var (fun _ _ => rfl) rfl
theorem ok_law_least_sets (B : Bn mg) (D_law_has_all : Cl P w K mg base 1 "_law_has_all" spHasAll) (F : Fun K "_law_least_sets" "_law_least_sets" s_law_least_sets f fd) : FnOk P w K mg base CX0 2 f fd ["sets"] spLawMin := by
  refine F.ok sc_law_least_sets (fun vs H Q E h => ?_) (fun cdv A outer s H vs Q E hr h => ?_)
  · obtain ⟨x, G, rfl, _⟩ := h
    rfl
  obtain ⟨x, G, rfl, hG, hn, hz, q⟩ := h
  refine ⟨_, (pss_cons (ps_set (i := 1) sc_law_least_sets.nd rfl (Or.inr rfl) (pe_callB (cr_sortedL rfl) rfl B.sorted (by decide +kernel) (pa_cons (pe_callTy (cr_setOfU rfl hr.units) rfl B.set (by decide +kernel) (pa_cons (pv 0) pa_nil)) pa_nil)))
    (pss_one (ps_ret (pe_callTy (call_tupK (K := K) rfl) rfl B.tuple (by decide +kernel) (pa_cons (pe_lc (own := [("one", 2)]) (g := (gName 2)) (tt := _) rfl sc_law_least_sets.nd (pi_listK (K := K) rfl (pv 1)) (blkOk_by (N := N_law_least_sets) (sc := defScope s_law_least_sets) (by decide +kernel)) (fun _ _ _ _ _ => pg_name (i := 2) sc_law_least_sets.nd rfl (Or.inr rfl)) (fun _ _ _ _ _ => (pts_one (pt_cmpR (op_eqK (K := K) rfl hr.units) (pe_lc (own := [("two", 3)]) (g := (gName 3)) (tt := _) rfl sc_law_least_sets.nd (pi_listK (K := K) rfl (pv 1)) (blkOk_by (N := N_law_least_sets) (sc := scK18) (by decide +kernel)) (fun _ _ _ _ _ => pg_name (i := 3) sc_law_least_sets.nd rfl (Or.inl rfl)) (fun _ _ _ _ _ => (pts_one (PW.pt (pw_and (pt_cmpR (op_neK (K := K) rfl hr.units) (pv 3) (pv 2) (nomark _)) (pw_and1 (pt_val (pe_c D_law_has_all hr (by decide) rfl (pa_cons (pv 2) (pa_cons (pv 3) pa_nil))))))))) (fun _ _ _ _ _ => (pv 3))) (pe_lst pa_nil) (nomark _)))) (fun _ _ _ _ _ => (pv 2))) pa_nil))))), ?_⟩
  refine q_set (er_sortedSet (K := K) (P := P) (w := w) (er_var (R := fun v H => FamL G v H ∨ FamT G v H) (fun H1 s1 => hG.imp (FamL.mono s1) ((Mo.fam G).mono _ _ _ s1)) rfl) hn (fun g hg => (hz g hg).1)) (fun v H1 s1 r1 => ?_)
  refine q_ret (R := FamT (minS G)) (er_tupOf (K := K) Mo.set ?_) (fun v2 H2 s2 r2 => q v2 H2 (s1.trans s2) r2)
  have hm : ∀ g ∈ sortS G, g.length ≤ 1000 := fun g hg => (hz g (mem_sortS.mp hg)).2
  have hl : (sortS G).length ≤ 1000 := Nat.le_trans (sortS_len G) (by omega)
  have z := er_lcL (K := K) (tl := tVar 1) (t := tTest (tOp (rEqD K) (tLc (iList K (tVar 1)) (gName 3) (tAnd (tTest (tOp (rNeD K) (tVar 3) (tVar 2))) (tB (tCall spHasAll [] E0 (tCons (tVar 2) (tCons (tVar 3) tNil))))) (tVar 3) [3]) (tLst tNil))) (te := tVar 2)
    (σ := [some x, some v, none, none]) (H := H1) (j := 2) (ws := [2]) (sortS G) (RI := SetV) (RO := SetV) Mo.set
    (fun a => !((sortS G).filter fun o => decide (o ≠ a)).any fun o => sub a o) (fun a => a)
    (er_var (fun H2 s2 => FamL.mono s2 r1) rfl) hl (fun _ => rfl) (fun a ha xa H2 s2 ra => ?_) (fun a ha _ xa H2 s2 ra => er_var (fun H3 s3 => (Mo.set a).mono _ _ _ s3 ra) rfl)
  · rw [List.map_id'] at z
    exact z
  · have y := er_lcL (K := K) (tl := tVar 1) (t := tAnd (tTest (tOp (rNeD K) (tVar 3) (tVar 2))) (tB (tCall spHasAll [] E0 (tCons (tVar 2) (tCons (tVar 3) tNil))))) (te := tVar 3)
      (σ := [some x, some v, some xa, none]) (H := H2) (j := 3) (ws := [3]) (sortS G) (RI := SetV) (RO := SetV) Mo.set
      (fun o => decide (o ≠ a) && sub a o) (fun o => o) (er_var (fun H3 s3 => FamL.mono (s2.trans s3) r1) rfl) hl (fun _ => rfl)
      (fun o ho xo H3 s3 ro => et_and (et_test (er_neSet (er_var (fun H4 s4 => (Mo.set o).mono _ _ _ s4 ro) rfl) (er_var (fun H4 s4 => (Mo.set a).mono _ _ _ (s3.trans s4) ra) rfl)))
        fun _ => et_B (er_hasAll (er_var (fun H4 s4 => (Mo.set a).mono _ _ _ (s3.trans s4) ra) rfl) (er_var (fun H4 s4 => (Mo.set o).mono _ _ _ s4 ro) rfl) (hm o ho)))
      (fun o ho _ xo H3 s3 ro => er_var (fun H4 s4 => (Mo.set o).mono _ _ _ s4 ro) rfl)
    rw [List.map_id'] at y
    exact et_test (Er.bl (er_eqNilF (K := K) y) (min_filter G a))
theorem ok_law_place_sets (B : Bn mg) (F : Fun K "_law_place_sets" "_law_place_sets" s_law_place_sets f fd) : FnOk P w K mg base CX0 1 f fd ["width"] spLawAll := by
  refine F.ok sc_law_place_sets (fun vs H Q E h => ?_) (fun cdv A outer s H vs Q E hr h => ?_)
  · obtain ⟨n, rfl, _⟩ := h
    rfl
  obtain ⟨n, rfl, hw, q⟩ := h
  have n5 : n ≤ 5 := by rcases hw with rfl | rfl | rfl | rfl <;> decide
  refine ⟨_, (pss_cons (ps_set (i := 1) sc_law_place_sets.nd rfl (Or.inl rfl) (pe_lst (pa_cons (pe_tup pa_nil) pa_nil)))
    (pss_cons (ps_for PassesOwn.never rfl (pi_range1 rfl B.range (pa_cons (pv 0) pa_nil)) (pg_name (i := 2) sc_law_place_sets.nd rfl (Or.inr rfl)) 
      (pss_one (ps_set (i := 1) sc_law_place_sets.nd rfl (Or.inl rfl) (pe_op op_cat (pv 1) (pe_lc (own := [("one", 3)]) (g := (gName 3)) (tt := tYes) rfl sc_law_place_sets.nd (pi_listK (K := K) rfl (pv 1)) (blkOk_by (N := N_law_place_sets) (sc := defScope s_law_place_sets) (by decide +kernel)) (fun _ _ _ _ _ => pg_name (i := 3) sc_law_place_sets.nd rfl (Or.inl rfl)) (fun _ _ _ _ _ => pts_nil) (fun _ _ _ _ _ => (pe_op (op_catAK (K := K) rfl) (pv 3) (pe_tup (pa_cons (pv 2) pa_nil)))))))))
    (pss_one (ps_ret (pe_slice (sl_listK (K := K) rfl) (pv 1) (po_some pe_int) po_none))))), ?_⟩
  refine q_set (er_lst1 er_tup0) fun v H1 s1 r1 => ?_
  refine ⟨_, rfl, (n : Int), rfl, by omega, by omega, ?_⟩
  rw [show ((n : Int)).toNat = n from Int.toNat_natCast n]
  refine for_range (lo := 0) (fun i σ H' => ∃ v y2 y3, σ = [some (.int (n : Int)), some v, y2, y3] ∧ Same H H' ∧ FamL (lawP i) v H') ⟨v, none, none, rfl, s1, r1⟩ ?_ ?_
  · rintro i σ H2 hi ⟨v, y2, y3, rfl, s2, r2⟩
    obtain ⟨l1, l2⟩ := lawP_len i (by omega)
    rw [show ((0 : Int) + (i : Int)) = (i : Int) by omega]
    have z := er_lcL (K := K) (tl := tVar 1) (t := tYes) (te := tOp (rCatA K) (tVar 3) (tTup (tCons (tVar 2) tNil))) (σ := [some (.int (n : Int)), some v, some (.int (i : Int)), y3]) (H := H2) (j := 3) (ws := [3]) (lawP i)
      (RI := SetV) (RO := SetV) Mo.set (fun _ => true) (fun a => a ++ [(i : Int)])
      (er_var (fun H3 s3 => FamL.mono s3 r2) rfl) (by omega) (fun _ => rfl) (fun _ _ _ _ _ _ => et_yes) (fun a ha _ x' H3 s3 ra => ?_)
    · rw [filter_yes] at z
      refine er_catL (er_var (fun H3 s3 => FamL.mono s3 r2) rfl) z (by rw [List.length_map]; omega) H2 (Same.refl H2) _ fun v3 H3 s3 r3 => ⟨v3, _, _, rfl, s2.trans s3, r3⟩
    · exact er_catSet (er_var (fun H4 s4 => (Mo.set a).mono _ _ _ s4 ra) rfl) (er_tup1 (er_var (fun _ _ => rfl) rfl)) (by have := l2 a ha; show a.length + 1 ≤ 1000; omega)
  · rintro σ H2 ⟨v, y2, y3, rfl, s2, r2⟩
    refine q_ret (er_tailL (K := K) (er_var (fun H3 s3 => FamL.mono s3 r2) rfl)) fun v3 H3 s3 r3 => ?_
    rw [lawP_all hw] at r3
    exact q v3 H3 (s2.trans s3) r3
theorem ok_law_some_family (B : Bn mg) (D_law_place_sets : Cl P w K mg base 1 "_law_place_sets" spLawAll) (D_law_least_sets : Cl P w K mg base 2 "_law_least_sets" spLawMin) (D_law_roll : Cl P w K mg base 1 "_law_roll" spRoll) (D_law_pick : Cl P w K mg base 2 "_law_pick" spPick) (F : Fun K "_law_some_family" "_law_some_family" s_law_some_family f fd) : FnOk P w K mg base CX0 3 f fd ["dice", "width"] spSomeFam := by
  refine F.ok sc_law_some_family (fun vs H Q E h => ?_) (fun cdv A outer s H vs Q E hr h => ?_)
  · obtain ⟨p, n, rfl, _⟩ := h
    rfl
  obtain ⟨p, n, rfl, hw, d0, q⟩ := h
  refine ⟨_, (pss_cons (ps_set (i := 2) sc_law_some_family.nd rfl (Or.inr rfl) (pe_c D_law_place_sets hr (by decide) rfl (pa_cons (pv 1) pa_nil)))
    (pss_one (ps_ret (pe_c D_law_least_sets hr (by decide) rfl (pa_cons (pe_lc (own := [("turn", 3)]) (g := (gName 3)) (tt := tYes) rfl sc_law_some_family.nd (pi_range1 rfl B.range (pa_cons (pe_op op_add pe_int (pe_c D_law_roll hr (by decide) rfl (pa_cons (pv 0) (pa_cons pe_int pa_nil)))) pa_nil)) (blkOk_by (N := N_law_some_family) (sc := defScope s_law_some_family) (by decide +kernel)) (fun _ _ _ _ _ => pg_name (i := 3) sc_law_some_family.nd rfl (Or.inl rfl)) (fun _ _ _ _ _ => pts_nil) (fun _ _ _ _ _ => (pe_c D_law_pick hr (by decide) rfl (pa_cons (pv 0) (pa_cons (pv 2) pa_nil))))) pa_nil))))), ?_⟩
  have a31 := allS_len hw
  have apos : 0 < (allS n).length := by rcases hw with rfl | rfl | rfl | rfl <;> decide +kernel
  refine q_set (er_lawAll (er_var (fun _ _ => rfl) rfl) hw) fun v1 H1 s1 r1 => ?_
  obtain ⟨pe, xs, rfl, hpe, rel⟩ := r1
  have d1 := d0.same s1
  have hxl := rel.len
  refine ⟨_, rfl, p, 5, rfl, d1, by decide, by decide, fun r H2 r0 r5 hR => ?_⟩
  obtain ⟨m, rfl, hm⟩ := pick_le (n := 5) r0 r5
  have nep : pe ≠ p := fun e => by
    obtain ⟨a, b, c, z⟩ := d0
    rw [e, s1 _ _ z] at hpe
    cases hpe
    obtain ⟨_, _, _, h, _⟩ := rel.get (i := 0) rfl
    cases h
  refine ⟨_, _, rfl, rfl, (1 : Int) + (m : Int), rfl, by omega, by omega, fun D hD => ?_⟩
  have d2 := hR.1
  have neD := d2.ne hD
  have hpe2 := hR.2 _ _ nep hpe
  have rel2 := rel_roll d1 hR rel
  have neE : pe ≠ D := ne_of_none hpe2 hD
  have hm1 : ((1 : Int) + (m : Int)).toNat = m + 1 := by omega
  rw [hm1]
  refine lc_range (lo := 0) (n := m + 1) (fun i H' => ∃ ys Fs, Roll p H2 H' ∧ H' D = some (.lst ys) ∧ Rel SetV H' ys Fs ∧ Fs.length = i ∧ ∀ a ∈ Fs, a ∈ allS n) ⟨[], [], (Roll.new d2 hD), upd_same, .nil, rfl, fun a ha => by cases ha⟩ (fun i H' hi pv => ⟨rfl, ?_⟩) (fun H' pv => ?_)
  · obtain ⟨ys, Fs, r2, hy, ry, hl, hin⟩ := pv
    have d3 := r2.1
    refine ⟨_, rfl, _, rfl, p, pe, xs, rfl, d3, r2.2 _ _ nep hpe2, nep, by omega, by omega, fun v H4 hv r4 => ?_⟩
    have rel3 := rel_roll d2 r2 rel2
    obtain ⟨a, ha, sa⟩ := rel_mem rel3 hv
    have hy4 := r4.2 _ _ neD hy
    have d4 := r4.1
    refine ⟨ys, hy4, small1000 (by rw [ry.len, hl]; omega), ys ++ [v], Fs ++ [a], (r2.trans r4).mut hD neD, upd_same, ?_, by rw [List.length_append, hl]; rfl, fun b hb => ?_⟩
    · refine Rel.app ((rel_roll d3 r4 ry).imp fun b u r => (Mo.set b).lst u H4 D ys _ hy4 r) ?_
      exact .cons ((Mo.set a).lst v H4 D ys _ hy4 (SetV.roll d3 sa r4)) .nil
    · rcases List.mem_append.mp hb with hb | hb
      · exact hin b hb
      · rw [List.mem_singleton.mp hb]
        exact ha
  · obtain ⟨ys, Fs, r2, hy, ry, hl, hin⟩ := pv
    have ok : ∀ a ∈ Fs, a ≠ [] ∧ Pl n a := fun a ha => (mem_allS hw).mp (hin a ha)
    have nF : Fs ≠ [] := fun e => by
      rw [e] at hl
      cases hl
    have all : Roll p H H' := (Roll.of_same d0 s1).trans (hR.trans r2)
    refine ⟨_, Fs, rfl, .inl ⟨D, ys, rfl, hy, ry⟩, by omega, fun a ha => ⟨(ok a ha).1, Nat.le_trans (Pl.len hw (ok a ha).2) (by decide)⟩, fun v H5 s5 r5 => ?_⟩
    exact q v H5 (minS Fs) (Fm.of nF ok) (all.trans (Roll.of_same all.1 s5)) r5
theorem ok_ascendsL (B : Bn mg) (F : Fun K "ascends" "ascends" sascends f fd) : FnOk P w K mg base CX0 1 f fd ["row"] spAscL := by
  refine F.ok scascends (fun vs H Q E h => ?_) (fun cdv A outer s H vs Q E hr h => ?_)
  · obtain ⟨x, a, rfl, _⟩ := h
    rfl
  obtain ⟨x, a, rfl, ha, hn, q⟩ := h
  refine ⟨_, (pss_one (ps_ret (pe_callB (cr_allK (K := K) rfl rfl) rfl B.all (by decide +kernel) (pa_cons (pe_lc (own := [("low", 1), ("high", 2)]) (g := (gTup K 2 (gCons (gName 1) (gCons (gName 2) gNil)))) (tt := tYes) rfl scascends.nd (RZ.pi_zipA rfl B.zip (pa_cons (pv 0) (pa_cons (pe_slice (sl_listK (K := K) rfl) (pv 0) (po_some pe_int) po_none) pa_nil))) (blkOk_by (N := Nascends) (sc := defScope sascends) (by decide +kernel)) (fun _ _ _ _ _ => pg_tup rfl (pgs_cons (pg_name (i := 1) scascends.nd rfl (Or.inl rfl) (Or.inr rfl)) (pgs_cons (pg_name (i := 2) scascends.nd rfl (Or.inl rfl) (Or.inr rfl)) pgs_nil))) (fun _ _ _ _ _ => pts_nil) (fun _ _ _ _ _ => (pe_cmpR op_lt (pv 1) (pv 2) (nomark _)))) pa_nil)))), ?_⟩
  refine q_ret (R := Is (.bl (ascB a))) (er_all (K := K) (bs := zipB a) ?_ (zip_asc a)) (fun v H1 s1 r => ?_)
  · refine er_lcZL (K := K) (a := a) (b := a.drop 1) (j := 1) (k := 2) (ws := [1, 2]) hn (fun H1 s1 Q q => ?_) (fun _ _ => rfl) (fun x y H1 s1 => ?_) (fun T x y σ1 H1 Q hT q => ?_)
    · refine er_var (σ := [some x, none, none]) (i := 0) (fun H2 s2 => Mo.lstI a _ _ _ (s1.trans s2) ha) rfl H1 (Same.refl H1) _ fun v1 H2 s2 r1 => ?_
      exact er_tailI (K := K) (er_var (σ := [some x, none, none]) (i := 0) (fun H3 s3 => Mo.lstI a _ _ _ ((s1.trans s2).trans s3) ha) rfl) H2 (Same.refl H2) _ fun v2 H3 s3 r2 => q v1 v2 H3 (s2.trans s3) (Mo.lstI a _ _ _ s3 r1) r2
    · exact er_op (Ra := Is (.int x)) (Rb := Is (.int y)) (er_var (fun _ _ => rfl) rfl) (er_var (fun _ _ => rfl) rfl) (fun _ _ _ _ r => r) fun u v H2 _ r1 r2 Q q => ⟨x, y, r1, r2, q _ H2 (Same.refl H2) rfl⟩
    · exact ⟨T, _, rfl, SqT.of hT, rfl, x, [y], rfl, y, [], rfl, rfl, q⟩
  · cases (show v = _ from r)
    exact q H1 s1
theorem okare_turns (B : Bn mg) (DascendsL : Cl P w K mg base 1 "ascends" spAscL) (D_is_place : Cl P w K mg base 2 "_is_place" spIsPl) (F : Fun K "are_turns" "are_turns" sare_turns f fd) : FnOk P w K mg base CX0 3 f fd ["width", "value"] spAreTurns := by
  refine F.ok scare_turns (fun vs H Q E h => ?_) (fun cdv A outer s H vs Q E hr h => ?_)
  · obtain ⟨n, x, a, rfl, _⟩ := h
    rfl
  obtain ⟨n, x, a, rfl, hw, ha, pm, q⟩ := h
  have ln : a.length = n := by rw [pm.length_eq, places_len]
  have n5 : n ≤ 5 := by rcases hw with rfl | rfl | rfl | rfl <;> decide
  have vA : ∀ {σ : L2.St} {H1 : Hp}, Same H H1 → σ[1]? = some (some x) → Er (tVar 1) σ H1 (TV a) := fun s1 e => er_var (fun H2 s2 => TV.mono _ _ _ (s1.trans s2) ha) e
  refine ⟨_, (pss_cons (ps_if (PW.pt (pw_or (pt_not (pt_val (pe_callB (call_isiK2 (K := K) rfl) rfl B.isinstance (by decide +kernel) (pa_cons (pv 1) (pa_cons (pe_ty (T := "tuple") rfl B.tuple (by decide +kernel)) pa_nil))))) (pw_or1 (pt_cmpR op_ne (pe_callB (call_lenK (K := K) rfl) rfl B.len (by decide +kernel) (pa_cons (pv 1) pa_nil)) (pv 0) (nomark _))))) 
      (pss_one (ps_ret pe_bl)) pss_nil)
    (pss_one (ps_ret (pe_and (pe_callB (cr_allK (K := K) rfl rfl) rfl B.all (by decide +kernel) (pa_cons (pe_lc (own := [("place", 2)]) (g := (gName 2)) (tt := tYes) rfl scare_turns.nd (pi_tupK (K := K) rfl (pv 1)) (blkOk_by (N := Nare_turns) (sc := defScope sare_turns) (by decide +kernel)) (fun _ _ _ _ _ => pg_name (i := 2) scare_turns.nd rfl (Or.inl rfl)) (fun _ _ _ _ _ => pts_nil) (fun _ _ _ _ _ => (pe_c D_is_place hr (by decide) rfl (pa_cons (pv 0) (pa_cons (pv 2) pa_nil))))) pa_nil)) (pe_one (pe_c DascendsL hr (by decide) rfl (pa_cons (pe_callB (cr_sortedITK (K := K) rfl) rfl B.sorted (by decide +kernel) (pa_cons (pv 1) pa_nil)) pa_nil))))))), ?_⟩
  refine q_skip (Et.bl (et_or (et_not (b := true) (et_B (er_isiTV (K := K) (a := a) (vA (Same.refl H) rfl)))) fun _ => et_test (er_neI (er_lenTV (vA (Same.refl H) rfl)) (er_var (R := Is (.int (n : Int))) (fun _ _ => rfl) rfl))) (by rw [ln, decide_eq_true rfl]; rfl)) (fun H1 s1 => ?_)
  refine q_ret (R := Is (.bl (true && ascB (places n)))) (er_and (er_all (K := K) (bs := a.map fun _ => true) ?_ (by rw [List.all_map]; exact List.all_eq_true.mpr fun _ _ => rfl)) fun _ => ?_) (fun v H2 s2 r => ?_)
  · have z := er_lcTV (K := K) (tl := tVar 1) (t := tYes) (te := tCall spIsPl [] E0 (tCons (tVar 0) (tCons (tVar 2) tNil))) (σ := [some (.int (n : Int)), some x, none]) (H := H1) (j := 2) (ws := [2]) a
      (RO := fun c v _ => v = .bl c) (fun c => Mo.is _) (fun _ => true) (fun _ => true)
      (vA s1 rfl) (by omega) (fun _ => rfl) (fun _ _ _ _ _ _ => et_yes) (fun p hp _ x' H2 s2 e => ?_)
    · rw [filter_yes] at z
      exact z
    · subst e
      exact er_isPl (er_var (fun _ _ => rfl) rfl) (er_var (fun _ _ => rfl) rfl) hw (mem_places.mp (pm.mem_iff.mp hp))
  · refine er_ascL (er_sortedIT (K := K) (vA s1 rfl) fun ns pn pw => ?_) (by rw [places_len]; omega)
    have p2 := pn.trans pm
    have nd : ns.Nodup := p2.nodup_iff.mpr (places_nd n)
    refine asc_ext (List.Pairwise.imp (fun {x y} z => by have : x ≠ y := z.1; omega) (List.Pairwise.and nd pw)) (places_asc n) fun q => p2.mem_iff
  · cases (show v = _ from r)
    have e : (true && ascB (places n)) = true := by
      unfold ascB
      rw [decide_eq_true (places_asc n)]
      rfl
    rw [e]
    exact q H2 (s1.trans s2)
theorem mv_nd {n : Nat} {f g : Int → Int} (h : Pm n f g) : ∀ {F : List LI}, F.Nodup → (∀ A ∈ F, Pl n A) → (F.map (mvS n f)).Nodup := by
  intro F nd hp
  refine List.pairwise_map.mpr (List.Pairwise.imp_of_mem ?_ nd)
  intro a b ha hb ne e
  have z := mv_back h (hp a ha)
  rw [e, mv_back h (hp b hb)] at z
  exact ne z.symm
theorem srt_nd {F : List LI} (h : Srt F) : F.Nodup := h.imp fun {x y} z e => by
  rw [e, lex_irr] at z
  cases z
theorem ok_placed (B : Bn mg) (Dcheck_family : Cl P w K mg base 6 "check_family" spCkFam) (Dare_turns : Cl P w K mg base 3 "are_turns" spAreTurns) (F : Fun K "placed" "placed" splaced f fd) : FnOk P w K mg base CX0 7 f fd ["width", "family", "turns"] spPlaced := by
  refine F.ok scplaced (fun vs H Q E h => ?_) (fun cdv A outer s H vs Q E hr h => ?_)
  · obtain ⟨n, x, y, G, T, rfl, _⟩ := h
    rfl
  obtain ⟨n, x, y, G, T, rfl, hw, hG, hF, hT, pm, q⟩ := h
  have vG : ∀ {σ : L2.St} {H1 : Hp}, Same H H1 → σ[1]? = some (some x) → Er (tVar 1) σ H1 (FamT G) := fun s1 e => er_var (fun H2 s2 => (Mo.fam G).mono _ _ _ (s1.trans s2) hG) e
  have vT : ∀ {σ : L2.St} {H1 : Hp}, Same H H1 → σ[2]? = some (some y) → Er (tVar 2) σ H1 (TV T) := fun s1 e => er_var (fun H2 s2 => TV.mono _ _ _ (s1.trans s2) hT) e
  have tp := turns_pm pm
  have l31 := hF.len hw
  have lnT : T.length = n := by rw [pm.length_eq, places_len]
  refine ⟨_, (pss_cons (ps_expr (pe_c Dcheck_family hr (by decide) rfl (pa_cons (pv 0) (pa_cons (pv 1) pa_nil))))
    (pss_cons (ps_if (pt_not (pt_val (pe_c Dare_turns hr (by decide) rfl (pa_cons (pv 0) (pa_cons (pv 2) pa_nil))))) 
      (pss_one ps_never) pss_nil)
    (pss_one (ps_ret (pe_callTy (call_tupK (K := K) rfl) rfl B.tuple (by decide +kernel) (pa_cons (pe_callB (cr_sortedTK (K := K) rfl) rfl B.sorted (by decide +kernel) (pa_cons (pe_lc (own := [("least", 4)]) (g := (gName 4)) (tt := tYes) rfl scplaced.nd (pi_tupK (K := K) rfl (pv 1)) (blkOk_by (N := Nplaced) (sc := defScope splaced) (by decide +kernel)) (fun _ _ _ _ _ => pg_name (i := 4) scplaced.nd rfl (Or.inl rfl)) (fun _ _ _ _ _ => pts_nil) (fun _ _ _ _ _ => (pe_callTy (call_tupK (K := K) rfl) rfl B.tuple (by decide +kernel) (pa_cons (pe_callB (cr_sortedIK (K := K) rfl) rfl B.sorted (by decide +kernel) (pa_cons (pe_lc (own := [("place", 3)]) (g := (gName 3)) (tt := tYes) rfl scplaced.nd (pi_tupK (K := K) rfl (pv 4)) (blkOk_by (N := Nplaced) (sc := scK13) (by decide +kernel)) (fun _ _ _ _ _ => pg_name (i := 3) scplaced.nd rfl (Or.inl rfl)) (fun _ _ _ _ _ => pts_nil) (fun _ _ _ _ _ => (pe_ix (ix_tupK (K := K) rfl) (pv 2) (pv 3) (fun _ _ => rfl)))) pa_nil)) pa_nil)))) pa_nil)) pa_nil)))))), ?_⟩
  refine q_drop (er_ckFam (er_var (fun _ _ => rfl) rfl) (vG (Same.refl H) rfl) hw hF) (fun H1 s1 => ?_)
  refine q_skip (et_not (b := true) (et_B (er_areTurns (er_var (fun _ _ => rfl) rfl) (vT s1 rfl) hw pm))) (fun H2 s2 => ?_)
  have s12 := s1.trans s2
  have z := er_lcT (K := K) (tl := tVar 1) (t := tYes) (te := tCB (rTupOf K) (tCons (tCB (rSortedI K) (tCons (tLc (iTup K (tVar 4)) (gName 3) tYes (tOp (rIxT K) (tVar 2) (tVar 3)) [3]) tNil)) tNil)) (σ := [some (.int (n : Int)), some x, some y, none, none]) (H := H2) (j := 4) (ws := [4]) G
      (RI := SetV) (RO := SetV) Mo.set (fun _ => true) (mvS n (tf T)) (vG s12 rfl) (by omega) (fun _ => rfl) (fun _ _ _ _ _ _ => et_yes) (fun a ha _ xa H3 s3 ra => ?_)
  · rw [filter_yes] at z
    refine q_ret (R := FamT (placedS n (tf T) G)) (er_tupOf (K := K) Mo.set (er_sortedF (K := K) z (mv_nd tp (srt_nd hF.srt) fun a ha => (hF.pl a ha).2) fun b hb => ?_)) fun v H3 s3 r => q v H3 (s12.trans s3) r
    obtain ⟨a, ha, rfl⟩ := List.mem_map.mp hb
    exact mv_ne tp (hF.pl a ha).2 (hF.pl a ha).1
  · have pa := (hF.pl a ha).2
    have y2 := er_lcT (K := K) (tl := tVar 4) (t := tYes) (te := tOp (rIxT K) (tVar 2) (tVar 3)) (σ := [some (.int (n : Int)), some x, some y, none, some xa]) (H := H3) (j := 3) (ws := [3]) a
      (RI := RI) (RO := RI) (fun c => Mo.is _) (fun _ => true) (tf T) (er_var (fun H4 s4 => setTup ((Mo.set a).mono _ _ _ s4 ra)) rfl) (Nat.le_trans (Pl.len hw pa) (by decide)) (fun _ => rfl) (fun _ _ _ _ _ _ => et_yes) (fun p hp _ x' H4 s4 e => ?_)
    · rw [filter_yes] at y2
      exact er_tupInts (K := K) (er_sortedI (K := K) y2 fun ns pn pw => sorted_mv tp pa pn pw)
    · cases (show x' = _ from e)
      have hp2 := pa.2 p hp
      exact er_ixT (K := K) (vT ((s12.trans s3).trans s4) rfl) (er_var (R := Is (.int p)) (fun _ _ => rfl) rfl) hp2.1 (by omega)
theorem rel_fun {H : Hp} : ∀ {vs : List V} {F G : List LI}, Rel SetV H vs F → Rel SetV H vs G → F = G
  | _, _, _, .nil, .nil => rfl
  | _, _, _, .cons ⟨p, e1, h1⟩ t1, .cons ⟨q, e2, h2⟩ t2 => by
    rw [e1] at e2
    cases e2
    rw [h1] at h2
    have z := HO.tup.inj (Option.some.inj h2)
    have inj : ∀ {a b : LI}, a.map V.int = b.map V.int → a = b := by
      intro a
      induction a with
      | nil => intro b e; cases b with
        | nil => rfl
        | cons y b => cases e
      | cons x a ih => intro b e; cases b with
        | nil => cases e
        | cons y b =>
          rw [List.map_cons, List.map_cons] at e
          obtain ⟨e1, e2⟩ := List.cons.inj e
          cases e1
          rw [ih e2]
    rw [inj z, rel_fun t1 t2]
theorem all_notmin {n : Nat} (hw : Wd n) : minS (allS n) ≠ allS n := by rcases hw with rfl | rfl | rfl | rfl <;> decide +kernel
theorem growL_take {F : List LI} {L : List LI} {i : Nat} {a : LI} (h : L[i]? = some a) : growL F (L.take (i + 1)) = grow1 (growL F (L.take i)) a := by
  unfold growL
  rw [List.take_add_one, h, List.foldl_append]
  rfl
theorem ok_completed (B : Bn mg) (EX : Ex K mg "InvalidOperation" C0) (Dcheck_family : Cl P w K mg base 6 "check_family" spCkFam) (D_all_sets : Cl P w K mg base 2 "_all_sets" spAllS) (D_meet : Cl P w K mg base 1 "_meet" spMeet) (D_least : Cl P w K mg base 2 "_least" spLeast) (F : Fun K "completed" "completed" scompleted f fd) : FnOk P w K mg base (CX P w) 7 f fd ["width", "family"] (spComp C0) := by
  refine F.okX sccompleted (fun vs H Q E h => ?_) (fun cdv A outer s H vs Q E hr h => ?_)
  · obtain ⟨n, x, G, rfl, _⟩ := h
    rfl
  obtain ⟨n, x, G, rfl, hw, hG, hF, qy, qn⟩ := h
  have vG : ∀ {σ : L2.St} {H1 : Hp}, Same H H1 → σ[1]? = some (some x) → Er (tVar 1) σ H1 (FamT G) := fun s1 e => er_var (fun H2 s2 => (Mo.fam G).mono _ _ _ (s1.trans s2) hG) e
  have l31 := hF.len hw
  have a31 := allS_len hw
  refine ⟨_, (pss_cons (ps_expr (pe_c Dcheck_family hr (by decide) rfl (pa_cons (pv 0) (pa_cons (pv 1) pa_nil))))
    (pss_cons (ps_if (pt_not (pt_val (pe_callB (cr_allK (K := K) rfl rfl) rfl B.all (by decide +kernel) (pa_cons (pe_lc2 (own := [("one", 2), ("other", 3)]) (vs1 := [3]) (g := (gName 2)) (tt := tYes) (g1 := (gName 3)) (tt1 := tYes) rfl sccompleted.nd (pi_tupK (K := K) rfl (pv 1)) (blkOk_by (N := Ncompleted) (sc := defScope scompleted) (by decide +kernel)) (by decide) (fun _ _ _ _ _ => pg_name (i := 2) sccompleted.nd rfl (Or.inl rfl)) (fun _ _ _ _ _ => pts_nil) (fun _ _ _ _ _ => (pi_tupK (K := K) rfl (pv 1))) (fun _ _ _ _ _ => pg_name (i := 3) sccompleted.nd rfl (Or.inl rfl)) (fun _ _ _ _ _ => pts_nil) (fun _ _ _ _ _ => (pe_c D_meet hr (by decide) rfl (pa_cons (pv 2) (pa_cons (pv 3) pa_nil))))) pa_nil)))) 
      (pss_one (ps_raise rfl (takes_of rfl rfl rfl rfl) (pmk_own PySem.F.excBase_ValueError EX.xP EX.gP EX.kP (raises_own EX.bP EX.tP) rfl))) pss_nil)
    (PSs.nox (pss_cons (ps_set (i := 4) sccompleted.nd rfl (Or.inl rfl) (pe_callTy (call_listK (K := K) rfl) rfl B.list (by decide +kernel) (pa_cons (pv 1) pa_nil)))
    (pss_cons (ps_for PassesOwn.never rfl (pi_listK (K := K) rfl (pe_c D_all_sets hr (by decide) rfl (pa_cons (pv 0) pa_nil))) (pg_name (i := 5) sccompleted.nd rfl (Or.inr rfl)) 
      (pss_one (ps_if (pt_val (pe_callB (cr_allK (K := K) rfl rfl) rfl B.all (by decide +kernel) (pa_cons (pe_lc (own := [("least", 6)]) (g := (gName 6)) (tt := tYes) rfl sccompleted.nd (pi_listK (K := K) rfl (pv 4)) (blkOk_by (N := Ncompleted) (sc := defScope scompleted) (by decide +kernel)) (fun _ _ _ _ _ => pg_name (i := 6) sccompleted.nd rfl (Or.inl rfl)) (fun _ _ _ _ _ => pts_nil) (fun _ _ _ _ _ => (pe_c D_meet hr (by decide) rfl (pa_cons (pv 5) (pa_cons (pv 6) pa_nil))))) pa_nil))) 
        (pss_one (ps_expr (pe_bm PySem.F.plainAttrs_list PySem.F.slot_list_append PySem.F.type_list_append mt_append (pv 4) (pa_cons (pv 5) pa_nil)))) pss_nil)))
    (pss_one (ps_ret (pe_c D_least hr (by decide) rfl (pa_cons (pv 4) pa_nil))))))))), ?_⟩
  refine q_drop (er_ckFam (er_var (fun _ _ => rfl) rfl) (vG (Same.refl H) rfl) hw hF) (fun H1 s1 => ?_)
  obtain ⟨p, xs, rfl, hp, rel⟩ := (Mo.fam G).mono _ _ _ s1 hG
  have z := er_lc2 (K := K) (tl := tVar 1) (tl2 := tVar 1) (te := tCall spMeet [] E0 (tCons (tVar 2) (tCons (tVar 3) tNil))) (σ := [some (.int (n : Int)), some (.ref p), none, none, none, none, none]) (H := H1) (j := 2) (k := 3) (ws := [2, 3]) (vs1 := [3]) G G
      (RI := SetV) (RJ := SetV) (RO := fun (c : Bool) v _ => v = .bl c) (fun c => Mo.is _) Mo.set Mo.set (fun a b => meets a b) (q := p) (ys := xs) (vG s1 rfl) hp rel (fun x H2 s2 Q q => ⟨_, rfl, q⟩) (fun _ => rfl) (fun _ _ => rfl)
      (Nat.le_trans (Nat.mul_le_mul l31 l31) (by decide)) (fun a b ha hb x y H2 s2 rx ry => er_meets (er_var (fun H3 s3 => (Mo.set a).mono _ _ _ s3 rx) rfl) (er_var (fun H3 s3 => (Mo.set b).mono _ _ _ s3 ry) rfl) (Nat.le_trans (Pl.len hw (hF.pl b hb).2) (by decide)))
  refine q_when (et_not (et_B (er_all (K := K) z (flat_all G)))) (fun hb H2 s2 => ?_) (fun hb H2 s2 => ?_)
  · exact qn (by simpa using hb) H2 (s1.trans s2)
  have hm : mtB G = true := by simpa using hb
  have s12 := s1.trans s2
  refine ⟨_, rfl, p, xs, rfl, .inr (SqT.of (s2 _ _ hp)), fun pf npf => ?_⟩
  refine er_allS (σ := [some (.int (n : Int)), some (.ref p), none, none, some (.ref pf), none, none]) (H := upd H2 pf (.lst xs)) (ta := tVar 0) (er_var (fun _ _ => rfl) rfl) hw _ (Same.refl _) _ fun v1 H3 s3 r3 => ?_
  obtain ⟨pe, ps, rfl, hpe, relp⟩ := r3
  refine ⟨pe, rfl, ⟨ps, SqL.of hpe⟩, ?_⟩
  have s0 : Same H2 H3 := (same_upd npf).trans s3
  have epf : H3 pf = some (.lst xs) := s3 _ _ upd_same
  have rel3 : Rel SetV H3 xs G := rel.imp fun a v => (Mo.set a).mono v _ _ (s2.trans s0)
  have hne : pe ≠ pf := fun e => by
    rw [e, epf] at hpe
    cases hpe
    have z := rel_fun rel3 relp
    have m := hF.min
    rw [z] at m
    exact all_notmin hw m
  refine for_list (xs := ps) (fun i σ H' => ∃ y5 y6 ys, σ = [some (.int (n : Int)), some (.ref p), none, none, some (.ref pf), y5, y6] ∧ Same H2 H' ∧ H' pe = some (.lst ps) ∧ Rel SetV H' ps (allS n) ∧ H' pf = some (.lst ys) ∧ Rel SetV H' ys (growL G ((allS n).take i)))
    ⟨none, none, xs, rfl, s0, hpe, relp, epf, rel3⟩ (fun i σ H' _ h => ?_) ?_ ?_
  · obtain ⟨_, _, _, _, _, h, _⟩ := h
    exact SqL.of h
  · rintro i xa σ H4 hx ⟨y5, y6, ys, rfl, s4, hpe4, rel4, hpf, rely⟩
    obtain ⟨a, ha, ra⟩ := rel4.get hx
    have ly : (growL G ((allS n).take i)).length ≤ 62 := by
      have := growL_len ((allS n).take i) G
      rw [List.length_take] at this
      omega
    have pl : ∀ g ∈ growL G ((allS n).take i), g.length ≤ 1000 := by
      intro g hg
      rcases growL_of hg with z | z
      · exact Nat.le_trans (Pl.len hw (hF.pl g z).2) (by decide)
      · exact Nat.le_trans (Pl.len hw ((mem_allS hw).mp (List.mem_of_mem_take z)).2) (by decide)
    have y := er_lcL (K := K) (tl := tVar 4) (t := tYes) (te := tCall spMeet [] E0 (tCons (tVar 5) (tCons (tVar 6) tNil)))
        (σ := [some (.int (n : Int)), some (.ref p), none, none, some (.ref pf), some xa, y6]) (H := H4) (j := 6) (ws := [6]) (growL G ((allS n).take i)) (RI := SetV) (RO := fun (c : Bool) v _ => v = .bl c) (fun c => Mo.is _) (fun _ => true) (fun g => meets a g)
        (er_var (fun H5 s5 => FamL.mono s5 ⟨pf, ys, rfl, hpf, rely⟩) rfl) (by omega) (fun _ => rfl) (fun _ _ _ _ _ _ => et_yes) (fun g hg _ xg H5 s5 rg => er_meets (er_var (fun H6 s6 => (Mo.set a).mono _ _ _ (s5.trans s6) ra) rfl) (er_var (fun H6 s6 => (Mo.set g).mono _ _ _ s6 rg) rfl) (pl g hg))
    rw [filter_yes] at y
    refine (et_B (er_all (K := K) y (b := (growL G ((allS n).take i)).all fun g => meets a g) (by rw [List.all_map]; rfl))) H4 (Same.refl H4) _ fun H5 s5 => ?_
    have hpf5 := s5 _ _ hpf
    have tk := growL_take (F := G) ha
    unfold grow1 at tk
    cases hb : (growL G ((allS n).take i)).all fun g => meets a g with
    | true =>
      rw [hb, if_pos rfl] at tk
      refine iteT ⟨.ref pf, rfl, .inl ⟨rfl, _, .inl (.inl hpf5)⟩, xa, rfl, pf, ys, xa, rfl, rfl, hpf5, small1000 (by rw [rely.len]; omega), ?_⟩
      refine ⟨some xa, y6, ys ++ [xa], rfl, same_mut (s4.trans s5) npf, ?_, ?_, upd_same, ?_⟩
      · rw [upd_ne hne]
        exact s5 _ _ hpe4
      · exact rel4.imp fun b v r => (Mo.set b).lst v H5 pf ys _ hpf5 ((Mo.set b).mono _ _ _ s5 r)
      · rw [tk]
        refine Rel.app (rely.imp fun b v r => (Mo.set b).lst v H5 pf ys _ hpf5 ((Mo.set b).mono _ _ _ s5 r)) ?_
        exact .cons ((Mo.set a).lst _ H5 pf ys _ hpf5 ((Mo.set a).mono _ _ _ s5 ra)) .nil
    | false =>
      rw [hb, if_neg Bool.false_ne_true] at tk
      refine iteF ⟨some xa, y6, ys, rfl, s4.trans s5, s5 _ _ hpe4, rel4.imp fun b v r => (Mo.set b).mono _ _ _ s5 r, hpf5, ?_⟩
      rw [tk]
      exact rely.imp fun b v r => (Mo.set b).mono _ _ _ s5 r
  · rintro σ H4 ⟨y5, y6, ys, rfl, s4, hpe4, rel4, hpf, rely⟩
    rw [rel4.len, List.take_length] at rely
    have lg := growL_len (allS n) G
    refine q_ret (R := FamT (compS n G)) (er_leastF (er_var (R := fun v H => FamL _ v H ∨ FamT _ v H) (fun H5 s5 => .inl (FamL.mono s5 ⟨pf, ys, rfl, hpf, rely⟩)) rfl) (by omega) fun a ha => ?_) fun v H5 s5 r => qy hm v H5 ((s12.trans s4).trans s5) r
    have z := grow_pl hw hF ha
    exact ⟨z.1, Nat.le_trans (Pl.len hw z.2) (by decide)⟩
theorem ok_law_completed (EX : Ex K mg "InvalidOperation" C0) (Dcompleted : ClX P w K mg base 7 "completed" (spComp C0)) (F : Fun K "_law_completed" "_law_completed" s_law_completed f fd) : FnOk P w K mg base CX0 8 f fd ["width", "family"] spLawComp := by
  refine F.ok sc_law_completed (fun vs H Q E h => ?_) (fun cdv A outer s H vs Q E hr h => ?_)
  · obtain ⟨n, x, G, rfl, _⟩ := h
    rfl
  obtain ⟨n, x, G, rfl, hw, hG, hF, q⟩ := h
  refine ⟨_, (pss_one (ps_try_only rfl rfl ⟨rfl, by decide, .inl EX.gP⟩ takes0 (fun W pn xe tk _ => 
      (pss_one (ps_ret (pe_cX tk Dcompleted hr (by decide) rfl (pa_cons (pv 0) (pa_cons (pv 1) pa_nil)))))) (fun a oe cls d pn _ _ => 
      (pss_one (ps_ret pe_non))))), ?_⟩
  refine ⟨_, rfl, _, rfl, n, x, G, rfl, hw, hG, hF, fun hm v H' s r => ?_, fun hm H' s => ?_⟩
  · refine q v H' s ?_
    unfold OptR
    rw [if_pos hm]
    exact r
  · refine ⟨true, EX.eP, fun _ a ha => ?_, fun z => Bool.noConfusion z⟩
    refine q .non H' s ?_
    unfold OptR
    rw [hm, if_neg Bool.false_ne_true]
theorem seq_nat {k n : Nat} (h : k < n) : seqIndex? (k : Int) n = some k := by
  have h1 : ¬ ((k : Int) < 0) := by omega
  show (if (decide (0 ≤ (if (k : Int) < 0 then (k : Int) + (n : Int) else k)) && decide ((if (k : Int) < 0 then (k : Int) + (n : Int) else k) < (n : Int))) = true then some (if (k : Int) < 0 then (k : Int) + (n : Int) else k).toNat else none) = some k
  rw [if_neg h1, decide_eq_true (by omega), decide_eq_true (by omega)]
  rfl
theorem er_map (l : LI) (k : Nat) : (l.map V.int).eraseIdx k = (l.eraseIdx k).map V.int := by
  induction l generalizing k with
  | nil => rfl
  | cons x l ih => cases k with
    | zero => rfl
    | succ k =>
      show V.int x :: (l.map V.int).eraseIdx k = V.int x :: (l.eraseIdx k).map V.int
      rw [ih]
theorem erase_perm {l : LI} {k : Nat} (h : k < l.length) : ([l[k]] ++ l.eraseIdx k).Perm l := by
  induction l generalizing k with
  | nil => cases h
  | cons x l ih => cases k with
    | zero => exact List.Perm.refl _
    | succ k =>
      have z := ih (k := k) (Nat.lt_of_succ_lt_succ h)
      exact (List.Perm.swap _ _ _).trans (z.cons x)
theorem ok_law_mixed (B : Bn mg) (D_law_roll : Cl P w K mg base 1 "_law_roll" spRoll) (F : Fun K "_law_mixed" "_law_mixed" s_law_mixed f fd) : FnOk P w K mg base CX0 2 f fd ["dice", "items"] spMixed := by
  refine F.ok sc_law_mixed (fun vs H Q E h => ?_) (fun cdv A outer s H vs Q E hr h => ?_)
  · obtain ⟨p, l, a, rfl, _⟩ := h
    rfl
  obtain ⟨p, l, a, rfl, d0, hl, nl, hz, q⟩ := h
  refine ⟨_, (pss_cons (ps_par (i := 2) (j := 3) rfl sc_law_mixed.nd rfl rfl (by decide) rfl rfl (pa_cons (pe_callTy (call_listK (K := K) rfl) rfl B.list (by decide +kernel) (pa_cons (pv 1) pa_nil)) (pa_cons (pe_lst pa_nil) pa_nil)) rfl)
    (pss_cons (ps_for PassesOwn.never rfl (pi_range1 rfl B.range (pa_cons (pe_callB (call_lenK (K := K) rfl) rfl B.len (by decide +kernel) (pa_cons (pv 1) pa_nil)) pa_nil)) (pg_name (i := 4) sc_law_mixed.nd rfl (Or.inl rfl)) 
      (pss_one (ps_expr (pe_bm PySem.F.plainAttrs_list PySem.F.slot_list_append PySem.F.type_list_append mt_append (pv 3) (pa_cons (pe_bm PySem.F.plainAttrs_list PySem.F.slot_list_pop PySem.F.type_list_pop mt_popAt (pv 2) (pa_cons (pe_c D_law_roll hr (by decide) rfl (pa_cons (pv 0) (pa_cons (pe_callB (call_lenK (K := K) rfl) rfl B.len (by decide +kernel) (pa_cons (pv 2) pa_nil)) pa_nil))) pa_nil)) pa_nil)))))
    (pss_one (ps_ret (pv 3))))), ?_⟩
  refine ⟨_, rfl, l, _, rfl, .inl (SqL.of hl), fun pl npl => ?_⟩
  refine ⟨(by show 0 ≤ sizeLine; decide), fun pf npf => ?_⟩
  refine ⟨.ref pl, .ref pf, rfl, ?_⟩
  have n1 : pl ≠ p := d0.ne npl
  have r1 : Roll p H (upd H pl (.lst (a.map V.int))) := Roll.new d0 npl
  have n2 : pf ≠ p := r1.1.ne npf
  have r2 : Roll p H (upd (upd H pl (.lst (a.map V.int))) pf (.lst [])) := r1.trans (Roll.new r1.1 npf)
  have n3 : pf ≠ pl := fun e => by
    rw [e, upd_same] at npf
    cases npf
  have npf0 : H pf = none := by rw [upd_ne n3] at npf; exact npf
  have hpl0 : (upd (upd H pl (.lst (a.map V.int))) pf (.lst [])) pl = some (.lst (a.map V.int)) := by rw [upd_ne (Ne.symm n3)]; exact upd_same
  have hl0 : (upd (upd H pl (.lst (a.map V.int))) pf (.lst [])) l = some (.lst (a.map V.int)) := r2.2 _ _ nl hl
  refine ⟨_, rfl, l, _, rfl, .inl (SqL.of hl0), _, rfl, by rw [List.length_map]; omega, by rw [List.length_map]; omega, ?_⟩
  rw [List.length_map, show ((a.length : Int)).toNat = a.length from Int.toNat_natCast _]
  refine for_range (lo := 0) (fun i σ H' => ∃ y4 rest done, σ = [some (.ref p), some (.ref l), some (.ref pl), some (.ref pf), y4] ∧ Roll p H H' ∧ H' pl = some (.lst (rest.map V.int)) ∧ H' pf = some (.lst (done.map V.int)) ∧ (done ++ rest).Perm a ∧ done.length = i)
    ⟨none, a, [], rfl, r2, hpl0, upd_same, by exact List.Perm.refl _, rfl⟩ ?_ ?_
  · rintro i σ H1 hi ⟨y4, rest, done, rfl, rr, hpl, hpf, pm, ld⟩
    have lr : done.length + rest.length = a.length := by rw [← pm.length_eq, List.length_append]
    have h1 := hpl
    refine ⟨.ref pf, rfl, .inl ⟨rfl, _, .inl (.inl hpf)⟩, .ref pl, rfl, .inl ⟨rfl, _, .inl (.inl hpl)⟩, _, rfl, _, rfl, pl, _, rfl, .inl (SqL.of hpl), p, _, rfl, rr.1, ?_, ?_, fun r H2 r0 r1 hR => ?_⟩
    · rw [List.length_map]
      omega
    · rw [List.length_map]
      exact Nat.lt_of_lt_of_le (show ((rest.length : Int)).natAbs < 2 ^ 10 by omega) (Nat.pow_le_pow_right (by decide) (by decide))
    · rw [List.length_map] at r1
      obtain ⟨k, rfl, hk⟩ := pick_le r0 r1
      have e2 := hR.2 _ _ n1 hpl
      have e3 := hR.2 _ _ n2 hpf
      have hk2 : (rest.map V.int)[k]? = some (V.int rest[k]) := by rw [List.getElem?_map, List.getElem?_eq_getElem hk]; rfl
      refine ⟨pl, _, (k : Int), k, V.int rest[k], rfl, rfl, e2, by omega, by omega, ?_, hk2, ?_⟩
      · rw [List.length_map]
        exact seq_nat hk
      · have e4 : (upd H2 pl (.lst ((rest.map V.int).eraseIdx k))) pf = some (.lst (done.map V.int)) := by rw [upd_ne n3]; exact e3
        refine ⟨pf, _, _, rfl, rfl, e4, small1000 (by rw [List.length_map]; omega), ?_⟩
        refine ⟨_, rest.eraseIdx k, done ++ [rest[k]], rfl, ((rr.trans hR).mut npl n1).mut npf0 n2, ?_, ?_, ?_, by rw [List.length_append, ld]; rfl⟩
        · rw [upd_ne (Ne.symm n3), upd_same, er_map]
        · rw [upd_same, List.map_append]
          rfl
        · refine List.Perm.trans ?_ pm
          rw [List.append_assoc]
          exact List.Perm.append_left _ (erase_perm hk)
  · rintro σ H1 ⟨y4, rest, done, rfl, rr, hpl, hpf, pm, ld⟩
    have lr : done.length + rest.length = a.length := by rw [← pm.length_eq, List.length_append]
    have e : rest = [] := List.eq_nil_of_length_eq_zero (by omega)
    subst e
    rw [List.append_nil] at pm
    exact ⟨_, rfl, q _ H1 done pm rr ⟨pf, _, rfl, hpf, Rel.mk_map fun _ _ => rfl⟩⟩
theorem ok_law_does_meet (B : Bn mg) (F : Fun K "_law_does_meet" "_law_does_meet" s_law_does_meet f fd) : FnOk P w K mg base CX0 1 f fd ["family"] spDoesMeet := by
  refine F.ok sc_law_does_meet (fun vs H Q E h => ?_) (fun cdv A outer s H vs Q E hr h => ?_)
  · obtain ⟨n, x, G, rfl, _⟩ := h
    rfl
  obtain ⟨n, x, G, rfl, hw, hG, hF, q⟩ := h
  refine ⟨_, (pss_cons (ps_for PassesOwn.never rfl (pi_tupK (K := K) rfl (pv 0)) (pg_name (i := 1) sc_law_does_meet.nd rfl (Or.inr rfl)) 
      (pss_one (ps_if (pt_cmpR (op_neK (K := K) rfl hr.units) (pe_lc (own := [("other", 2)]) (g := (gName 2)) (tt := _) rfl sc_law_does_meet.nd (pi_tupK (K := K) rfl (pv 0)) (blkOk_by (N := N_law_does_meet) (sc := defScope s_law_does_meet) (by decide +kernel)) (fun _ _ _ _ _ => pg_name (i := 2) sc_law_does_meet.nd rfl (Or.inr rfl)) (fun _ _ _ _ _ => (pts_one (pt_cmpR (op_eqK (K := K) rfl hr.units) (pe_lc (own := [("place", 3)]) (g := (gName 3)) (tt := _) rfl sc_law_does_meet.nd (pi_tupK (K := K) rfl (pv 1)) (blkOk_by (N := N_law_does_meet) (sc := scK22) (by decide +kernel)) (fun _ _ _ _ _ => pg_name (i := 3) sc_law_does_meet.nd rfl (Or.inl rfl)) (fun _ _ _ _ _ => (pts_one (pt_cmpR (op_inK (K := K) rfl) (pv 3) (pv 2) rfl))) (fun _ _ _ _ _ => (pv 3))) (pe_lst pa_nil) (nomark _)))) (fun _ _ _ _ _ => (pv 2))) (pe_lst pa_nil) (nomark _)) 
        (pss_one (ps_ret pe_bl)) pss_nil)))
    (pss_one (ps_ret pe_bl))), ?_⟩
  have l31 := hF.len hw
  have vG : ∀ {σ : L2.St} {H1 : Hp}, Same H H1 → σ[0]? = some (some x) → Er (tVar 0) σ H1 (FamT G) := fun s1 e => er_var (fun H2 s2 => (Mo.fam G).mono _ _ _ (s1.trans s2) hG) e
  obtain ⟨p, xs, rfl, hp, rel⟩ := id hG
  refine ⟨_, rfl, p, rfl, ⟨xs, SqT.of hp⟩, ?_⟩
  refine for_tup (xs := xs) (fun i σ H' => ∃ y1 y2 y3, σ = [some (.ref p), y1, y2, y3] ∧ Same H H' ∧ ∀ a ∈ G.take i, ∀ b ∈ G, meets a b = true) ⟨none, none, none, rfl, Same.refl H, fun a ha => by cases ha⟩ (fun i σ H' _ h => ?_) ?_ ?_
  · obtain ⟨_, _, _, _, h, _⟩ := h
    exact SqT.of (h _ _ hp)
  · rintro i xa σ H1 hx ⟨y1, y2, y3, rfl, s1, hall⟩
    obtain ⟨a, ha, ra0⟩ := rel.get hx
    have ra := (Mo.set a).mono _ _ _ s1 ra0
    have y := er_lcT (K := K) (tl := tVar 0) (t := tTest (tOp (rEqD K) (tLc (iTup K (tVar 1)) (gName 3) (tTest (tOp (rIn K false) (tVar 3) (tVar 2))) (tVar 3) [3]) (tLst tNil))) (te := tVar 2)
        (σ := [some (.ref p), some xa, y2, y3]) (H := H1) (j := 2) (ws := [2]) G (RI := SetV) (RO := SetV) Mo.set (fun b => !meets b a) (fun b => b)
        (vG s1 rfl) (by omega) (fun _ => rfl) (fun b hb xb H3 s3 rb => ?_) (fun b hb _ xb H3 s3 rb => er_var (fun H4 s4 => (Mo.set b).mono _ _ _ s4 rb) rfl)
    · rw [List.map_id'] at y
      have e : (!decide ((G.filter fun b => !meets b a) = [])) = !G.all fun b => meets a b := by
        congr 1
        have z := all_filter G a
        rw [← z]
        congr 2
        exact List.filter_congr fun b _ => by rw [meets_comm]
      refine (et_test (Er.bl (er_neNilF (K := K) y) e)) H1 (Same.refl H1) _ fun H2 s2 => ?_
      cases hb : G.all fun b => meets a b with
      | true =>
        refine iteF ⟨_, _, _, rfl, s1.trans s2, fun c hc b hbG => ?_⟩
        rw [List.take_add_one, ha] at hc
        rcases List.mem_append.mp hc with z | z
        · exact hall c z b hbG
        · have z : c = a := by simpa using z
          rw [z]
          exact List.all_eq_true.mp hb b hbG
      | false =>
        refine iteT ?_
        have e : mtB G = false := by
          cases c : mtB G with
          | false => rfl
          | true =>
            have z := List.all_eq_true.mp c a (List.mem_of_getElem? ha)
            rw [z] at hb
            cases hb
        have z := q H2 (s1.trans s2)
        rw [e] at z
        exact z
    · have u := er_lcT (K := K) (tl := tVar 1) (t := tTest (tOp (rIn K false) (tVar 3) (tVar 2))) (te := tVar 3)
          (σ := [some (.ref p), some xa, some xb, y3]) (H := H3) (j := 3) (ws := [3]) a (RI := fun p v _ => v = .int p) (RO := fun (p : Int) v _ => v = .int p) (fun c => Mo.is _) (fun p => decide (p ∈ b)) (fun p => p)
          (er_var (fun H4 s4 => setTup ((Mo.set a).mono _ _ _ (s3.trans s4) ra)) rfl) (Nat.le_trans (Pl.len hw (hF.pl a (List.mem_of_getElem? ha)).2) (by decide)) (fun _ => rfl) (fun p hp x' H4 s4 e => ?_) (fun p hp _ x' H4 s4 e => ?_)
      · rw [List.map_id'] at u
        exact et_test (Er.bl (er_eqNilI (K := K) u) (meets_filter b a))
      · subst e
        exact et_test (er_in (A := b) (er_var (R := Is (.int p)) (fun _ _ => rfl) rfl) (er_var (fun H5 s5 => (Mo.set b).mono _ _ _ (s4.trans s5) rb) rfl))
      · subst e
        exact er_var (fun _ _ => rfl) rfl
  · rintro σ H1 ⟨y1, y2, y3, rfl, s1, hall⟩
    rw [rel.len, List.take_length] at hall
    have e : mtB G = true := mtB_iff.mpr hall
    have z := q H1 s1
    rw [e] at z
    exact z
theorem ok_law_is_whole (Dis_family : Cl P w K mg base 5 "is_family" spIsFam) (Dblocks_of : Cl P w K mg base 7 "blocks_of" spBlocks) (Dis_held : Cl P w K mg base 7 "is_held" spHeld) (F : Fun K "_law_is_whole" "_law_is_whole" s_law_is_whole f fd) : FnOk P w K mg base CX0 8 f fd ["width", "told", "family"] spWhole := by
  refine F.ok sc_law_is_whole (fun vs H Q E h => ?_) (fun cdv A outer s H vs Q E hr h => ?_)
  · obtain ⟨n, x, y, F, G, rfl, _⟩ := h
    rfl
  obtain ⟨n, x, y, F, G, rfl, hw, rF, hF, rG, hG, e, al, q⟩ := h
  refine ⟨_, (pss_cons (ps_if (PW.pt (pw_or (pt_not (pt_val (pe_c Dis_family hr (by decide) rfl (pa_cons (pv 0) (pa_cons (pv 1) pa_nil))))) (pw_or1 (pt_cmpR (op_neK (K := K) rfl hr.units) (pe_c Dblocks_of hr (by decide) rfl (pa_cons (pv 0) (pa_cons (pv 1) pa_nil))) (pv 1) (nomark _))))) 
      (pss_one (ps_ret pe_bl)) pss_nil)
    (pss_one (ps_ret (pe_cmpR (op_eqK (K := K) rfl hr.units) (pe_lc (own := [("one", 3)]) (g := (gName 3)) (tt := _) rfl sc_law_is_whole.nd (pi_tupK (K := K) rfl (pv 2)) (blkOk_by (N := N_law_is_whole) (sc := defScope s_law_is_whole) (by decide +kernel)) (fun _ _ _ _ _ => pg_name (i := 3) sc_law_is_whole.nd rfl (Or.inl rfl)) (fun _ _ _ _ _ => (pts_one (pt_not (pt_val (pe_c Dis_held hr (by decide) rfl (pa_cons (pv 0) (pa_cons (pv 1) (pa_cons (pv 3) pa_nil)))))))) (fun _ _ _ _ _ => (pv 3))) (pe_lst pa_nil) (nomark _))))), ?_⟩
  have vF : ∀ {σ : L2.St} {H1 : Hp}, Same H H1 → σ[1]? = some (some x) → Er (tVar 1) σ H1 (FamT F) := fun s1 e => er_var (fun H2 s2 => (Mo.fam F).mono _ _ _ (s1.trans s2) rF) e
  have vG : ∀ {σ : L2.St} {H1 : Hp}, Same H H1 → σ[2]? = some (some y) → Er (tVar 2) σ H1 (FamT G) := fun s1 e => er_var (fun H2 s2 => (Mo.fam G).mono _ _ _ (s1.trans s2) rG) e
  have vn : ∀ {σ : L2.St} {H1 : Hp}, σ[0]? = some (some (.int (n : Int))) → Er (tVar 0) σ H1 (Is (.int (n : Int))) := fun e => er_var (fun _ _ => rfl) e
  have l2 := hG.len hw
  refine q_skip (Et.bl (et_or (et_not (b := true) (et_B (er_isFam (vn rfl) (vF (Same.refl H) rfl) hw hF))) fun _ => et_test (er_neFam (K := K) (er_blocks (vn rfl) (vF (Same.refl H) rfl) hw hF) (vF (Same.refl H) rfl))) (by rw [e]; simp)) fun H1 s1 => ?_
  have z := er_lcT (K := K) (tl := tVar 2) (t := tNot (tB (tCall spHeld [] E0 (tCons (tVar 0) (tCons (tVar 1) (tCons (tVar 3) tNil)))))) (te := tVar 3) (σ := [some (.int (n : Int)), some x, some y, none]) (H := H1) (j := 3) (ws := [3]) G
      (RI := SetV) (RO := SetV) Mo.set (fun g => !has F g) (fun g => g) (vG s1 rfl) (by omega) (fun _ => rfl)
      (fun g hg xg H2 s2 rg => et_not (et_B (er_held (vn rfl) (vF (s1.trans s2) rfl) (er_var (fun H3 s3 => (Mo.set g).mono _ _ _ s3 rg) rfl) hw hF (hG.pl g hg).2)))
      (fun g hg _ xg H2 s2 rg => er_var (fun H3 s3 => (Mo.set g).mono _ _ _ s3 rg) rfl)
  rw [List.map_id'] at z
  refine q_ret (Er.bl (er_eqNilF (K := K) z) (b := true) (decide_eq_true (List.filter_eq_nil_iff.mpr fun g hg => by rw [al g hg]; simp))) fun v H2 s2 r => ?_
  cases (show v = _ from r)
  exact q H2 (s1.trans s2)
theorem ok_law_right (B : Bn mg) (D_law_some_family : Cl P w K mg base 3 "_law_some_family" spSomeFam) (D_law_roll : Cl P w K mg base 1 "_law_roll" spRoll) (D_law_least_sets : Cl P w K mg base 2 "_law_least_sets" spLawMin) (D_law_completed : Cl P w K mg base 8 "_law_completed" spLawComp) (D_law_does_meet : Cl P w K mg base 1 "_law_does_meet" spDoesMeet)
    (D_law_is_whole : Cl P w K mg base 8 "_law_is_whole" spWhole) (Dcompleted : ClX P w K mg base 7 "completed" (spComp C0)) (D_law_mixed : Cl P w K mg base 2 "_law_mixed" spMixed) (Dplaced : Cl P w K mg base 7 "placed" spPlaced) (Dblocks_of : Cl P w K mg base 7 "blocks_of" spBlocks)
    (F : Fun K "_law_right" "_law_right" s_law_right f fd) : FnG P w K mg base CX0 9 f fd ["dice", "width"] spRight := by
  refine okG0 F sc_law_right (fun vs H Q E h => ?_) (fun cdv A outer s H vs Q E gd hr h => ?_)
  · obtain ⟨p, n, rfl, _⟩ := h
    rfl
  obtain ⟨p, n, rfl, hw, d0, q⟩ := h
  refine ⟨_, (pss_cons (ps_set (i := 2) sc_law_right.nd rfl (Or.inl rfl) (pe_c D_law_some_family hr (by decide) rfl (pa_cons (pv 0) (pa_cons (pv 1) pa_nil))))
    (pss_cons (ps_if (pt_cmpR op_eq (pe_c D_law_roll hr (by decide) rfl (pa_cons (pv 0) (pa_cons pe_int pa_nil))) pe_int (nomark _)) 
      (pss_cons (ps_set (i := 3) sc_law_right.nd rfl (Or.inr rfl) (pe_c D_law_roll hr (by decide) rfl (pa_cons (pv 0) (pa_cons (pv 1) pa_nil))))
      (pss_one (ps_set (i := 2) sc_law_right.nd rfl (Or.inl rfl) (pe_c D_law_least_sets hr (by decide) rfl (pa_cons (pe_lc (own := [("one", 4)]) (g := (gName 4)) (tt := tYes) rfl sc_law_right.nd (pi_tupK (K := K) rfl (pv 2)) (blkOk_by (N := N_law_right) (sc := defScope s_law_right) (by decide +kernel)) (fun _ _ _ _ _ => pg_name (i := 4) sc_law_right.nd rfl (Or.inl rfl)) (fun _ _ _ _ _ => pts_nil) (fun _ _ _ _ _ => (pe_callTy (call_tupK (K := K) rfl) rfl B.tuple (by decide +kernel) (pa_cons (pe_callB (cr_sortedSetK (w := w) rfl rfl) rfl B.sorted (by decide +kernel) (pa_cons (pe_callTy (cr_setIK (K := K) (w := w) rfl rfl rfl) rfl B.set (by decide +kernel) (pa_cons (pe_op (op_catAK (K := K) rfl) (pv 4) (pe_tup (pa_cons (pv 3) pa_nil))) pa_nil)) pa_nil)) pa_nil)))) pa_nil))))) pss_nil)
    (pss_cons (ps_set (i := 5) sc_law_right.nd rfl (Or.inl rfl) (pe_c D_law_completed hr (by decide) rfl (pa_cons (pv 1) (pa_cons (pv 2) pa_nil))))
    (pss_cons (ps_if (PW.pt (pw_or (pt_cmpR (op_eqK (K := K) rfl hr.units) (pe_cmpR op_isN (pv 5) pe_non (nomark _)) (pe_c D_law_does_meet hr (by decide) rfl (pa_cons (pv 2) pa_nil)) (nomark _)) (pw_or1 (PW.pt (pw_and (pt_cmpR op_notN (pv 5) pe_non (nomark _)) (pw_and1 (pt_not (pt_val (pe_c D_law_is_whole hr (by decide) rfl (pa_cons (pv 1) (pa_cons (pv 5) (pa_cons (pv 2) pa_nil)))))))))))) 
      (pss_one (ps_ret pe_bl)) pss_nil)
    (pss_cons (ps_if (PW.pt (pw_and (pt_cmpR op_notN (pv 5) pe_non (nomark _)) (pw_and1 (pt_cmpR (op_neK (K := K) rfl hr.units) (pe_cN Dcompleted hr (by decide) rfl (pa_cons (pv 1) (pa_cons (pv 5) pa_nil))) (pv 5) (nomark _))))) 
      (pss_one (ps_ret pe_bl)) pss_nil)
    (pss_cons (ps_set (i := 6) sc_law_right.nd rfl (Or.inr rfl) (pe_callTy (cr_tupFK (K := K) rfl) rfl B.tuple (by decide +kernel) (pa_cons (pe_c D_law_mixed hr (by decide) rfl (pa_cons (pv 0) (pa_cons (pe_callTy (cr_listR rfl) rfl B.list (by decide +kernel) (pa_cons (pe_callTy cr_range1 rfl B.range (by decide +kernel) (pa_cons (pv 1) pa_nil)) pa_nil)) pa_nil))) pa_nil)))
    (pss_cons (ps_set (i := 7) sc_law_right.nd rfl (Or.inl rfl) (pe_c Dplaced hr (by decide) rfl (pa_cons (pv 1) (pa_cons (pv 2) (pa_cons (pv 6) pa_nil)))))
    (pss_cons (ps_set (i := 8) sc_law_right.nd rfl (Or.inl rfl) (pe_callTy (call_tupK (K := K) rfl) rfl B.tuple (by decide +kernel) (pa_cons (pe_callB (cr_sortedTK (K := K) rfl) rfl B.sorted (by decide +kernel) (pa_cons (pe_lc (own := [("one", 4)]) (g := (gName 4)) (tt := tYes) rfl sc_law_right.nd (pi_tupK (K := K) rfl (pv 2)) (blkOk_by (N := N_law_right) (sc := defScope s_law_right) (by decide +kernel)) (fun _ _ _ _ _ => pg_name (i := 4) sc_law_right.nd rfl (Or.inl rfl)) (fun _ _ _ _ _ => pts_nil) (fun _ _ _ _ _ => (pe_callTy (call_tupK (K := K) rfl) rfl B.tuple (by decide +kernel) (pa_cons (pe_callB (cr_sortedIK (K := K) rfl) rfl B.sorted (by decide +kernel) (pa_cons (pe_lc (own := [("place", 3)]) (g := (gName 3)) (tt := tYes) rfl sc_law_right.nd (pi_tupK (K := K) rfl (pv 4)) (blkOk_by (N := N_law_right) (sc := scK26) (by decide +kernel)) (fun _ _ _ _ _ => pg_name (i := 3) sc_law_right.nd rfl (Or.inl rfl)) (fun _ _ _ _ _ => pts_nil) (fun _ _ _ _ _ => (pe_ix (ix_tupK (K := K) rfl) (pv 6) (pv 3) (fun _ _ => rfl)))) pa_nil)) pa_nil)))) pa_nil)) pa_nil)))
    (pss_cons (ps_set (i := 9) sc_law_right.nd rfl (Or.inl rfl) (pe_callTy (call_tupK (K := K) rfl) rfl B.tuple (by decide +kernel) (pa_cons (pe_lc (own := [("place", 3)]) (g := (gName 3)) (tt := tYes) rfl sc_law_right.nd (pi_range1 rfl B.range (pa_cons (pv 1) pa_nil)) (blkOk_by (N := N_law_right) (sc := defScope s_law_right) (by decide +kernel)) (fun _ _ _ _ _ => pg_name (i := 3) sc_law_right.nd rfl (Or.inl rfl)) (fun _ _ _ _ _ => pts_nil) (fun _ _ _ _ _ => (pe_bmT PySem.F.plainAttrs_tuple PySem.F.slot_tuple_index PySem.F.type_tuple_index (mt_tup_indexIK (K := K) rfl) (pv 6) (pa_cons (pv 3) pa_nil)))) pa_nil)))
    (pss_cons (ps_if (PW.pt (pw_or (pt_cmpR op_ne (pe_callB (call_reprD gd hr.units) rfl B.repr (by decide +kernel) (pa_cons (pv 7) pa_nil)) (pe_callB (call_reprD gd hr.units) rfl B.repr (by decide +kernel) (pa_cons (pv 8) pa_nil)) (nomark _)) (pw_or1 (pt_cmpR (op_neK (K := K) rfl hr.units) (pe_c Dplaced hr (by decide) rfl (pa_cons (pv 1) (pa_cons (pv 7) (pa_cons (pv 9) pa_nil)))) (pv 2) (nomark _))))) 
      (pss_one (ps_ret pe_bl)) pss_nil)
    (pss_cons (ps_set (i := 10) sc_law_right.nd rfl (Or.inl rfl) (pe_c D_law_completed hr (by decide) rfl (pa_cons (pv 1) (pa_cons (pv 7) pa_nil))))
    (pss_cons (ps_if (PW.pt (pw_or (pt_cmpR (op_neK (K := K) rfl hr.units) (pe_cmpR op_isN (pv 10) pe_non (nomark _)) (pe_cmpR op_isN (pv 5) pe_non (nomark _)) (nomark _)) (pw_or1 (PW.pt (pw_and (pt_cmpR op_notN (pv 10) pe_non (nomark _)) (pw_and1 (pt_not (pt_val (pe_c D_law_is_whole hr (by decide) rfl (pa_cons (pv 1) (pa_cons (pv 10) (pa_cons (pv 7) pa_nil)))))))))))) 
      (pss_one (ps_ret pe_bl)) pss_nil)
    (pss_one (ps_ret (pe_cmpR (op_eqK (K := K) rfl hr.units) (pe_c Dblocks_of hr (by decide) rfl (pa_cons (pv 1) (pa_cons (pv 7) pa_nil))) (pe_c Dplaced hr (by decide) rfl (pa_cons (pv 1) (pa_cons (pe_c Dblocks_of hr (by decide) rfl (pa_cons (pv 1) (pa_cons (pv 2) pa_nil))) (pa_cons (pv 6) pa_nil)))) (nomark _)))))))))))))))), ?_⟩
  have n5 : n ≤ 5 := by rcases hw with rfl | rfl | rfl | rfl <;> decide
  have n2 : 2 ≤ n := by rcases hw with rfl | rfl | rfl | rfl <;> decide
  have vn : ∀ {σ : L2.St} {H1 : Hp}, σ[1]? = some (some (.int (n : Int))) → Er (tVar 1) σ H1 (Is (.int (n : Int))) := fun e => er_var (fun _ _ => rfl) e
  refine q_asgR ?_
  refine ⟨_, rfl, _, rfl, p, n, rfl, hw, d0, fun v0 H0 G0 hG0 r0 rG0 => ?_⟩
  have l0 := hG0.len hw
  refine q_ifE (fun σ' H' => ∃ y3 v G, σ' = [some (.ref p), some (.int (n : Int)), some v, y3, none, none, none, none, none, none, none] ∧ Fm n G ∧ Roll p H H' ∧ FamT G v H') ?_ ?_
  rotate_left
  · intro nx hnx
    refine ⟨_, rfl, p, 2, rfl, r0.1, by decide, Nat.lt_of_lt_of_le (show ((2 : Int)).natAbs < 2 ^ 10 by decide) (Nat.pow_le_pow_right (by decide) (by decide)), fun r H1 z0 z1 hR => ?_⟩
    refine ⟨rfl, _, rfl, ite2 (fun c => ?_) (fun c => ?_)⟩
    · refine ⟨_, rfl, _, rfl, p, (n : Int), rfl, hR.1, by omega, Nat.lt_of_lt_of_le (show ((n : Int)).natAbs < 2 ^ 10 by omega) (Nat.pow_le_pow_right (by decide) (by decide)), fun r2 H2 y0 y1 hR2 => ?_⟩
      have rG2 : FamT G0 v0 H2 := FamT.roll hR.1 (FamT.roll r0.1 rG0 hR) hR2
      have z := er_lcT (K := K) (tl := tVar 2) (t := tYes) (te := tCB (rTupOf K) (tCons (tCB (rSortedSet w) (tCons (tCB (rSetI K w) (tCons (tOp (rCatA K) (tVar 4) (tTup (tCons (tVar 3) tNil))) tNil)) tNil)) tNil))
        (σ := [some (.ref p), some (.int (n : Int)), some v0, some (.int r2), none, none, none, none, none, none, none]) (H := H2) (j := 4) (ws := [4]) G0 (RI := SetV) (RO := SetV) Mo.set (fun _ => true) (insS n r2)
        (er_var (fun H3 s3 => (Mo.fam G0).mono _ _ _ s3 rG2) rfl) (by omega) (fun _ => rfl) (fun _ _ _ _ _ _ => et_yes) (fun a ha _ xa H3 s3 ra => ?_)
      · rw [filter_yes] at z
        have okI : ∀ a ∈ G0.map (insS n r2), a ≠ [] ∧ Pl n a := fun b hb => by
          obtain ⟨a, ha, rfl⟩ := List.mem_map.mp hb
          exact ⟨ins_ne (hG0.pl a ha).2 ⟨y0, y1⟩, ins_pl n r2 a⟩
        refine (er_lawMin (G := G0.map (insS n r2)) (z.imp fun _ _ _ r => .inl r) (by rw [List.length_map]; omega) fun b hb => ⟨(okI b hb).1, Nat.le_trans (Pl.len hw (okI b hb).2) (by decide)⟩) H2 (Same.refl H2) _ fun v3 H3 s3 r3 => ?_
        refine hnx _ _ ⟨_, v3, _, rfl, Fm.of (fun e => hG0.ne (List.map_eq_nil_iff.mp e)) okI, ?_, r3⟩
        have all := r0.trans (hR.trans hR2)
        exact all.trans (Roll.of_same all.1 s3)
      · have pa := (hG0.pl a ha).2
        have la := Pl.len hw pa
        exact er_tupInts (K := K) (er_sset (K := K) (er_catSet (K := K) (er_var (fun H4 s4 => (Mo.set a).mono _ _ _ s4 ra) rfl) (er_tup1 (er_var (fun _ _ => rfl) rfl)) (by show a.length + 1 ≤ 1000; omega)) (by rw [List.length_append]; show a.length + 1 < 64; omega) fun ns pw hk => ins_eq pa ⟨y0, y1⟩ pw hk)
    · exact hnx _ _ ⟨_, v0, G0, rfl, hG0, r0.trans hR, FamT.roll r0.1 rG0 hR⟩
  rintro σ' H1 ⟨y3, v, G, rfl, hG, r1, rG⟩
  have l31 := hG.len hw
  have hC := hG.comp hw
  have vG : ∀ {σ : L2.St} {H2 : Hp}, Same H1 H2 → σ[2]? = some (some v) → Er (tVar 2) σ H2 (FamT G) := fun s1 e => er_var (fun H2 s2 => (Mo.fam G).mono _ _ _ (s1.trans s2) rG) e
  -- told
  refine q_set (er_lawComp (vn rfl) (vG (Same.refl H1) rfl) hw hG) fun v5 H2 s2 r5 => ?_
  have v5o : ∀ {σ : L2.St} {H3 : Hp}, Same H2 H3 → σ[5]? = some (some v5) → Er (tVar 5) σ H3 (OptR (mtB G) (FamT (compS n G))) := fun s1 e => er_var (fun H3 s3 => OptR.mono (s1.trans s3) r5) e
  have v5f : ∀ {σ : L2.St} {H3 : Hp}, mtB G = true → Same H2 H3 → σ[5]? = some (some v5) → Er (tVar 5) σ H3 (FamT (compS n G)) := fun hm s1 e => (v5o s1 e).imp fun v H _ r => by
    unfold OptR at r
    rw [if_pos hm] at r
    exact r
  have bl : mtB G = true → blocksS n (compS n G) = compS n G := fun hm => comp_blocks hw hG (mtB_iff.mp hm)
  refine q_skip (Et.bl (et_or (b := false) (et_test (er_eqBD (K := K) (er_isN (v5o (Same.refl H2) rfl) fun v H r => fam_ne r) (er_doesMeet (vG s2 rfl) hw hG))) fun _ =>
    Et.bl (et_and (et_test (er_notN (v5o (Same.refl H2) rfl) fun v H r => fam_ne r)) (b := false) fun hm => et_not (b := true) (et_B (er_whole (vn rfl) (v5f hm (Same.refl H2) rfl) (vG s2 rfl) hw hC hG (bl hm) fun g hg => comp_all hw hG hg))) (by rw [Bool.and_false])) (by cases mtB G <;> rfl)) fun H3 s3 => ?_
  refine q_skip (Et.bl (et_and (et_test (er_notN (v5o s3 rfl) fun v H r => fam_ne r)) (b := false) fun hm => et_test (Er.bl (er_neFam (K := K) (er_compN (vn rfl) (v5f hm s3 rfl) hw hC (mtB_iff.mpr (self_mt hw hC (bl hm)))) (v5f hm s3 rfl)) (by rw [comp_self hw hC (bl hm)]; simp))) (by rw [Bool.and_false])) fun H4 s4 => ?_
  -- turns
  have s14 : Same H1 H4 := s2.trans (s3.trans s4)
  have s24 : Same H2 H4 := s3.trans s4
  have d4 : Dice H4 p := r1.1.same s14
  have hpl : ((List.range n).map fun i : Nat => V.int (i : Int)) = (places n).map V.int := by
    unfold places
    rw [List.map_map]
    rfl
  refine q_asgR ?_
  refine ⟨_, rfl, _, rfl, (n : Int), rfl, fun pr npr => ⟨pr, n, rfl, upd_same, by omega, fun pl npl => ?_⟩⟩
  have s4r : Same H4 (upd H4 pr (.rng 0 (n : Int))) := same_upd npr
  have d4r := d4.same s4r
  have s4l : Same (upd H4 pr (.rng 0 (n : Int))) (upd (upd H4 pr (.rng 0 (n : Int))) pl (.lst ((List.range n).map fun i : Nat => V.int (i : Int)))) := same_upd npl
  have s45 : Same H4 (upd (upd H4 pr (.rng 0 (n : Int))) pl (.lst ((List.range n).map fun i : Nat => V.int (i : Int)))) := s4r.trans s4l
  refine ⟨p, pl, places n, rfl, d4.same s45, by rw [← hpl]; exact upd_same, d4r.ne npl, by rw [places_len]; omega, fun vl H5 T pm r5r rl => ?_⟩
  obtain ⟨pt, ts, rfl, hpt, relt⟩ := rl
  rw [relt.of_map] at hpt
  refine ⟨pt, _, rfl, SqL.of hpt, fun t o nt hod hoc => ?_⟩
  have tp := turns_pm pm
  have lnT : T.length = n := by rw [pm.length_eq, places_len]
  -- the heap with the turns
  have r46 : Roll p H4 (upd H5 t (.frz o (.tup (T.map V.int)))) := ((Roll.of_same d4 s45).trans r5r).trans (Roll.new r5r.1 nt)
  have tT : TF T (.ref t) (upd H5 t (.frz o (.tup (T.map V.int)))) := ⟨t, o, rfl, upd_same, hod, hoc⟩
  generalize upd H5 t (.frz o (.tup (T.map V.int))) = H6 at r46 tT
  have r16 : Roll p H H6 := (r1.trans (Roll.of_same r1.1 s14)).trans r46
  have rG6 : FamT G v H6 := FamT.roll d4 ((Mo.fam G).mono _ _ _ s14 rG) r46
  have r56 : OptR (mtB G) (FamT (compS n G)) v5 H6 := OptR.roll d4 (OptR.mono s24 r5) r46
  have wG : ∀ {σ : L2.St} {H7 : Hp}, Same H6 H7 → σ[2]? = some (some v) → Er (tVar 2) σ H7 (FamT G) := fun s1 e => er_var (fun H2 s2 => (Mo.fam G).mono _ _ _ (s1.trans s2) rG6) e
  have w5 : ∀ {σ : L2.St} {H7 : Hp}, Same H6 H7 → σ[5]? = some (some v5) → Er (tVar 5) σ H7 (OptR (mtB G) (FamT (compS n G))) := fun s1 e => er_var (fun H3 s3 => OptR.mono (s1.trans s3) r56) e
  have wT : ∀ {σ : L2.St} {H7 : Hp}, Same H6 H7 → σ[6]? = some (some (.ref t)) → Er (tVar 6) σ H7 (TV T) := fun s1 e => er_var (fun H3 s3 => (TF.mono _ _ _ (s1.trans s3) tT).tv) e
  have wF : ∀ {σ : L2.St} {H7 : Hp}, Same H6 H7 → σ[6]? = some (some (.ref t)) → Er (tVar 6) σ H7 (TF T) := fun s1 e => er_var (fun H3 s3 => TF.mono _ _ _ (s1.trans s3) tT) e
  have hM := hG.placed tp hw
  have lM := hM.len hw
  -- moved
  refine q_set (er_placed (vn rfl) (wG (Same.refl H6) rfl) (wT (Same.refl H6) rfl) hw hG pm) fun v7 H7 s7 r7 => ?_
  have w7 : ∀ {σ : L2.St} {H8 : Hp}, Same H7 H8 → σ[7]? = some (some v7) → Er (tVar 7) σ H8 (FamT (placedS n (tf T) G)) := fun s1 e => er_var (fun H2 s2 => (Mo.fam _).mono _ _ _ (s1.trans s2) r7) e
  -- due
  have z := er_lcT (K := K) (tl := tVar 2) (t := tYes) (te := tCB (rTupOf K) (tCons (tCB (rSortedI K) (tCons (tLc (iTup K (tVar 4)) (gName 3) tYes (tOp (rIxT K) (tVar 6) (tVar 3)) [3]) tNil)) tNil)) (σ := [some (.ref p), some (.int (n : Int)), some v, y3, none, some v5, some (.ref t), some v7, none, none, none]) (H := H7) (j := 4) (ws := [4]) G
      (RI := SetV) (RO := SetV) Mo.set (fun _ => true) (mvS n (tf T)) (wG s7 rfl) (by omega) (fun _ => rfl) (fun _ _ _ _ _ _ => et_yes) (fun a ha _ xa H8 s8 ra => ?_)
  rotate_left
  · have pa := (hG.pl a ha).2
    have y2 := er_lcT (K := K) (tl := tVar 4) (t := tYes) (te := tOp (rIxT K) (tVar 6) (tVar 3)) (σ := [some (.ref p), some (.int (n : Int)), some v, y3, some xa, some v5, some (.ref t), some v7, none, none, none]) (H := H8) (j := 3) (ws := [3]) a
      (RI := RI) (RO := RI) (fun c => Mo.is _) (fun _ => true) (tf T) (er_var (fun H4 s4 => setTup ((Mo.set a).mono _ _ _ s4 ra)) rfl) (Nat.le_trans (Pl.len hw pa) (by decide)) (fun _ => rfl) (fun _ _ _ _ _ _ => et_yes) (fun p hp _ x' H9 s9 e => ?_)
    · rw [filter_yes] at y2
      exact er_tupInts (K := K) (er_sortedI (K := K) y2 fun ns pn pw => sorted_mv tp pa pn pw)
    · cases (show x' = _ from e)
      have hp2 := pa.2 p hp
      exact er_ixT (K := K) (wT ((s7.trans s8).trans s9) rfl) (er_var (R := Is (.int p)) (fun _ _ => rfl) rfl) hp2.1 (by omega)
  rw [filter_yes] at z
  refine q_set (R := FamT (placedS n (tf T) G)) (er_tupOf (K := K) Mo.set (er_sortedF (K := K) z (mv_nd tp (srt_nd hG.srt) fun a ha => (hG.pl a ha).2) fun b hb => by
    obtain ⟨a, ha, rfl⟩ := List.mem_map.mp hb
    exact mv_ne tp (hG.pl a ha).2 (hG.pl a ha).1)) fun v8 H8 s8 r8 => ?_
  have w8 : ∀ {σ : L2.St} {H9 : Hp}, Same H8 H9 → σ[8]? = some (some v8) → Er (tVar 8) σ H9 (FamT (placedS n (tf T) G)) := fun s1 e => er_var (fun H2 s2 => (Mo.fam _).mono _ _ _ (s1.trans s2) r8) e
  -- back
  have s68 := s7.trans s8
  have z9 := er_lcR (tl := tVar 1) (t := tYes) (te := tBMT (rIndexT K) (tVar 6) (tCons (tVar 3) tNil)) (σ := [some (.ref p), some (.int (n : Int)), some v, y3, none, some v5, some (.ref t), some v7, some v8, none, none]) (H := H8) (j := 3) (ws := [3]) n
      (RO := RI) (fun c => Mo.is _) (fun _ => true) (fun i : Nat => tg T (i : Int)) (vn rfl) (by omega) (fun _ => rfl) (fun _ _ _ _ => et_yes) (fun i hi _ H9 s9 => er_index (K := K) (wF (s68.trans s9) rfl) (er_var (R := Is (.int (i : Int))) (fun _ _ => rfl) rfl) (pm.mem_iff.mpr (mem_places.mpr ⟨by omega, by omega⟩)))
  rw [filter_yes] at z9
  refine q_set (R := SetV (backT n T)) (er_tupInts (K := K) z9) fun v9 H9 s9 r9 => ?_
  have w9 : ∀ {σ : L2.St} {H10 : Hp}, Same H9 H10 → σ[9]? = some (some v9) → Er (tVar 9) σ H10 (TV (backT n T)) := fun s1 e => er_var (fun H2 s2 => TV.of ((Mo.set _).mono _ _ _ (s1.trans s2) r9)) e
  have s79 := s8.trans s9
  have s69 := s7.trans s79
  have bk : placedS n (tf (backT n T)) (placedS n (tf T) G) = G := by
    rw [placed_congr (fun A hA => (hM.pl A hA).2) fun q hq => back_tf hq]
    exact placed_back tp hw hG
  refine q_skip (Et.bl (et_or (et_test (er_neStr (er_reprF (K := K) (w7 s79 rfl) hw (by omega) fun a ha => (hM.pl a ha).2) (er_reprF (K := K) (w8 s9 rfl) hw (by omega) fun a ha => (hM.pl a ha).2))) fun _ => et_test (er_neFam (K := K) (er_placed (vn rfl) (w7 s79 rfl) (w9 (Same.refl H9) rfl) hw hM (back_perm pm)) (wG s69 rfl))) (by rw [bk]; simp)) fun H10 s10 => ?_
  -- other
  have s710 := s79.trans s10
  have s610 := s69.trans s10
  refine q_set (er_lawComp (vn rfl) (w7 s710 rfl) hw hM) fun v10 H11 s11 r10 => ?_
  have em : mtB (placedS n (tf T) G) = mtB G := placed_mt tp hw hG
  rw [em] at r10
  have hO := hM.comp hw
  have w10 : ∀ {σ : L2.St} {H12 : Hp}, Same H11 H12 → σ[10]? = some (some v10) → Er (tVar 10) σ H12 (OptR (mtB G) (FamT (compS n (placedS n (tf T) G)))) := fun s1 e => er_var (fun H3 s3 => OptR.mono (s1.trans s3) r10) e
  have w10f : ∀ {σ : L2.St} {H12 : Hp}, mtB G = true → Same H11 H12 → σ[10]? = some (some v10) → Er (tVar 10) σ H12 (FamT (compS n (placedS n (tf T) G))) := fun hm s1 e => (w10 s1 e).imp fun v H _ r => by
    unfold OptR at r
    rw [if_pos hm] at r
    exact r
  have s711 := s710.trans s11
  have s611 := s610.trans s11
  refine q_skip (Et.bl (et_or (b := false) (et_test (er_neBD (K := K) (er_isN (w10 (Same.refl H11) rfl) fun v H r => fam_ne r) (er_isN (w5 s611 rfl) fun v H r => fam_ne r))) fun _ =>
    Et.bl (et_and (et_test (er_notN (w10 (Same.refl H11) rfl) fun v H r => fam_ne r)) (b := false) fun hm => et_not (b := true) (et_B (er_whole (vn rfl) (w10f hm (Same.refl H11) rfl) (w7 s711 rfl) hw hO hM (comp_blocks hw hM (mtB_iff.mp (em.trans hm))) fun g hg => comp_all hw hM hg))) (by rw [Bool.and_false])) (by simp)) fun H12 s12 => ?_
  have s612 := s611.trans s12
  have s712 := s711.trans s12
  refine q_ret (Er.bl (er_eqFam (K := K) (er_blocks (vn rfl) (w7 s712 rfl) hw hM) (er_placed (vn rfl) (er_blocks (vn rfl) (wG s612 rfl) hw hG) (wT s612 rfl) hw (hG.blocks hw) pm)) (b := true) (by rw [placed_blocks tp hw hG]; simp)) fun v13 H13 s13 r13 => ?_
  cases (show v13 = _ from r13)
  exact q H13 (r16.trans (Roll.of_same r16.1 (s612.trans s13)))
theorem exm_of {K : PySem.W.Frag} {C : Addr} (bP : PySem.W.subIn K (.ref C) (.type "BaseException") = some true) (iP : PySem.W.isClsIn K C = true) (tP : PySem.W.typeIn K (.ref C) = some (.type "type")) (sP : PySem.W.subIn K (.ref C) (.ref C) = some true) : PySem.W.exmOne K (.ref C) (.ref C) = some true := by
  have i2 : (PySem.W.clsIn K C).isSome = true := iP
  unfold PySem.W.exmOne PySem.W.kitCls
  rw [bP, if_pos (by decide)]
  show (if ((PySem.W.clsIn K C).isSome && PySem.W.typeIn K (.ref C) == some (.type "type")) = true then PySem.W.subIn K (.ref C) (.ref C) else none) = some true
  rw [i2, tP, if_pos (by decide), sP]
def spLaw (K : PySem.W.Frag) : Sp := fun vs H Q _ => ∃ (a : Addr) (ns : List Int), vs = [.ref a] ∧ SqL K H a (ns.map V.int) ∧ ns.length ≤ 63 ∧ ∀ H', Q (.bl true) H'
theorem fm1 : Fm 3 [[0, 1], [0, 2], [1, 2]] := ⟨by decide, by decide +kernel, by decide +kernel⟩
theorem fm2 : Fm 2 [[0, 1]] := ⟨by decide, by decide +kernel, by decide +kernel⟩
theorem fm3 : Fm 4 [[0, 1], [2, 3]] := ⟨by decide, by decide +kernel, by decide +kernel⟩
theorem cp1 : compS 3 [[0, 1], [0, 2], [1, 2]] = [[0, 1], [0, 2], [1, 2]] := by decide +kernel
theorem cp2 : (((compS 2 [[0, 1]]).length : Nat) : Int) = 1 := by decide +kernel
theorem cp3 : mtB [[0, 1], [2, 3]] = false := by decide +kernel
/-- what stands in the law's last list -/
inductive Cell where
  | fam (F : List LI)
  | int (i : Int)
  | non
def RC : Cell → V → Hp → Prop
  | .fam F => FamT F
  | .int i => Is (.int i)
  | .non => Is .non
theorem Mo.rc : ∀ c : Cell, Mo (RC c)
  | .fam F => Mo.fam F
  | .int i => Mo.is _
  | .non => Mo.is _
def dC : Cell → PyData
  | .fam F => dFam F
  | .int i => .int i
  | .non => .none
theorem dp_cells {K : PySem.W.Frag} {H : Hp} : ∀ {vs : List V} {cs : List Cell}, Rel RC H vs cs → DpAll K H vs (cs.map dC)
  | _, _, .nil => .nil
  | _, _, .cons (a := .fam F) h t => .cons (dp_fam h) (dp_cells t)
  | _, _, .cons (a := .int i) h t => by
    cases (show _ = V.int i from h)
    exact .cons (.int _) (dp_cells t)
  | _, _, .cons (a := .non) h t => by
    cases (show _ = V.non from h)
    exact .cons .non (dp_cells t)
def toldC : List Cell := [.fam [[0, 1], [0, 2], [1, 2]], .int 1, .non]
theorem told_eq : PyData.eqv (.list (toldC.map dC)) (.list (toldC.map dC)) = true := by decide +kernel
theorem told_sh : SeqAt.shaped (.list (toldC.map dC)) = true := by decide +kernel
theorem ok_law (B : Bn mg) (D_law_dice : Cl P w K mg base 1 "_law_dice" (spDice K)) (D_law_right : ClG P w K mg base 9 "_law_right" spRight) (Dcompleted : ClX P w K mg base 7 "completed" (spComp C0)) (D_law_completed : Cl P w K mg base 8 "_law_completed" spLawComp)
    (F : Fun K "law" "law" slaw f fd) : FnG P w K mg base CX0 10 f fd ["script"] (spLaw K) := by
  refine okG0 F sclaw (fun vs H Q E h => ?_) (fun cdv A outer s H vs Q E gd hr h => ?_)
  · obtain ⟨a, ns, rfl, _⟩ := h
    rfl
  obtain ⟨a, ns, rfl, hS, h63, q⟩ := h
  refine ⟨_, (pss_cons (ps_for PassesOwn.never rfl (pi_range1 rfl B.range (pa_cons (pe_callB (call_max2 rfl) rfl B.max (by decide +kernel) (pa_cons pe_int (pa_cons (pe_callB (call_min2 rfl) rfl B.min (by decide +kernel) (pa_cons pe_int (pa_cons (pe_callB (call_lenK (K := K) rfl) rfl B.len (by decide +kernel) (pa_cons (pv 0) pa_nil)) pa_nil))) pa_nil))) pa_nil)) (pg_name (i := 1) sclaw.nd rfl (Or.inl rfl)) 
      (pss_cons (ps_set (i := 2) sclaw.nd rfl (Or.inl rfl) (pe_c D_law_dice hr (by decide) rfl (pa_cons (pv 0) (pa_cons (pv 1) pa_nil))))
      (pss_one (ps_for PassesOwn.never rfl (pi_range2 rfl B.range (pa_cons pe_int (pa_cons pe_int pa_nil))) (pg_name (i := 3) sclaw.nd rfl (Or.inl rfl)) 
        (pss_one (ps_if (pt_not (pt_val (pe_cG gd D_law_right hr (by decide) rfl (pa_cons (pv 2) (pa_cons (pv 3) pa_nil))))) 
          (pss_one (ps_ret pe_bl)) pss_nil))))))
    (pss_cons (ps_set (i := 4) sclaw.nd rfl (Or.inl rfl) (pe_lst (pa_cons (pe_cN Dcompleted hr (by decide) rfl (pa_cons pe_int (pa_cons (pe_tup (pa_cons (pe_tup (pa_cons pe_int (pa_cons pe_int pa_nil))) (pa_cons (pe_tup (pa_cons pe_int (pa_cons pe_int pa_nil))) (pa_cons (pe_tup (pa_cons pe_int (pa_cons pe_int pa_nil))) pa_nil)))) pa_nil))) (pa_cons (pe_callB (call_lenK (K := K) rfl) rfl B.len (by decide +kernel) (pa_cons (pe_cN Dcompleted hr (by decide) rfl (pa_cons pe_int (pa_cons (pe_tup (pa_cons (pe_tup (pa_cons pe_int (pa_cons pe_int pa_nil))) pa_nil)) pa_nil))) pa_nil)) (pa_cons (pe_c D_law_completed hr (by decide) rfl (pa_cons pe_int (pa_cons (pe_tup (pa_cons (pe_tup (pa_cons pe_int (pa_cons pe_int pa_nil))) (pa_cons (pe_tup (pa_cons pe_int (pa_cons pe_int pa_nil))) pa_nil))) pa_nil))) pa_nil)))))
    (pss_one (ps_ret (pe_cmpR (op_eqK (K := K) rfl hr.units) (pv 4) (pe_lst (pa_cons (pe_tup (pa_cons (pe_tup (pa_cons pe_int (pa_cons pe_int pa_nil))) (pa_cons (pe_tup (pa_cons pe_int (pa_cons pe_int pa_nil))) (pa_cons (pe_tup (pa_cons pe_int (pa_cons pe_int pa_nil))) pa_nil)))) (pa_cons pe_int (pa_cons pe_non pa_nil)))) (nomark _)))))), ?_⟩
  refine ⟨_, rfl, a, _, rfl, .inl hS, _, _, rfl, _, _, rfl, _, rfl, ?_, ?_, ?_⟩
  · split <;> split <;> omega
  · split <;> split <;> omega
  refine for_range (lo := 0) (fun _ σ H' => ∃ y1 y2 y3 y4, σ = [some (.ref a), y1, y2, y3, y4] ∧ Same H H') ⟨none, none, none, none, rfl, Same.refl H⟩ ?_ ?_
  · rintro i σ H' hi ⟨y1, y2, y3, y4, rfl, sm⟩
    refine ⟨_, rfl, _, rfl, a, ns, _, rfl, sm.seq hS, by omega, fun p H1 s1 n1 d1 => ?_⟩
    have np : H p = none := sm.free n1
    refine ⟨2, 6, rfl, ⟨by decide, by decide, by decide, by decide⟩, ?_⟩
    refine for_range (lo := 2) (n := 4) (fun _ σ H' => ∃ y1 y3 y4, σ = [some (.ref a), y1, some (.ref p), y3, y4] ∧ Same H H' ∧ Dice H' p) ⟨_, _, _, rfl, sm.trans s1, d1⟩ ?_ ?_
    · rintro j σ H2 hj ⟨z1, z3, z4, rfl, sm2, d2⟩
      rw [show ((2 : Int) + (j : Int)) = ((2 + j : Nat) : Int) by omega]
      refine ⟨_, rfl, _, rfl, p, 2 + j, rfl, Wd.of hj, d2, fun H3 r3 => ⟨_, rfl, iteF ?_⟩⟩
      exact ⟨_, _, _, rfl, Roll.same np sm2 r3, r3.1⟩
    · rintro σ H2 ⟨z1, z3, z4, rfl, sm2, d2⟩
      exact ⟨_, _, _, _, rfl, sm2⟩
  · rintro σ H' ⟨y1, y2, y3, y4, rfl, sm⟩
    have two : ∀ {x y : Int} {σ : L2.St} {H : Hp}, Ed (fun (i : Int) v _ => v = .int i) (tCons (tC (.int x)) (tCons (tC (.int y)) tNil)) σ H [x, y] := ed_int (ed_int ed_nil)
    have c1 := er_compN (C := C0) (n := 3) (F := [[0, 1], [0, 2], [1, 2]]) (ta := tC (.int 3)) (tb := tTup (tCons (tTup (tCons (tC (.int 0)) (tCons (tC (.int 1)) tNil))) (tCons (tTup (tCons (tC (.int 0)) (tCons (tC (.int 2)) tNil))) (tCons (tTup (tCons (tC (.int 1)) (tCons (tC (.int 2)) tNil))) tNil)))) (σ := [some (.ref a), y1, y2, y3, y4]) (H := H') er_c (er_tupD Mo.set (ed_set two (by decide) (ed_set two (by decide) (ed_set two (by decide) ed_nil))) (by decide)) (by decide +kernel) fm1 (by decide +kernel)
    rw [cp1] at c1
    have c2 := er_lenT (K := K) (R := SetV) (er_compN (C := C0) (n := 2) (F := [[0, 1]]) (ta := tC (.int 2)) (tb := tTup (tCons (tTup (tCons (tC (.int 0)) (tCons (tC (.int 1)) tNil))) tNil)) (σ := [some (.ref a), y1, y2, y3, y4]) (H := H') er_c (er_tupD Mo.set (ed_set two (by decide) ed_nil) (by decide)) (by decide +kernel) fm2 (by decide +kernel))
    rw [cp2] at c2
    have c3 := er_lawComp (n := 4) (F := [[0, 1], [2, 3]]) (ta := tC (.int 4)) (tb := tTup (tCons (tTup (tCons (tC (.int 0)) (tCons (tC (.int 1)) tNil))) (tCons (tTup (tCons (tC (.int 2)) (tCons (tC (.int 3)) tNil))) tNil))) (σ := [some (.ref a), y1, y2, y3, y4]) (H := H') er_c (er_tupD Mo.set (ed_set two (by decide) (ed_set two (by decide) ed_nil)) (by decide)) (by decide +kernel) fm3
    rw [cp3] at c3
    refine q_set (er_lstD (as := toldC) Mo.rc (ed_cons (R := RC) Mo.rc (a := .fam _) c1 (ed_cons (R := RC) Mo.rc (a := .int 1) c2 (ed_cons (R := RC) Mo.rc (a := .non) c3 ed_nil))) (by decide)) fun v H1 s1 r1 => ?_
    have rhs := er_lstD (R := RC) (as := toldC) (σ := [some (.ref a), y1, y2, y3, some v]) (H := H1) Mo.rc (ed_cons (R := RC) Mo.rc (a := .fam _) (er_tupD Mo.set (ed_set two (by decide) (ed_set two (by decide) (ed_set two (by decide) ed_nil))) (by decide)) (ed_cons (R := RC) Mo.rc (a := .int 1) er_c (ed_cons (R := RC) Mo.rc (a := .non) er_c ed_nil))) (by decide)
    refine q_ret (R := Is (.bl true)) (er_op (r := rEqD K) (er_var (R := LstR RC toldC) (fun H2 s2 => LstR.mono Mo.rc s2 r1) rfl) rhs (fun v H1 H2 s r => LstR.mono Mo.rc s r) fun x y H2 _ rx ry Q' q' => ?_) fun v2 H2 s2 r2 => ?_
    · obtain ⟨p1, xs, rfl, hp1, rl1⟩ := rx
      obtain ⟨p2, ys, rfl, hp2, rl2⟩ := ry
      refine ⟨.list (toldC.map dC), .list (toldC.map dC), .lst (SqL.of hp1) (dp_cells rl1), .lst (SqL.of hp2) (dp_cells rl2), told_sh, told_sh, ?_⟩
      rw [told_eq]
      exact q' _ H2 (Same.refl H2) rfl
    · cases (show v2 = _ from r2)
      exact q H2
end
theorem all_mk {l : PySem.W.OpenLaw} {w : World} {K : PySem.W.Frag} {h : Heap} {mg : Str → Option Value} {fa : Addr} (X : K.In h) (G : h.Ns mainGlobals mg) (hfa : mg "law" = some (.ref fa))
    {f0 : Addr} {od0 an0 : Option Addr} {sl0 : Array (Option Value)} {oc0 kV0 dc0 pm0 cd0 ct0 : Value} {f1 : Addr} {od1 an1 : Option Addr} {sl1 : Array (Option Value)} {oc1 kV1 dc1 pm1 cd1 ct1 : Value} {f2 : Addr} {od2 an2 : Option Addr} {sl2 : Array (Option Value)} {oc2 kV2 dc2 pm2 cd2 ct2 : Value} {f3 : Addr} {od3 an3 : Option Addr} {sl3 : Array (Option Value)} {oc3 kV3 dc3 pm3 cd3 ct3 : Value} {f4 : Addr} {od4 an4 : Option Addr} {sl4 : Array (Option Value)} {oc4 kV4 dc4 pm4 cd4 ct4 : Value} {f5 : Addr} {od5 an5 : Option Addr} {sl5 : Array (Option Value)} {oc5 kV5 dc5 pm5 cd5 ct5 : Value} {f6 : Addr} {od6 an6 : Option Addr} {sl6 : Array (Option Value)} {oc6 kV6 dc6 pm6 cd6 ct6 : Value} {f7 : Addr} {od7 an7 : Option Addr} {sl7 : Array (Option Value)} {oc7 kV7 dc7 pm7 cd7 ct7 : Value} {f8 : Addr} {od8 an8 : Option Addr} {sl8 : Array (Option Value)} {oc8 kV8 dc8 pm8 cd8 ct8 : Value} {f9 : Addr} {od9 an9 : Option Addr} {sl9 : Array (Option Value)} {oc9 kV9 dc9 pm9 cd9 ct9 : Value} {f10 : Addr} {od10 an10 : Option Addr} {sl10 : Array (Option Value)} {oc10 kV10 dc10 pm10 cd10 ct10 : Value} {f11 : Addr} {od11 an11 : Option Addr} {sl11 : Array (Option Value)} {oc11 kV11 dc11 pm11 cd11 ct11 : Value} {f12 : Addr} {od12 an12 : Option Addr} {sl12 : Array (Option Value)} {oc12 kV12 dc12 pm12 cd12 ct12 : Value} {f13 : Addr} {od13 an13 : Option Addr} {sl13 : Array (Option Value)} {oc13 kV13 dc13 pm13 cd13 ct13 : Value} {f14 : Addr} {od14 an14 : Option Addr} {sl14 : Array (Option Value)} {oc14 kV14 dc14 pm14 cd14 ct14 : Value} {f15 : Addr} {od15 an15 : Option Addr} {sl15 : Array (Option Value)} {oc15 kV15 dc15 pm15 cd15 ct15 : Value} {f16 : Addr} {od16 an16 : Option Addr} {sl16 : Array (Option Value)} {oc16 kV16 dc16 pm16 cd16 ct16 : Value} {f17 : Addr} {od17 an17 : Option Addr} {sl17 : Array (Option Value)} {oc17 kV17 dc17 pm17 cd17 ct17 : Value} {f18 : Addr} {od18 an18 : Option Addr} {sl18 : Array (Option Value)} {oc18 kV18 dc18 pm18 cd18 ct18 : Value} {f19 : Addr} {od19 an19 : Option Addr} {sl19 : Array (Option Value)} {oc19 kV19 dc19 pm19 cd19 ct19 : Value} {f20 : Addr} {od20 an20 : Option Addr} {sl20 : Array (Option Value)} {oc20 kV20 dc20 pm20 cd20 ct20 : Value} {f21 : Addr} {od21 an21 : Option Addr} {sl21 : Array (Option Value)} {oc21 kV21 dc21 pm21 cd21 ct21 : Value} {f22 : Addr} {od22 an22 : Option Addr} {sl22 : Array (Option Value)} {oc22 kV22 dc22 pm22 cd22 ct22 : Value} {f23 : Addr} {od23 an23 : Option Addr} {sl23 : Array (Option Value)} {oc23 kV23 dc23 pm23 cd23 ct23 : Value} {f24 : Addr} {od24 an24 : Option Addr} {sl24 : Array (Option Value)} {oc24 kV24 dc24 pm24 cd24 ct24 : Value} {f25 : Addr} {od25 an25 : Option Addr} {sl25 : Array (Option Value)} {oc25 kV25 dc25 pm25 cd25 ct25 : Value} {f26 : Addr} {od26 an26 : Option Addr} {sl26 : Array (Option Value)} {oc26 kV26 dc26 pm26 cd26 ct26 : Value} {f27 : Addr} {od27 an27 : Option Addr} {sl27 : Array (Option Value)} {oc27 kV27 dc27 pm27 cd27 ct27 : Value} {f28 : Addr} {od28 an28 : Option Addr} {sl28 : Array (Option Value)} {oc28 kV28 dc28 pm28 cd28 ct28 : Value} {f29 : Addr} {od29 an29 : Option Addr} {sl29 : Array (Option Value)} {oc29 kV29 dc29 pm29 cd29 ct29 : Value} {f30 : Addr} {od30 an30 : Option Addr} {sl30 : Array (Option Value)} {oc30 kV30 dc30 pm30 cd30 ct30 : Value} {f31 : Addr} {od31 an31 : Option Addr} {sl31 : Array (Option Value)} {oc31 kV31 dc31 pm31 cd31 ct31 : Value} {f32 : Addr} {od32 an32 : Option Addr} {sl32 : Array (Option Value)} {oc32 kV32 dc32 pm32 cd32 ct32 : Value}
    {t__OUT_OF_REACH : Tok}
    {t__LEAST_WIDTH : Tok}
    {t__GREATEST_WIDTH : Tok}
    {C_InvalidOperation : Addr}
    (a0 : PySem.W.nsIn K mainGlobals "is_integer" = some (some (.ref f0))) (l0 : K.lookup f0 = some ⟨oc0, od0, .func (PySem.W.fnOf "is_integer" "is_integer" (defArgs sis_integer) (defBody sis_integer) (defScope sis_integer) .none kV0 dc0 pm0 an0 cd0 ct0), sl0⟩) (c0 : PySem.W.codeIn K cd0 "is_integer" = true) (k0 : PySem.W.keepIn K (.ref f0) = true)
    (a1 : PySem.W.nsIn K mainGlobals "check_width" = some (some (.ref f1))) (l1 : K.lookup f1 = some ⟨oc1, od1, .func (PySem.W.fnOf "check_width" "check_width" (defArgs scheck_width) (defBody scheck_width) (defScope scheck_width) .none kV1 dc1 pm1 an1 cd1 ct1), sl1⟩) (c1 : PySem.W.codeIn K cd1 "check_width" = true) (k1 : PySem.W.keepIn K (.ref f1) = true)
    (a2 : PySem.W.nsIn K mainGlobals "_is_place" = some (some (.ref f2))) (l2 : K.lookup f2 = some ⟨oc2, od2, .func (PySem.W.fnOf "_is_place" "_is_place" (defArgs s_is_place) (defBody s_is_place) (defScope s_is_place) .none kV2 dc2 pm2 an2 cd2 ct2), sl2⟩) (c2 : PySem.W.codeIn K cd2 "_is_place" = true) (k2 : PySem.W.keepIn K (.ref f2) = true)
    (a3 : PySem.W.nsIn K mainGlobals "ascends" = some (some (.ref f3))) (l3 : K.lookup f3 = some ⟨oc3, od3, .func (PySem.W.fnOf "ascends" "ascends" (defArgs sascends) (defBody sascends) (defScope sascends) .none kV3 dc3 pm3 an3 cd3 ct3), sl3⟩) (c3 : PySem.W.codeIn K cd3 "ascends" = true) (k3 : PySem.W.keepIn K (.ref f3) = true)
    (a4 : PySem.W.nsIn K mainGlobals "_are_places" = some (some (.ref f4))) (l4 : K.lookup f4 = some ⟨oc4, od4, .func (PySem.W.fnOf "_are_places" "_are_places" (defArgs s_are_places) (defBody s_are_places) (defScope s_are_places) .none kV4 dc4 pm4 an4 cd4 ct4), sl4⟩) (c4 : PySem.W.codeIn K cd4 "_are_places" = true) (k4 : PySem.W.keepIn K (.ref f4) = true)
    (a5 : PySem.W.nsIn K mainGlobals "_are_sets" = some (some (.ref f5))) (l5 : K.lookup f5 = some ⟨oc5, od5, .func (PySem.W.fnOf "_are_sets" "_are_sets" (defArgs s_are_sets) (defBody s_are_sets) (defScope s_are_sets) .none kV5 dc5 pm5 an5 cd5 ct5), sl5⟩) (c5 : PySem.W.codeIn K cd5 "_are_sets" = true) (k5 : PySem.W.keepIn K (.ref f5) = true)
    (a6 : PySem.W.nsIn K mainGlobals "are_turns" = some (some (.ref f6))) (l6 : K.lookup f6 = some ⟨oc6, od6, .func (PySem.W.fnOf "are_turns" "are_turns" (defArgs sare_turns) (defBody sare_turns) (defScope sare_turns) .none kV6 dc6 pm6 an6 cd6 ct6), sl6⟩) (c6 : PySem.W.codeIn K cd6 "are_turns" = true) (k6 : PySem.W.keepIn K (.ref f6) = true)
    (a7 : PySem.W.nsIn K mainGlobals "contains" = some (some (.ref f7))) (l7 : K.lookup f7 = some ⟨oc7, od7, .func (PySem.W.fnOf "contains" "contains" (defArgs scontains) (defBody scontains) (defScope scontains) .none kV7 dc7 pm7 an7 cd7 ct7), sl7⟩) (c7 : PySem.W.codeIn K cd7 "contains" = true) (k7 : PySem.W.keepIn K (.ref f7) = true)
    (a8 : PySem.W.nsIn K mainGlobals "_meet" = some (some (.ref f8))) (l8 : K.lookup f8 = some ⟨oc8, od8, .func (PySem.W.fnOf "_meet" "_meet" (defArgs s_meet) (defBody s_meet) (defScope s_meet) .none kV8 dc8 pm8 an8 cd8 ct8), sl8⟩) (c8 : PySem.W.codeIn K cd8 "_meet" = true) (k8 : PySem.W.keepIn K (.ref f8) = true)
    (a9 : PySem.W.nsIn K mainGlobals "has_least" = some (some (.ref f9))) (l9 : K.lookup f9 = some ⟨oc9, od9, .func (PySem.W.fnOf "has_least" "has_least" (defArgs shas_least) (defBody shas_least) (defScope shas_least) .none kV9 dc9 pm9 an9 cd9 ct9), sl9⟩) (c9 : PySem.W.codeIn K cd9 "has_least" = true) (k9 : PySem.W.keepIn K (.ref f9) = true)
    (a10 : PySem.W.nsIn K mainGlobals "_least" = some (some (.ref f10))) (l10 : K.lookup f10 = some ⟨oc10, od10, .func (PySem.W.fnOf "_least" "_least" (defArgs s_least) (defBody s_least) (defScope s_least) .none kV10 dc10 pm10 an10 cd10 ct10), sl10⟩) (c10 : PySem.W.codeIn K cd10 "_least" = true) (k10 : PySem.W.keepIn K (.ref f10) = true)
    (a11 : PySem.W.nsIn K mainGlobals "is_family" = some (some (.ref f11))) (l11 : K.lookup f11 = some ⟨oc11, od11, .func (PySem.W.fnOf "is_family" "is_family" (defArgs sis_family) (defBody sis_family) (defScope sis_family) .none kV11 dc11 pm11 an11 cd11 ct11), sl11⟩) (c11 : PySem.W.codeIn K cd11 "is_family" = true) (k11 : PySem.W.keepIn K (.ref f11) = true)
    (a12 : PySem.W.nsIn K mainGlobals "check_family" = some (some (.ref f12))) (l12 : K.lookup f12 = some ⟨oc12, od12, .func (PySem.W.fnOf "check_family" "check_family" (defArgs scheck_family) (defBody scheck_family) (defScope scheck_family) .none kV12 dc12 pm12 an12 cd12 ct12), sl12⟩) (c12 : PySem.W.codeIn K cd12 "check_family" = true) (k12 : PySem.W.keepIn K (.ref f12) = true)
    (a13 : PySem.W.nsIn K mainGlobals "check_places" = some (some (.ref f13))) (l13 : K.lookup f13 = some ⟨oc13, od13, .func (PySem.W.fnOf "check_places" "check_places" (defArgs scheck_places) (defBody scheck_places) (defScope scheck_places) .none kV13 dc13 pm13 an13 cd13 ct13), sl13⟩) (c13 : PySem.W.codeIn K cd13 "check_places" = true) (k13 : PySem.W.keepIn K (.ref f13) = true)
    (a14 : PySem.W.nsIn K mainGlobals "_places_in" = some (some (.ref f14))) (l14 : K.lookup f14 = some ⟨oc14, od14, .func (PySem.W.fnOf "_places_in" "_places_in" (defArgs s_places_in) (defBody s_places_in) (defScope s_places_in) .none kV14 dc14 pm14 an14 cd14 ct14), sl14⟩) (c14 : PySem.W.codeIn K cd14 "_places_in" = true) (k14 : PySem.W.keepIn K (.ref f14) = true)
    (a15 : PySem.W.nsIn K mainGlobals "_all_sets" = some (some (.ref f15))) (l15 : K.lookup f15 = some ⟨oc15, od15, .func (PySem.W.fnOf "_all_sets" "_all_sets" (defArgs s_all_sets) (defBody s_all_sets) (defScope s_all_sets) .none kV15 dc15 pm15 an15 cd15 ct15), sl15⟩) (c15 : PySem.W.codeIn K cd15 "_all_sets" = true) (k15 : PySem.W.keepIn K (.ref f15) = true)
    (a16 : PySem.W.nsIn K mainGlobals "is_held" = some (some (.ref f16))) (l16 : K.lookup f16 = some ⟨oc16, od16, .func (PySem.W.fnOf "is_held" "is_held" (defArgs sis_held) (defBody sis_held) (defScope sis_held) .none kV16 dc16 pm16 an16 cd16 ct16), sl16⟩) (c16 : PySem.W.codeIn K cd16 "is_held" = true) (k16 : PySem.W.keepIn K (.ref f16) = true)
    (a17 : PySem.W.nsIn K mainGlobals "blocks_of" = some (some (.ref f17))) (l17 : K.lookup f17 = some ⟨oc17, od17, .func (PySem.W.fnOf "blocks_of" "blocks_of" (defArgs sblocks_of) (defBody sblocks_of) (defScope sblocks_of) .none kV17 dc17 pm17 an17 cd17 ct17), sl17⟩) (c17 : PySem.W.codeIn K cd17 "blocks_of" = true) (k17 : PySem.W.keepIn K (.ref f17) = true)
    (a18 : PySem.W.nsIn K mainGlobals "placed" = some (some (.ref f18))) (l18 : K.lookup f18 = some ⟨oc18, od18, .func (PySem.W.fnOf "placed" "placed" (defArgs splaced) (defBody splaced) (defScope splaced) .none kV18 dc18 pm18 an18 cd18 ct18), sl18⟩) (c18 : PySem.W.codeIn K cd18 "placed" = true) (k18 : PySem.W.keepIn K (.ref f18) = true)
    (a19 : PySem.W.nsIn K mainGlobals "completed" = some (some (.ref f19))) (l19 : K.lookup f19 = some ⟨oc19, od19, .func (PySem.W.fnOf "completed" "completed" (defArgs scompleted) (defBody scompleted) (defScope scompleted) .none kV19 dc19 pm19 an19 cd19 ct19), sl19⟩) (c19 : PySem.W.codeIn K cd19 "completed" = true) (k19 : PySem.W.keepIn K (.ref f19) = true)
    (a20 : PySem.W.nsIn K mainGlobals "_law_dice" = some (some (.ref f20))) (l20 : K.lookup f20 = some ⟨oc20, od20, .func (PySem.W.fnOf "_law_dice" "_law_dice" (defArgs s_law_dice) (defBody s_law_dice) (defScope s_law_dice) .none kV20 dc20 pm20 an20 cd20 ct20), sl20⟩) (c20 : PySem.W.codeIn K cd20 "_law_dice" = true) (k20 : PySem.W.keepIn K (.ref f20) = true)
    (a21 : PySem.W.nsIn K mainGlobals "_law_roll" = some (some (.ref f21))) (l21 : K.lookup f21 = some ⟨oc21, od21, .func (PySem.W.fnOf "_law_roll" "_law_roll" (defArgs s_law_roll) (defBody s_law_roll) (defScope s_law_roll) .none kV21 dc21 pm21 an21 cd21 ct21), sl21⟩) (c21 : PySem.W.codeIn K cd21 "_law_roll" = true) (k21 : PySem.W.keepIn K (.ref f21) = true)
    (a22 : PySem.W.nsIn K mainGlobals "_law_pick" = some (some (.ref f22))) (l22 : K.lookup f22 = some ⟨oc22, od22, .func (PySem.W.fnOf "_law_pick" "_law_pick" (defArgs s_law_pick) (defBody s_law_pick) (defScope s_law_pick) .none kV22 dc22 pm22 an22 cd22 ct22), sl22⟩) (c22 : PySem.W.codeIn K cd22 "_law_pick" = true) (k22 : PySem.W.keepIn K (.ref f22) = true)
    (a23 : PySem.W.nsIn K mainGlobals "_law_mixed" = some (some (.ref f23))) (l23 : K.lookup f23 = some ⟨oc23, od23, .func (PySem.W.fnOf "_law_mixed" "_law_mixed" (defArgs s_law_mixed) (defBody s_law_mixed) (defScope s_law_mixed) .none kV23 dc23 pm23 an23 cd23 ct23), sl23⟩) (c23 : PySem.W.codeIn K cd23 "_law_mixed" = true) (k23 : PySem.W.keepIn K (.ref f23) = true)
    (a24 : PySem.W.nsIn K mainGlobals "_law_has_all" = some (some (.ref f24))) (l24 : K.lookup f24 = some ⟨oc24, od24, .func (PySem.W.fnOf "_law_has_all" "_law_has_all" (defArgs s_law_has_all) (defBody s_law_has_all) (defScope s_law_has_all) .none kV24 dc24 pm24 an24 cd24 ct24), sl24⟩) (c24 : PySem.W.codeIn K cd24 "_law_has_all" = true) (k24 : PySem.W.keepIn K (.ref f24) = true)
    (a25 : PySem.W.nsIn K mainGlobals "_law_least_sets" = some (some (.ref f25))) (l25 : K.lookup f25 = some ⟨oc25, od25, .func (PySem.W.fnOf "_law_least_sets" "_law_least_sets" (defArgs s_law_least_sets) (defBody s_law_least_sets) (defScope s_law_least_sets) .none kV25 dc25 pm25 an25 cd25 ct25), sl25⟩) (c25 : PySem.W.codeIn K cd25 "_law_least_sets" = true) (k25 : PySem.W.keepIn K (.ref f25) = true)
    (a26 : PySem.W.nsIn K mainGlobals "_law_place_sets" = some (some (.ref f26))) (l26 : K.lookup f26 = some ⟨oc26, od26, .func (PySem.W.fnOf "_law_place_sets" "_law_place_sets" (defArgs s_law_place_sets) (defBody s_law_place_sets) (defScope s_law_place_sets) .none kV26 dc26 pm26 an26 cd26 ct26), sl26⟩) (c26 : PySem.W.codeIn K cd26 "_law_place_sets" = true) (k26 : PySem.W.keepIn K (.ref f26) = true)
    (a27 : PySem.W.nsIn K mainGlobals "_law_some_family" = some (some (.ref f27))) (l27 : K.lookup f27 = some ⟨oc27, od27, .func (PySem.W.fnOf "_law_some_family" "_law_some_family" (defArgs s_law_some_family) (defBody s_law_some_family) (defScope s_law_some_family) .none kV27 dc27 pm27 an27 cd27 ct27), sl27⟩) (c27 : PySem.W.codeIn K cd27 "_law_some_family" = true) (k27 : PySem.W.keepIn K (.ref f27) = true)
    (a28 : PySem.W.nsIn K mainGlobals "_law_completed" = some (some (.ref f28))) (l28 : K.lookup f28 = some ⟨oc28, od28, .func (PySem.W.fnOf "_law_completed" "_law_completed" (defArgs s_law_completed) (defBody s_law_completed) (defScope s_law_completed) .none kV28 dc28 pm28 an28 cd28 ct28), sl28⟩) (c28 : PySem.W.codeIn K cd28 "_law_completed" = true) (k28 : PySem.W.keepIn K (.ref f28) = true)
    (a29 : PySem.W.nsIn K mainGlobals "_law_does_meet" = some (some (.ref f29))) (l29 : K.lookup f29 = some ⟨oc29, od29, .func (PySem.W.fnOf "_law_does_meet" "_law_does_meet" (defArgs s_law_does_meet) (defBody s_law_does_meet) (defScope s_law_does_meet) .none kV29 dc29 pm29 an29 cd29 ct29), sl29⟩) (c29 : PySem.W.codeIn K cd29 "_law_does_meet" = true) (k29 : PySem.W.keepIn K (.ref f29) = true)
    (a30 : PySem.W.nsIn K mainGlobals "_law_is_whole" = some (some (.ref f30))) (l30 : K.lookup f30 = some ⟨oc30, od30, .func (PySem.W.fnOf "_law_is_whole" "_law_is_whole" (defArgs s_law_is_whole) (defBody s_law_is_whole) (defScope s_law_is_whole) .none kV30 dc30 pm30 an30 cd30 ct30), sl30⟩) (c30 : PySem.W.codeIn K cd30 "_law_is_whole" = true) (k30 : PySem.W.keepIn K (.ref f30) = true)
    (a31 : PySem.W.nsIn K mainGlobals "_law_right" = some (some (.ref f31))) (l31 : K.lookup f31 = some ⟨oc31, od31, .func (PySem.W.fnOf "_law_right" "_law_right" (defArgs s_law_right) (defBody s_law_right) (defScope s_law_right) .none kV31 dc31 pm31 an31 cd31 ct31), sl31⟩) (c31 : PySem.W.codeIn K cd31 "_law_right" = true) (k31 : PySem.W.keepIn K (.ref f31) = true)
    (a32 : PySem.W.nsIn K mainGlobals "law" = some (some (.ref f32))) (l32 : K.lookup f32 = some ⟨oc32, od32, .func (PySem.W.fnOf "law" "law" (defArgs slaw) (defBody slaw) (defScope slaw) .none kV32 dc32 pm32 an32 cd32 ct32), sl32⟩) (c32 : PySem.W.codeIn K cd32 "law" = true) (k32 : PySem.W.keepIn K (.ref f32) = true)
    (z_abs : PySem.W.nsIn K mainGlobals "abs" = some none)
    (z_all : PySem.W.nsIn K mainGlobals "all" = some none)
    (z_any : PySem.W.nsIn K mainGlobals "any" = some none)
    (z_bool : PySem.W.nsIn K mainGlobals "bool" = some none)
    (z_int : PySem.W.nsIn K mainGlobals "int" = some none)
    (z_isinstance : PySem.W.nsIn K mainGlobals "isinstance" = some none)
    (z_len : PySem.W.nsIn K mainGlobals "len" = some none)
    (z_list : PySem.W.nsIn K mainGlobals "list" = some none)
    (z_max : PySem.W.nsIn K mainGlobals "max" = some none)
    (z_min : PySem.W.nsIn K mainGlobals "min" = some none)
    (z_range : PySem.W.nsIn K mainGlobals "range" = some none)
    (z_repr : PySem.W.nsIn K mainGlobals "repr" = some none)
    (z_set : PySem.W.nsIn K mainGlobals "set" = some none)
    (z_sorted : PySem.W.nsIn K mainGlobals "sorted" = some none)
    (z_tuple : PySem.W.nsIn K mainGlobals "tuple" = some none)
    (z_zip : PySem.W.nsIn K mainGlobals "zip" = some none)
    (i__OUT_OF_REACH : PySem.W.nsIn K mainGlobals "_OUT_OF_REACH" = some (some (.int (lim) t__OUT_OF_REACH)))
    (i__LEAST_WIDTH : PySem.W.nsIn K mainGlobals "_LEAST_WIDTH" = some (some (.int (2) t__LEAST_WIDTH)))
    (i__GREATEST_WIDTH : PySem.W.nsIn K mainGlobals "_GREATEST_WIDTH" = some (some (.int (5) t__GREATEST_WIDTH)))
    (gP_InvalidOperation : PySem.W.nsIn K mainGlobals "InvalidOperation" = some (some (.ref C_InvalidOperation))) (xP_InvalidOperation : PySem.W.excIn K C_InvalidOperation [.type "ValueError", .type "Exception", .type "BaseException", .type "object"] "ValueError.__new__" = true) (kP_InvalidOperation : PySem.W.keepIn K (.ref C_InvalidOperation) = true) (bP_InvalidOperation : PySem.W.subIn K (.ref C_InvalidOperation) (.type "BaseException") = some true) (tP_InvalidOperation : PySem.W.typeIn K (.ref C_InvalidOperation) = some (.type "type")) (iP_InvalidOperation : PySem.W.isClsIn K C_InvalidOperation = true) (sP_InvalidOperation : PySem.W.subIn K (.ref C_InvalidOperation) (.ref C_InvalidOperation) = some true)
    : ∃ fd : FuncData, (∀ (s : Shared) (v : Value), BindsTo s fd ⟨[v], []⟩ [("script", v)]) ∧ ∀ base : Heap, K.In base → base.Ns mainGlobals mg → FnG l.prog w K mg base CX0 10 fa fd ["script"] (spLaw K) := by
  have e := hfa.symm.trans (PySem.W.mg_of X G a32)
  cases e
  have B : Bn mg := ⟨PySem.W.mg_none_of X G z_abs, PySem.W.mg_none_of X G z_all, PySem.W.mg_none_of X G z_any, PySem.W.mg_none_of X G z_bool, PySem.W.mg_none_of X G z_int, PySem.W.mg_none_of X G z_isinstance, PySem.W.mg_none_of X G z_len, PySem.W.mg_none_of X G z_list, PySem.W.mg_none_of X G z_max, PySem.W.mg_none_of X G z_min, PySem.W.mg_none_of X G z_range, PySem.W.mg_none_of X G z_repr, PySem.W.mg_none_of X G z_set, PySem.W.mg_none_of X G z_sorted, PySem.W.mg_none_of X G z_tuple, PySem.W.mg_none_of X G z_zip⟩
  have C : Cn mg := ⟨⟨_, PySem.W.mg_of X G i__OUT_OF_REACH⟩, ⟨_, PySem.W.mg_of X G i__LEAST_WIDTH⟩, ⟨_, PySem.W.mg_of X G i__GREATEST_WIDTH⟩⟩
  have EX : Ex K mg "InvalidOperation" C_InvalidOperation := ⟨PySem.W.mg_of X G gP_InvalidOperation, xP_InvalidOperation, kP_InvalidOperation, bP_InvalidOperation, tP_InvalidOperation, exm_of bP_InvalidOperation iP_InvalidOperation tP_InvalidOperation sP_InvalidOperation⟩
  have FL := fun_mk (st := slaw) l32 c32 k32
  refine ⟨PySem.W.fnOf "law" "law" (defArgs slaw) (defBody slaw) (defScope slaw) .none kV32 dc32 pm32 an32 cd32 ct32, fun s v => .of_eq rfl, fun base _ _ => ?_⟩
  have F0 := fun_mk (st := sis_integer) l0 c0 k0
  have Dis_integer : Cl l.prog w K mg base 1 "is_integer" spIsI := ⟨_, _, ["value"], ok_is_integer B C F0, PySem.W.mg_of X G a0, k0, F0.binds (ps := ["value"]) fun _ _ _ _ _ _ us hl => match us, hl with | [_], _ => rfl⟩
  have F1 := fun_mk (st := scheck_width) l1 c1 k1
  have Dcheck_width : Cl l.prog w K mg base 2 "check_width" spCkW := ⟨_, _, ["width"], ok_check_width C Dis_integer F1, PySem.W.mg_of X G a1, k1, F1.binds (ps := ["width"]) fun _ _ _ _ _ _ us hl => match us, hl with | [_], _ => rfl⟩
  have F2 := fun_mk (st := s_is_place) l2 c2 k2
  have D_is_place : Cl l.prog w K mg base 2 "_is_place" spIsPl := ⟨_, _, ["width", "value"], ok_is_place Dis_integer F2, PySem.W.mg_of X G a2, k2, F2.binds (ps := ["width", "value"]) fun _ _ _ _ _ _ us hl => match us, hl with | [_, _], _ => rfl⟩
  have F3 := fun_mk (st := sascends) l3 c3 k3
  have Dascends : Cl l.prog w K mg base 1 "ascends" spAsc := ⟨_, _, ["row"], ok_ascends B F3, PySem.W.mg_of X G a3, k3, F3.binds (ps := ["row"]) fun _ _ _ _ _ _ us hl => match us, hl with | [_], _ => rfl⟩
  have DascendsL : Cl l.prog w K mg base 1 "ascends" spAscL := ⟨_, _, ["row"], ok_ascendsL B F3, PySem.W.mg_of X G a3, k3, F3.binds (ps := ["row"]) fun _ _ _ _ _ _ us hl => match us, hl with | [_], _ => rfl⟩
  have F4 := fun_mk (st := s_are_places) l4 c4 k4
  have D_are_places : Cl l.prog w K mg base 3 "_are_places" spArePl := ⟨_, _, ["width", "value"], ok_are_places B Dascends D_is_place F4, PySem.W.mg_of X G a4, k4, F4.binds (ps := ["width", "value"]) fun _ _ _ _ _ _ us hl => match us, hl with | [_, _], _ => rfl⟩
  have F5 := fun_mk (st := s_are_sets) l5 c5 k5
  have D_are_sets : Cl l.prog w K mg base 4 "_are_sets" spAreSets := ⟨_, _, ["width", "value"], ok_are_sets B D_are_places F5, PySem.W.mg_of X G a5, k5, F5.binds (ps := ["width", "value"]) fun _ _ _ _ _ _ us hl => match us, hl with | [_, _], _ => rfl⟩
  have F6 := fun_mk (st := sare_turns) l6 c6 k6
  have Dare_turns : Cl l.prog w K mg base 3 "are_turns" spAreTurns := ⟨_, _, ["width", "value"], okare_turns B DascendsL D_is_place F6, PySem.W.mg_of X G a6, k6, F6.binds (ps := ["width", "value"]) fun _ _ _ _ _ _ us hl => match us, hl with | [_, _], _ => rfl⟩
  have F7 := fun_mk (st := scontains) l7 c7 k7
  have Dcontains : Cl l.prog w K mg base 1 "contains" spSub := ⟨_, _, ["places", "others"], ok_contains B F7, PySem.W.mg_of X G a7, k7, F7.binds (ps := ["places", "others"]) fun _ _ _ _ _ _ us hl => match us, hl with | [_, _], _ => rfl⟩
  have F8 := fun_mk (st := s_meet) l8 c8 k8
  have D_meet : Cl l.prog w K mg base 1 "_meet" spMeet := ⟨_, _, ["places", "others"], ok_meet B F8, PySem.W.mg_of X G a8, k8, F8.binds (ps := ["places", "others"]) fun _ _ _ _ _ _ us hl => match us, hl with | [_, _], _ => rfl⟩
  have F9 := fun_mk (st := shas_least) l9 c9 k9
  have Dhas_least : Cl l.prog w K mg base 2 "has_least" spHas := ⟨_, _, ["family", "places"], ok_has_least B Dcontains F9, PySem.W.mg_of X G a9, k9, F9.binds (ps := ["family", "places"]) fun _ _ _ _ _ _ us hl => match us, hl with | [_, _], _ => rfl⟩
  have F10 := fun_mk (st := s_least) l10 c10 k10
  have D_least : Cl l.prog w K mg base 2 "_least" spLeast := ⟨_, _, ["sets"], ok_least B Dcontains F10, PySem.W.mg_of X G a10, k10, F10.binds (ps := ["sets"]) fun _ _ _ _ _ _ us hl => match us, hl with | [_], _ => rfl⟩
  have F11 := fun_mk (st := sis_family) l11 c11 k11
  have Dis_family : Cl l.prog w K mg base 5 "is_family" spIsFam := ⟨_, _, ["width", "value"], ok_is_family B Dcheck_width D_are_sets D_least F11, PySem.W.mg_of X G a11, k11, F11.binds (ps := ["width", "value"]) fun _ _ _ _ _ _ us hl => match us, hl with | [_, _], _ => rfl⟩
  have F12 := fun_mk (st := scheck_family) l12 c12 k12
  have Dcheck_family : Cl l.prog w K mg base 6 "check_family" spCkFam := ⟨_, _, ["width", "family"], ok_check_family Dis_family F12, PySem.W.mg_of X G a12, k12, F12.binds (ps := ["width", "family"]) fun _ _ _ _ _ _ us hl => match us, hl with | [_, _], _ => rfl⟩
  have F13 := fun_mk (st := scheck_places) l13 c13 k13
  have Dcheck_places : Cl l.prog w K mg base 4 "check_places" spCkPl := ⟨_, _, ["width", "places"], ok_check_places Dcheck_width D_are_places F13, PySem.W.mg_of X G a13, k13, F13.binds (ps := ["width", "places"]) fun _ _ _ _ _ _ us hl => match us, hl with | [_, _], _ => rfl⟩
  have F14 := fun_mk (st := s_places_in) l14 c14 k14
  have D_places_in : Cl l.prog w K mg base 1 "_places_in" spPlIn := ⟨_, _, ["width", "bits"], ok_places_in B F14, PySem.W.mg_of X G a14, k14, F14.binds (ps := ["width", "bits"]) fun _ _ _ _ _ _ us hl => match us, hl with | [_, _], _ => rfl⟩
  have F15 := fun_mk (st := s_all_sets) l15 c15 k15
  have D_all_sets : Cl l.prog w K mg base 2 "_all_sets" spAllS := ⟨_, _, ["width"], ok_all_sets B D_places_in F15, PySem.W.mg_of X G a15, k15, F15.binds (ps := ["width"]) fun _ _ _ _ _ _ us hl => match us, hl with | [_], _ => rfl⟩
  have F16 := fun_mk (st := sis_held) l16 c16 k16
  have Dis_held : Cl l.prog w K mg base 7 "is_held" spHeld := ⟨_, _, ["width", "family", "places"], ok_is_held Dcheck_family Dcheck_places Dhas_least F16, PySem.W.mg_of X G a16, k16, F16.binds (ps := ["width", "family", "places"]) fun _ _ _ _ _ _ us hl => match us, hl with | [_, _, _], _ => rfl⟩
  have F17 := fun_mk (st := sblocks_of) l17 c17 k17
  have Dblocks_of : Cl l.prog w K mg base 7 "blocks_of" spBlocks := ⟨_, _, ["width", "family"], ok_blocks_of B Dcheck_family D_all_sets D_meet D_least F17, PySem.W.mg_of X G a17, k17, F17.binds (ps := ["width", "family"]) fun _ _ _ _ _ _ us hl => match us, hl with | [_, _], _ => rfl⟩
  have F18 := fun_mk (st := splaced) l18 c18 k18
  have Dplaced : Cl l.prog w K mg base 7 "placed" spPlaced := ⟨_, _, ["width", "family", "turns"], ok_placed B Dcheck_family Dare_turns F18, PySem.W.mg_of X G a18, k18, F18.binds (ps := ["width", "family", "turns"]) fun _ _ _ _ _ _ us hl => match us, hl with | [_, _, _], _ => rfl⟩
  have F19 := fun_mk (st := scompleted) l19 c19 k19
  have Dcompleted : ClX l.prog w K mg base 7 "completed" (spComp C_InvalidOperation) := ⟨_, _, ["width", "family"], ok_completed B EX Dcheck_family D_all_sets D_meet D_least F19, PySem.W.mg_of X G a19, k19, F19.binds (ps := ["width", "family"]) fun _ _ _ _ _ _ us hl => match us, hl with | [_, _], _ => rfl⟩
  have F20 := fun_mk (st := s_law_dice) l20 c20 k20
  have D_law_dice : Cl l.prog w K mg base 1 "_law_dice" (spDice K) := ⟨_, _, ["script", "spot"], ok_law_dice B F20, PySem.W.mg_of X G a20, k20, F20.binds (ps := ["script", "spot"]) fun _ _ _ _ _ _ us hl => match us, hl with | [_, _], _ => rfl⟩
  have F21 := fun_mk (st := s_law_roll) l21 c21 k21
  have D_law_roll : Cl l.prog w K mg base 1 "_law_roll" spRoll := ⟨_, _, ["dice", "total"], ok_law_roll B F21, PySem.W.mg_of X G a21, k21, F21.binds (ps := ["dice", "total"]) fun _ _ _ _ _ _ us hl => match us, hl with | [_, _], _ => rfl⟩
  have F22 := fun_mk (st := s_law_pick) l22 c22 k22
  have D_law_pick : Cl l.prog w K mg base 2 "_law_pick" spPick := ⟨_, _, ["dice", "items"], ok_law_pick B D_law_roll F22, PySem.W.mg_of X G a22, k22, F22.binds (ps := ["dice", "items"]) fun _ _ _ _ _ _ us hl => match us, hl with | [_, _], _ => rfl⟩
  have F23 := fun_mk (st := s_law_mixed) l23 c23 k23
  have D_law_mixed : Cl l.prog w K mg base 2 "_law_mixed" spMixed := ⟨_, _, ["dice", "items"], ok_law_mixed B D_law_roll F23, PySem.W.mg_of X G a23, k23, F23.binds (ps := ["dice", "items"]) fun _ _ _ _ _ _ us hl => match us, hl with | [_, _], _ => rfl⟩
  have F24 := fun_mk (st := s_law_has_all) l24 c24 k24
  have D_law_has_all : Cl l.prog w K mg base 1 "_law_has_all" spHasAll := ⟨_, _, ["big", "small"], ok_law_has_all  F24, PySem.W.mg_of X G a24, k24, F24.binds (ps := ["big", "small"]) fun _ _ _ _ _ _ us hl => match us, hl with | [_, _], _ => rfl⟩
  have F25 := fun_mk (st := s_law_least_sets) l25 c25 k25
  have D_law_least_sets : Cl l.prog w K mg base 2 "_law_least_sets" spLawMin := ⟨_, _, ["sets"], ok_law_least_sets B D_law_has_all F25, PySem.W.mg_of X G a25, k25, F25.binds (ps := ["sets"]) fun _ _ _ _ _ _ us hl => match us, hl with | [_], _ => rfl⟩
  have F26 := fun_mk (st := s_law_place_sets) l26 c26 k26
  have D_law_place_sets : Cl l.prog w K mg base 1 "_law_place_sets" spLawAll := ⟨_, _, ["width"], ok_law_place_sets B F26, PySem.W.mg_of X G a26, k26, F26.binds (ps := ["width"]) fun _ _ _ _ _ _ us hl => match us, hl with | [_], _ => rfl⟩
  have F27 := fun_mk (st := s_law_some_family) l27 c27 k27
  have D_law_some_family : Cl l.prog w K mg base 3 "_law_some_family" spSomeFam := ⟨_, _, ["dice", "width"], ok_law_some_family B D_law_place_sets D_law_least_sets D_law_roll D_law_pick F27, PySem.W.mg_of X G a27, k27, F27.binds (ps := ["dice", "width"]) fun _ _ _ _ _ _ us hl => match us, hl with | [_, _], _ => rfl⟩
  have F28 := fun_mk (st := s_law_completed) l28 c28 k28
  have D_law_completed : Cl l.prog w K mg base 8 "_law_completed" spLawComp := ⟨_, _, ["width", "family"], ok_law_completed EX Dcompleted F28, PySem.W.mg_of X G a28, k28, F28.binds (ps := ["width", "family"]) fun _ _ _ _ _ _ us hl => match us, hl with | [_, _], _ => rfl⟩
  have F29 := fun_mk (st := s_law_does_meet) l29 c29 k29
  have D_law_does_meet : Cl l.prog w K mg base 1 "_law_does_meet" spDoesMeet := ⟨_, _, ["family"], ok_law_does_meet B F29, PySem.W.mg_of X G a29, k29, F29.binds (ps := ["family"]) fun _ _ _ _ _ _ us hl => match us, hl with | [_], _ => rfl⟩
  have F30 := fun_mk (st := s_law_is_whole) l30 c30 k30
  have D_law_is_whole : Cl l.prog w K mg base 8 "_law_is_whole" spWhole := ⟨_, _, ["width", "told", "family"], ok_law_is_whole Dis_family Dblocks_of Dis_held F30, PySem.W.mg_of X G a30, k30, F30.binds (ps := ["width", "told", "family"]) fun _ _ _ _ _ _ us hl => match us, hl with | [_, _, _], _ => rfl⟩
  have F31 := fun_mk (st := s_law_right) l31 c31 k31
  have D_law_right : ClG l.prog w K mg base 9 "_law_right" spRight := ⟨_, _, ["dice", "width"], ok_law_right B D_law_some_family D_law_roll D_law_least_sets D_law_completed D_law_does_meet D_law_is_whole Dcompleted D_law_mixed Dplaced Dblocks_of F31, PySem.W.mg_of X G a31, k31, F31.binds (ps := ["dice", "width"]) fun _ _ _ _ _ _ us hl => match us, hl with | [_, _], _ => rfl⟩
  exact ok_law B D_law_dice D_law_right Dcompleted D_law_completed FL
theorem walk {l : PySem.W.OpenLaw} {q : Program} {loose : List Str} {XP : (Str → Option Value) → Heap → Prop} {YP : World → Heap → Prop} {d : DefRec} {K : Params → PySem.W.Frag} (hn : l.most = some 63) (hdf : d.params.defaults = [])
    (hY : ∀ (w : World) (h : Heap), YP w h → (K w.params).In h)
    (F : ∀ (w : World) (mg : Str → Option Value) (fa : Addr) (h : Heap), (K w.params).In h → h.Ns mainGlobals mg → mg d.name = some (.ref fa) →
      ∃ fd : FuncData, (∀ (s : Shared) (u : Value), BindsTo s fd ⟨[u], []⟩ [("script", u)]) ∧ ∀ base : Heap, (K w.params).In base → base.Ns mainGlobals mg → FnG l.prog w (K w.params) mg base CX0 10 fa fd ["script"] (spLaw (K w.params))) :
    PySem.W.WalkO q loose XP YP l.row.toRowW d [] (fun f vs => PySem.call f vs) :=
  walkG (n := 63) (k := 10) (x := "script") (CX := fun _ => CX0) (sp := fun w => spLaw (K w.params)) hn (by decide) hdf ⟨rfl, by decide, by decide⟩ hY F (fun _ _ a ns hl _ hS => ⟨a, ns, rfl, hS, hl, fun _ => rfl⟩) fun _ _ _ _ _ z => z
end K06
open PySem PySem.W PyProof.Rows
set_option maxRecDepth 100000 in
set_option maxHeartbeats 0 in
theorem PySem.Challenge.cw_grownquorums_k06_whole_completed_familie_holds : PySem.Challenge.rw_grownquorums_k06_whole_completed_familie.Holds := by
  w_on; o_law; k_head; (case hw => w_witness2)
  k_fill
  refine K06.walk (l := PySem.Challenge.rw_grownquorums_k06_whole_completed_familie) rfl rfl (fun w h Y => PySem.W.kIn_of Y) ?F
  case F =>
    intro w mg fa h KX G hmg
    refine' K06.all_mk KX G hmg ?a0 ?l0 ?c0 ?k0 ?a1 ?l1 ?c1 ?k1 ?a2 ?l2 ?c2 ?k2 ?a3 ?l3 ?c3 ?k3 ?a4 ?l4 ?c4 ?k4 ?a5 ?l5 ?c5 ?k5 ?a6 ?l6 ?c6 ?k6 ?a7 ?l7 ?c7 ?k7 ?a8 ?l8 ?c8 ?k8 ?a9 ?l9 ?c9 ?k9 ?a10 ?l10 ?c10 ?k10 ?a11 ?l11 ?c11 ?k11 ?a12 ?l12 ?c12 ?k12 ?a13 ?l13 ?c13 ?k13 ?a14 ?l14 ?c14 ?k14 ?a15 ?l15 ?c15 ?k15 ?a16 ?l16 ?c16 ?k16 ?a17 ?l17 ?c17 ?k17 ?a18 ?l18 ?c18 ?k18 ?a19 ?l19 ?c19 ?k19 ?a20 ?l20 ?c20 ?k20 ?a21 ?l21 ?c21 ?k21 ?a22 ?l22 ?c22 ?k22 ?a23 ?l23 ?c23 ?k23 ?a24 ?l24 ?c24 ?k24 ?a25 ?l25 ?c25 ?k25 ?a26 ?l26 ?c26 ?k26 ?a27 ?l27 ?c27 ?k27 ?a28 ?l28 ?c28 ?k28 ?a29 ?l29 ?c29 ?k29 ?a30 ?l30 ?c30 ?k30 ?a31 ?l31 ?c31 ?k31 ?a32 ?l32 ?c32 ?k32 ?z_abs ?z_all ?z_any ?z_bool ?z_int ?z_isinstance ?z_len ?z_list ?z_max ?z_min ?z_range ?z_repr ?z_set ?z_sorted ?z_tuple ?z_zip ?i__OUT_OF_REACH ?i__LEAST_WIDTH ?i__GREATEST_WIDTH ?gP_InvalidOperation ?xP_InvalidOperation ?kP_InvalidOperation ?bP_InvalidOperation ?tP_InvalidOperation ?iP_InvalidOperation ?sP_InvalidOperation
    (case a0 => k_is)
    (case l0 => k_is)
    (case c0 => k_is)
    (case k0 => k_is)
    (case a1 => k_is)
    (case l1 => k_is)
    (case c1 => k_is)
    (case k1 => k_is)
    (case a2 => k_is)
    (case l2 => k_is)
    (case c2 => k_is)
    (case k2 => k_is)
    (case a3 => k_is)
    (case l3 => k_is)
    (case c3 => k_is)
    (case k3 => k_is)
    (case a4 => k_is)
    (case l4 => k_is)
    (case c4 => k_is)
    (case k4 => k_is)
    (case a5 => k_is)
    (case l5 => k_is)
    (case c5 => k_is)
    (case k5 => k_is)
    (case a6 => k_is)
    (case l6 => k_is)
    (case c6 => k_is)
    (case k6 => k_is)
    (case a7 => k_is)
    (case l7 => k_is)
    (case c7 => k_is)
    (case k7 => k_is)
    (case a8 => k_is)
    (case l8 => k_is)
    (case c8 => k_is)
    (case k8 => k_is)
    (case a9 => k_is)
    (case l9 => k_is)
    (case c9 => k_is)
    (case k9 => k_is)
    (case a10 => k_is)
    (case l10 => k_is)
    (case c10 => k_is)
    (case k10 => k_is)
    (case a11 => k_is)
    (case l11 => k_is)
    (case c11 => k_is)
    (case k11 => k_is)
    (case a12 => k_is)
    (case l12 => k_is)
    (case c12 => k_is)
    (case k12 => k_is)
    (case a13 => k_is)
    (case l13 => k_is)
    (case c13 => k_is)
    (case k13 => k_is)
    (case a14 => k_is)
    (case l14 => k_is)
    (case c14 => k_is)
    (case k14 => k_is)
    (case a15 => k_is)
    (case l15 => k_is)
    (case c15 => k_is)
    (case k15 => k_is)
    (case a16 => k_is)
    (case l16 => k_is)
    (case c16 => k_is)
    (case k16 => k_is)
    (case a17 => k_is)
    (case l17 => k_is)
    (case c17 => k_is)
    (case k17 => k_is)
    (case a18 => k_is)
    (case l18 => k_is)
    (case c18 => k_is)
    (case k18 => k_is)
    (case a19 => k_is)
    (case l19 => k_is)
    (case c19 => k_is)
    (case k19 => k_is)
    (case a20 => k_is)
    (case l20 => k_is)
    (case c20 => k_is)
    (case k20 => k_is)
    (case a21 => k_is)
    (case l21 => k_is)
    (case c21 => k_is)
    (case k21 => k_is)
    (case a22 => k_is)
    (case l22 => k_is)
    (case c22 => k_is)
    (case k22 => k_is)
    (case a23 => k_is)
    (case l23 => k_is)
    (case c23 => k_is)
    (case k23 => k_is)
    (case a24 => k_is)
    (case l24 => k_is)
    (case c24 => k_is)
    (case k24 => k_is)
    (case a25 => k_is)
    (case l25 => k_is)
    (case c25 => k_is)
    (case k25 => k_is)
    (case a26 => k_is)
    (case l26 => k_is)
    (case c26 => k_is)
    (case k26 => k_is)
    (case a27 => k_is)
    (case l27 => k_is)
    (case c27 => k_is)
    (case k27 => k_is)
    (case a28 => k_is)
    (case l28 => k_is)
    (case c28 => k_is)
    (case k28 => k_is)
    (case a29 => k_is)
    (case l29 => k_is)
    (case c29 => k_is)
    (case k29 => k_is)
    (case a30 => k_is)
    (case l30 => k_is)
    (case c30 => k_is)
    (case k30 => k_is)
    (case a31 => k_is)
    (case l31 => k_is)
    (case c31 => k_is)
    (case k31 => k_is)
    (case a32 => k_is)
    (case l32 => k_is)
    (case c32 => k_is)
    (case k32 => k_is)
    (case z_abs => k_is)
    (case z_all => k_is)
    (case z_any => k_is)
    (case z_bool => k_is)
    (case z_int => k_is)
    (case z_isinstance => k_is)
    (case z_len => k_is)
    (case z_list => k_is)
    (case z_max => k_is)
    (case z_min => k_is)
    (case z_range => k_is)
    (case z_repr => k_is)
    (case z_set => k_is)
    (case z_sorted => k_is)
    (case z_tuple => k_is)
    (case z_zip => k_is)
    (case i__OUT_OF_REACH => k_is)
    (case i__LEAST_WIDTH => k_is)
    (case i__GREATEST_WIDTH => k_is)
    (case gP_InvalidOperation => k_is)
    (case kP_InvalidOperation => k_is)
    (case bP_InvalidOperation => k_is)
    (case tP_InvalidOperation => k_is)
    (case iP_InvalidOperation => k_is)
    (case sP_InvalidOperation => k_is)
    (case xP_InvalidOperation => k_exc)
