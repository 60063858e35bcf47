import PyProof.Rows.All
import Wide.All
import OpenK.AllK
import Wide.FinOn
import HandS.ForMost
import HandS.EndBits
import HandS.Walk
import HandS.IsInst
import HandS.TupLe
import HandS.Wide
import HandS.Codes
import HandS.JoinGen
import HandS.DeepEq
import PySem.Challenge.RW_reentry_k02_names_and_sizes
set_option Elab.async false
set_option linter.all false
set_option maxRecDepth 100000
/-! Defs that are called where no repr is under way: their promise, their body, their call, the law's own call. -/
namespace Jo
open PySem PySem.Spec PyProof.Rows L2

/-- a def's promise, kept wherever no repr is under way -/
structure FnG (P : Program) (w : World) (K : PySem.W.Frag) (mg : Str → Option Value) (base : Heap)
    (k : Nat) (f : Addr) (fd : FuncData) (ps : List Str) (sp : Sp) : Prop where
  len : ∀ vs H Q E, sp vs H Q E → vs.length = ps.length
  go : ∀ (A : Around) (fr : List Env) (s : Shared) (H : Hp) (args : Args) (us : List Value) (vs : List V) (Q : VK) (E : XK),
    Room k A → A.guards = some [] → Env0 P w K mg base A fr s H → BindsTo s fd args (ps.zip us) → Vals vs us →
    sp vs H Q E → codeAny (model P w) A (.call (.ref f) args) (CR CX0 fr P w H s Q E) s

section
variable {P : Program} {w : World} {K : PySem.W.Frag} {mg : Str → Option Value} {base : Heap}

theorem FnG.of {k : Nat} {f : Addr} {fd : FuncData} {ps : List Str} {sp : Sp}
    (F : FnOk P w K mg base CX0 k f fd ps sp) : FnG P w K mg base k f fd ps sp :=
  ⟨F.len, fun A fr s H args us vs Q E hr _ e hb hv hs => F.run A fr s H args us vs Q E hr e hb hv hs⟩
theorem FnG.mono {j k : Nat} {f : Addr} {fd : FuncData} {ps : List Str} {sp : Sp}
    (F : FnG P w K mg base j f fd ps sp) (h : j ≤ k) : FnG P w K mg base k f fd ps sp :=
  ⟨F.len, fun A fr s H args us vs Q E hr => F.go A fr s H args us vs Q E (hr.mono h)⟩

/-- a def by its body; the body may lean on it that no repr is under way -/
theorem fun_okG {k : Nat} {x qual : Str} {st : Stmt} {f : Addr} {fd : FuncData} {N ps : List Str} {sp : Sp}
    (F : Fun K x qual st f fd) (S : FnScope N ps (defScope st))
    (len : ∀ vs H Q E, sp vs H Q E → vs.length = ps.length)
    (body : ∀ (cdv : Value) (A : Around) (fr : List Env) (s : Shared) (H : Hp) (vs : List V) (Q : VK) (E : XK),
      Room k (A.deeper (envOfC qual (defScope st) s.heap.objs.size f cdv)) → A.guards = some [] → sp vs H Q E →
      ∃ t, PSs (cxOf CX0 P w K mg base N qual (defScope st) f cdv A fr s H E).nox (defBody st) t ∧
        t { nx := fun _ H' => Q .non H', rt := Q } (start N vs) H) :
    FnG P w K mg base (k + 1) f fd ps sp := by
  obtain ⟨oc, od, kV, doc, pm, an, cdv, ct, osl, rfl, lk, hcd⟩ := F.ex
  refine ⟨len, fun A fr s H args us vs Q E hr hgd e0 hb r hsp => ?_⟩
  have keepB : ∀ b o, base.get? b = some o → s.heap.get? b = some o := fun b o e => (e0.bs b o e).1
  have KX := e0.mod.kin.keeps keepB
  have nolim := e0.mod.nolimit.keeps keepB
  refine codeAny_call_function hr.depth (KX _ _ lk) rfl S.co S.gen rfl (PySem.W.codeRec_of KX hcd) (hb _ _ _ _ ?_)
  refine wpAny_newFunctionEnv_cells S.kind (fun ⟨n, v⟩ hy => ?_) fun env he s1 x => ?_
  · cases S.par n (List.of_mem_zip hy).1 with
    | inl q => exact .inl q
    | inr q => exact .inr ⟨q, PySem.W.cellsFrom_some _ _ _ (.inl q)⟩
  · subst he
    refine ⟨nolim.keeps x.toInCall.keep, codeAny_func ?_⟩
    obtain ⟨t, ht, hq⟩ := body cdv A fr s H vs Q E (hr.deeper _) hgd hsp
    have I := inv_start (CX := CX0) (E := E) S hr.hd e0 (len _ _ _ _ hsp) r x
    refine wpAny_mono (ht.nox.run [] s1 (start N vs) H _ I hq) (fun fl s' hs => ?_) fun _ _ hs => hs
    cases fl with
    | brk => obtain ⟨_, _, _, q⟩ := hs; exact q.elim
    | cont => obtain ⟨_, _, _, q⟩ := hs; exact q.elim
    | ret u =>
      obtain ⟨v, _, H', J, rv, q⟩ := hs
      exact ⟨v, H', J.os, J.bare, J.base, J.hok, rv, q⟩
    | next =>
      obtain ⟨_, H', J, q⟩ := hs
      exact ⟨V.non, H', J.os, J.bare, J.base, J.hok, rfl, q⟩
end

section
variable {X : Cx} {k : Nat} {f : Addr} {fd : FuncData} {ps : List Str} {sp : Sp} {dvs : List V} {ds : List Value}
  {E : XK} {x : Str} {p pos : Pos} {e : Expr} {es : List Expr} {t : TA}

theorem runG {pins : List (Addr × Obj)} {σ : L2.St} {H : Hp} {s : Shared} {Q : VK} {us : List Value} {vs : List V}
    (F : FnG X.prog X.w X.K X.mg X.base k f fd ps sp) (hr : Room k X.A) (hgd : X.A.guards = some [])
    (hb : Binds X.K fd ps ds) (hd : Vals dvs ds) (hx : Passes CX0 X E) (I : Inv X pins σ H s) (r : Vals vs us)
    (h : sp (vs ++ dvs) H Q E) : wpAny (model X.prog X.w) X.A (call (.ref f) us) (EP X pins σ Q) X.xe s := by
  have r2 := r.append hd
  have hl : (us ++ ds).length = ps.length := r2.length.symm.trans (F.len _ _ _ _ h)
  have run := F.go X.A X.stack s H ⟨us, []⟩ _ _ Q E hr hgd I.env0 (hb s us I.kIn hl) r2 h
  refine wpAny_call (codeAny_mono run fun r s' hq => ?_)
  match r, hq with
  | .error e, hq => exact hx pins σ H s e s' I hq
  | .ok (.ret u), hq => exact I.after hq
  | .ok .next, hq => exact (show False from hq).elim
  | .ok .brk, hq => exact (show False from hq).elim
  | .ok .cont, hq => exact (show False from hq).elim

theorem pe_callG (F : FnG X.prog X.w X.K X.mg X.base k f fd ps sp) (hr : Room k X.A) (hgd : X.A.guards = some [])
    (hg : Gl X x) (hm : X.mg x = some (.ref f)) (hk : PySem.W.keepIn X.K (.ref f) = true) (hb : Binds X.K fd ps ds)
    (hd : Vals dvs ds) (hx : Passes CX0 X E) (ha : PA X (e :: es) t) (hdb : (x == ("__debug__" : Str)) = false := by decide)
    (he : starEach (e :: es) X.env = (false, eval e X.env) :: starEach es X.env := by rfl)
    (hpl : (backTo pos (starEach es X.env)).any (·.1) = false := by rfl) :
    PE X (.Call (.Name x p) (e :: es) [] pos) (tCall sp dvs E t) := by
  refine ⟨fun pins s σ H Q I h => wpAny_Call_Name_kw (ld_glob I hg hm ?_ hdb)⟩
  exact PySem.W.callWith_K (h₀ := X.base) I.ok.mod.kin hk
    (thn (ha.run pos pins s σ H _ I h) fun us s1 ⟨vs, H1, I1, r, q⟩ => ⟨I1.kIn, runG F hr hgd hb hd hx I1 r q⟩) he hpl
theorem pe_callG0 (F : FnG X.prog X.w X.K X.mg X.base k f fd ps sp) (hr : Room k X.A) (hgd : X.A.guards = some [])
    (hg : Gl X x) (hm : X.mg x = some (.ref f)) (hk : PySem.W.keepIn X.K (.ref f) = true) (hb : Binds X.K fd ps ds)
    (hd : Vals dvs ds) (hx : Passes CX0 X E) (hdb : (x == ("__debug__" : Str)) = false := by decide) :
    PE X (.Call (.Name x p) [] [] pos) (tCall sp dvs E tNil) :=
  ⟨fun pins s σ H Q I h => wpAny_Call_Name_kw (ld_glob I hg hm
    (PySem.W.callWith_K0 I.kIn hk (runG (us := []) F hr hgd hb hd hx I .nil h)) hdb)⟩
end

/-! ### the law's own call -/
section
variable {P : Program} {w : World} {K : PySem.W.Frag} {mg mb : Str → Option Value}
theorem law_callG {k : Nat} {fa a : Addr} {fd : FuncData} {x : Str} {sp : Sp} {s₁ : Shared} {vs : List Value} {ns : List Int}
    (KX : K.In s₁.heap) (hns : s₁.heap.Ns mainGlobals mg) (hb : s₁.heap.Ns builtinsNs mb)
    (hbb : ∀ x : Str, x ≠ "__name__" → mb x = bootBuiltins x) (hlim : s₁.heap.NoLimit) (hg : s₁.gens = #[])
    (ha : s₁.heap.get? a = some { cls := .type "list", data := .seq vs.toArray }) (hi : IntsAre vs ns)
    (hl : ns.length ≤ sizeLine) (hr : Room k callerA)
    (F : ∀ base : Heap, K.In base → base.Ns mainGlobals mg → FnG P w K mg base k fa fd [x] sp)
    (hbind : ∀ (s : Shared) (u : Value), BindsTo s fd ⟨[u], []⟩ [(x, u)])
    (hsp : ∀ H : Hp, Only H → SqL K H a (ns.map V.int) → sp [.ref a] H (fun v _ => v = .bl true) fun _ _ _ => False) :
    codeAny (model P w) callerA (.call (.ref fa) ⟨[.ref a], []⟩)
      (fun r s' => r = .ok (.ret (.bool true)) ∧ OldK s₁.heap s'.heap ∧ s'.os = s₁.os ∧ AllBare s'.gens) s₁ := by
  have rv := vals_ints hi
  -- the script's place: hidden if it is tracked (it is, unless the module itself has it)
  let T : Hp := fun b => match K.lookup a with
    | some _ => none
    | none => if b = a then some (.frz { cls := .type "list", data := .seq vs.toArray } (.lst (ns.map V.int))) else none
  have hT : ∀ b o, T b = some o → b = a ∧ K.lookup a = none ∧ o = .frz { cls := .type "list", data := .seq vs.toArray } (.lst (ns.map V.int)) := fun b o e => by
    revert e
    show (match K.lookup a with | some _ => none | none => if b = a then some _ else none) = some o → _
    cases hk : K.lookup a with
    | some z => intro e; cases e
    | none =>
      intro e
      by_cases hba : b = a
      · have e2 := (if_pos hba).symm.trans e
        cases e2
        exact ⟨hba, rfl, rfl⟩
      · have e2 := (if_neg hba).symm.trans e
        cases e2
  have hOnly : Only T := fun b => by
    cases q : T b with
    | none => exact .inl rfl
    | some o =>
      obtain ⟨_, _, e⟩ := hT b o q
      exact .inr ⟨_, _, by rw [e]⟩
  have hok : HOk P w T s₁.heap := fun b o e => by
    obtain ⟨rfl, _, rfl⟩ := hT b o e
    exact ⟨ha, by rw [List.length_map]; exact hl, vs, _, rv, ha⟩
  have hS : SqL K T a (ns.map V.int) := by
    cases hk : K.lookup a with
    | some o =>
      have e := KX a o hk
      rw [ha] at e
      cases e
      exact .inr ⟨_, vs.toArray, _, hk, rfl, rfl, rfl, by rw [List.size_toArray, hi.length]; exact hl, by simpa using rv⟩
    | none =>
      refine .inl (.inr ⟨{ cls := .type "list", data := .seq vs.toArray }, ?_⟩)
      show (match K.lookup a with | some _ => none | none => if a = a then some _ else none) = some _
      rw [hk]
      exact if_pos rfl
  -- what is no list is not hidden
  have free : ∀ {b : Addr} {o : Obj}, s₁.heap.get? b = some o → (∀ q n, o.data ≠ .seq q n) → T b = none := fun {b o} e hn => by
    cases q : T b with
    | none => rfl
    | some u =>
      obtain ⟨rfl, _, _⟩ := hT b u q
      rw [ha] at e
      cases e
      exact absurd rfl (hn _ _)
  have seen : ∀ {b : Addr} {o : Obj}, s₁.heap.get? b = some o → T b = none → (hidT s₁.heap T).get? b = some o := fun e n => hidT_get e n
  have nsB : ∀ {b : Addr} {m : Str → Option Value}, s₁.heap.Ns b m → (hidT s₁.heap T).Ns b m :=
    fun ⟨o, es, ep, e, d, r⟩ => ⟨o, es, ep, seen e (free e fun q n z => by rw [d] at z; cases z), d, r⟩
  have kB : K.In (hidT s₁.heap T) := fun b o e => seen (KX b o e) (by
    cases q : T b with
    | none => rfl
    | some u =>
      obtain ⟨rfl, hk, _⟩ := hT b u q
      rw [hk] at e
      cases e)
  obtain ⟨mc, l1, l2⟩ := hlim
  have hM : Mod K mg (hidT s₁.heap T) := ⟨kB, nsB hns, ⟨mb, nsB hb, hbb⟩, ⟨mc, nsB l1, l2⟩⟩
  have none0 : ∀ b : Addr, b ∉ ([] : List Addr) := fun b z => nomatch z
  have e0 : Env0 P w K mg (hidT s₁.heap T) callerA [] s₁ T :=
    ⟨rfl, hM, fun b o e => of_hidT e, Nat.le_of_eq (hidT_size _ _), trivial, fun b z => absurd z (none0 b), hok, .of_eq hg⟩
  have run := (F _ kB (nsB hns)).go callerA [] s₁ T ⟨[.ref a], []⟩ [.ref a] [.ref a] _ _ hr rfl e0 (hbind s₁ (.ref a)) (.cons rfl .nil) (hsp T hOnly hS)
  refine codeAny_mono run fun r s' h => ?_
  match r, h with
  | .error e, h => exact (show False from h).elim
  | .ok .next, h => exact (show False from h).elim
  | .ok .brk, h => exact (show False from h).elim
  | .ok .cont, h => exact (show False from h).elim
  | .ok (.ret u), h =>
    obtain ⟨v, H', os, bare, un, hok', r', q⟩ := h
    cases (show v = V.bl true from q)
    cases (show u = Value.bool true from r')
    refine ⟨rfl, OldK.of_keep fun b o e => ?_, os, bare⟩
    cases q : T b with
    | none => exact un.keep b o e q (none0 b) (none0 b)
    | some u =>
      obtain ⟨rfl, _, rfl⟩ := hT b u q
      obtain ⟨e1, _⟩ := hok' b _ (un.frzs b _ _ q)
      rw [ha] at e
      cases e
      exact e1
theorem walk_ofG {l : PySem.W.OpenLaw} {n k : Nat} {q : Program} {loose : List Str} {XP : (Str → Option Value) → Heap → Prop}
    {YP : World → Heap → Prop} {d : DefRec} {KK : Params → PySem.W.Frag} {sp : PySem.W.Frag → Sp} {x : Str}
    (hn : l.most = some n) (hn2 : n ≤ sizeLine) (hdf : d.params.defaults = []) (hr : Room k callerA)
    (hY : ∀ (w : World) (h : Heap), YP w h → (KK w.params).In h)
    (F : ∀ (w : World) (mg : Str → Option Value) (fa : Addr) (h : Heap), (KK w.params).In h → h.Ns mainGlobals mg → mg d.name = some (.ref fa) →
      ∃ fd : FuncData, (∀ (s : Shared) (u : Value), BindsTo s fd ⟨[u], []⟩ [(x, u)]) ∧
        ∀ base : Heap, (KK w.params).In base → base.Ns mainGlobals mg → FnG l.prog w (KK w.params) mg base k fa fd [x] (sp (KK w.params)))
    (hsp : ∀ (K : PySem.W.Frag) (H : Hp) (a : Addr) (ns : List Int), ns.length ≤ n → (∀ z ∈ ns, Builtin.Int.intBits z ≤ 1048576) → Only H →
      SqL K H a (ns.map V.int) → sp K [.ref a] H (fun v _ => v = .bl true) fun _ _ _ => False) :
    PySem.W.WalkO q loose XP YP l.row.toRowW d [] (fun f vs => PySem.call f vs) := by
  refine Att.attach_callB hn hdf fun w s₀ s₁ mg mb fa o pm cd doc a vs ns G Y ho hd hcd hmg hobj hints hlen hbits hg => ?_
  obtain ⟨fd, hb, hF⟩ := F w mg fa _ (hY w _ Y) G.T.g hmg
  exact law_callG (hY w _ Y) G.T.g G.T.b G.T.builtins G.T.nolimit hg hobj hints (Nat.le_trans hlen hn2) hr hF hb
    fun H hO hS => hsp _ H a ns hlen hbits hO hS
end
end Jo

set_option Elab.async false
set_option linter.all false
set_option maxRecDepth 100000
/-! repr of lists and tuples of any depth, no repr being under way. -/
namespace Jo
open PySem PySem.Spec PyProof.Rows L2

/-- x is the data d, nested less than n deep -/
def Shw (K : PySem.W.Frag) (H : Hp) : Nat → V → PyData → Prop
  | 0 => fun _ _ => False
  | n + 1 => fun x d =>
    (x = .non ∧ d = .none) ∨ (∃ b, x = .bl b ∧ d = .bool b) ∨ (∃ i, x = .int i ∧ d = .int i) ∨ (∃ z, x = .str z ∧ d = .str z) ∨
    (∃ a xs ds, x = .ref a ∧ d = .list ds ∧ SqL K H a xs ∧ Paired (Shw K H n) xs ds) ∨
    (∃ a xs ds, x = .ref a ∧ d = .tuple ds ∧ SqT K H a xs ∧ Paired (Shw K H n) xs ds)
theorem Shw.none {K : PySem.W.Frag} {H : Hp} {n : Nat} : Shw K H (n + 1) .non .none := .inl ⟨rfl, rfl⟩
theorem Shw.bl {K : PySem.W.Frag} {H : Hp} {n : Nat} (b : Bool) : Shw K H (n + 1) (.bl b) (.bool b) := .inr (.inl ⟨b, rfl, rfl⟩)
theorem Shw.int {K : PySem.W.Frag} {H : Hp} {n : Nat} (i : Int) : Shw K H (n + 1) (.int i) (.int i) := .inr (.inr (.inl ⟨i, rfl, rfl⟩))
theorem Shw.str {K : PySem.W.Frag} {H : Hp} {n : Nat} (z : Str) : Shw K H (n + 1) (.str z) (.str z) := .inr (.inr (.inr (.inl ⟨z, rfl, rfl⟩)))
theorem Shw.lst {K : PySem.W.Frag} {H : Hp} {n : Nat} {a : Addr} {xs : List V} {ds : List PyData} (h : SqL K H a xs)
    (p : Paired (Shw K H n) xs ds) : Shw K H (n + 1) (.ref a) (.list ds) := .inr (.inr (.inr (.inr (.inl ⟨a, xs, ds, rfl, rfl, h, p⟩))))
theorem Shw.tup {K : PySem.W.Frag} {H : Hp} {n : Nat} {a : Addr} {xs : List V} {ds : List PyData} (h : SqT K H a xs)
    (p : Paired (Shw K H n) xs ds) : Shw K H (n + 1) (.ref a) (.tuple ds) := .inr (.inr (.inr (.inr (.inr ⟨a, xs, ds, rfl, rfl, h, p⟩))))

section
variable {X : Cx} {pins : List (Addr × Obj)} {σ : L2.St} {H : Hp} {s : Shared}
theorem readsAll_of {F : V → PyData → Prop} {h : Heap} (f : ∀ x d v, F x d → RelV x v → ∃ as, Reads h v d as) {xs : List V} {ds : List PyData}
    (p : Paired F xs ds) : ∀ {us : List Value}, Vals xs us → ∃ as, ReadsAll h us ds as := by
  induction p with
  | nil =>
    intro us r
    cases r
    exact ⟨_, .nil⟩
  | cons q _ ih =>
    intro us r
    cases r with
    | cons r1 r2 =>
      obtain ⟨as, h1⟩ := f _ _ _ q r1
      obtain ⟨bs, h2⟩ := ih r2
      exact ⟨_, .cons h1 h2⟩
theorem reads_of (I : Inv X pins σ H s) : ∀ (n : Nat) (x : V) (d : PyData) (v : Value), Shw X.K H n x d → RelV x v → ∃ as, Reads s.heap v d as
  | 0, _, _, _, h, _ => (show False from h).elim
  | n + 1, x, d, v, h, r => by
    rcases h with ⟨rfl, rfl⟩ | ⟨b, rfl, rfl⟩ | ⟨i, rfl, rfl⟩ | ⟨z, rfl, rfl⟩ | ⟨a, xs, ds, rfl, rfl, hs, p⟩ | ⟨a, xs, ds, rfl, rfl, hs, p⟩
    · cases (show v = Value.none from r)
      exact ⟨_, .none⟩
    · cases (show v = Value.bool b from r)
      exact ⟨_, .bool b⟩
    · obtain ⟨t, rfl⟩ := (show ∃ t, v = Value.int i t from r)
      exact ⟨_, .int i t⟩
    · obtain ⟨t, rfl⟩ := (show ∃ t, v = Value.str z t from r)
      exact ⟨_, .str z t⟩
    · cases (show v = Value.ref a from r)
      obtain ⟨its, rv, ⟨o, c, e1, e2, _, e4⟩, _⟩ := I.list hs
      obtain ⟨as, ra⟩ := readsAll_of (reads_of I n) p rv
      exact ⟨_, .list e1 e2 e4 (by simpa using ra)⟩
    · cases (show v = Value.ref a from r)
      obtain ⟨its, rv, ⟨o, e1, e2, c, e4⟩, _⟩ := I.tuple hs
      obtain ⟨as, ra⟩ := readsAll_of (reads_of I n) p rv
      exact ⟨_, .tuple e1 e2 e4 (by simpa using ra)⟩
/-- repr(xs), repr((a, b)) -/
def rRepr (K : PySem.W.Frag) : List V → Hp → VK → Prop := fun xs H Q => ∃ (a : Addr) (d : PyData) (n : Nat),
  xs = [.ref a] ∧ Shw K H n (.ref a) d ∧ d.showable = true ∧ d.hasDict = false ∧ d.depth ≤ 60 ∧ d.shown.length ≤ sizeLine ∧ Q (.str d.shown) H
theorem call_repr (hgd : X.A.guards = some []) (hu : X.A.units + 64 < cLine) : CallR X (.builtin "repr") (rRepr X.K) := by
  intro pins s σ H xs us Q I r h
  obtain ⟨a, d, n, rfl, hw, h1, h2, h3, h4, q⟩ := h
  obtain ⟨u, rfl, ru⟩ := vals1 r
  cases (show u = Value.ref a from ru)
  obtain ⟨as, rd⟩ := reads_of I n _ d _ hw rfl
  exact repr_of_reads' rd h1 (PyData.noDict_hsm h2) hgd (by omega) (fun _ _ e => e)
    (fun h' u tk hk => ⟨.str d.shown, H, I.kept hk, ⟨_, rfl⟩, q⟩) h4
end
end Jo

set_option Elab.async false
set_option linter.all false
set_option maxRecDepth 100000
/-! Defs by name: made, called by position and by name. -/
namespace Jo
open PySem PySem.Spec PyProof.Rows L2

/-- the name x of the module holds the def st with the parameters ps; it binds what is passed by position, and by name in the parameters' order -/
structure Dfn (K : PySem.W.Frag) (mg : Str → Option Value) (x : Str) (st : Stmt) (ps : List Str) : Prop where
  ex : ∃ (f : Addr) (fd : FuncData), Fun K x x st f fd ∧ mg x = some (.ref f) ∧ Binds K fd ps [] ∧
    ∀ (s : Shared) (us : List Value), us.length = ps.length → BindsTo s fd ⟨[], ps.zip us⟩ (ps.zip us)
/-- the name x of the module holds a def that keeps the promise sp -/
structure CalG (P : Program) (w : World) (K : PySem.W.Frag) (mg : Str → Option Value) (base : Heap) (k : Nat) (x : Str) (ps : List Str) (sp : Sp) : Prop where
  ex : ∃ (f : Addr) (fd : FuncData), FnG P w K mg base k f fd ps sp ∧ mg x = some (.ref f) ∧ PySem.W.keepIn K (.ref f) = true ∧ Binds K fd ps [] ∧
    ∀ (s : Shared) (us : List Value), us.length = ps.length → BindsTo s fd ⟨[], ps.zip us⟩ (ps.zip us)
section
variable {P : Program} {w : World} {K : PySem.W.Frag} {mg : Str → Option Value} {base : Heap} {x : Str} {st : Stmt} {N ps : List Str} {sp : Sp} {k : Nat}
theorem Dfn.ok (D : Dfn K mg x st ps) (S : FnScope N ps (defScope st))
    (len : ∀ vs H Q E, sp vs H Q E → vs.length = ps.length)
    (body : ∀ (f : Addr) (cdv : Value) (A : Around) (fr : List Env) (s : Shared) (H : Hp) (vs : List V) (Q : VK) (E : XK),
      Room k (A.deeper (envOfC x (defScope st) s.heap.objs.size f cdv)) → A.guards = some [] → sp vs H Q E →
      ∃ t, PSs (cxOf CX0 P w K mg base N x (defScope st) f cdv A fr s H E).nox (defBody st) t ∧
        t { nx := fun _ H' => Q .non H', rt := Q } (start N vs) H) :
    CalG P w K mg base (k + 1) x ps sp := by
  obtain ⟨f, fd, F, hm, hb, hk⟩ := D.ex
  exact ⟨f, fd, fun_okG F S len (body f), hm, F.kp, hb, hk⟩
theorem CalG.imp {sp' : Sp} (c : CalG P w K mg base k x ps sp) (h : ∀ vs H Q E, sp' vs H Q E → sp vs H Q E) : CalG P w K mg base k x ps sp' := by
  obtain ⟨f, fd, F, hm, kp, hb, hk⟩ := c.ex
  exact ⟨f, fd, ⟨fun vs H Q E q => F.len vs H Q E (h _ _ _ _ q), fun A fr s H args us vs Q E hr hg e b r q => F.go A fr s H args us vs Q E hr hg e b r (h _ _ _ _ q)⟩, hm, kp, hb, hk⟩
/-- from what the top has left -/
theorem dfn_mk {l : Heap} {fa : Addr} {od an : Option Addr} {sl : Array (Option Value)} {oc kV dc pm cd ct : Value} (I : K.In l) (G : l.Ns mainGlobals mg)
    (a : PySem.W.nsIn K mainGlobals x = some (some (.ref fa)))
    (q : K.lookup fa = some ⟨oc, od, .func (PySem.W.fnOf x x (defArgs st) (defBody st) (defScope st) .none kV dc pm an cd ct), sl⟩)
    (c : PySem.W.codeIn K cd x = true) (kp : PySem.W.keepIn K (.ref fa) = true)
    (hb : ∀ us : List Value, us.length = ps.length → bindArgs (PySem.W.fnOf x x (defArgs st) (defBody st) (defScope st) .none kV dc pm an cd ct) ⟨us, []⟩ = pure (ps.zip us))
    (hk : ∀ us : List Value, us.length = ps.length → bindArgs (PySem.W.fnOf x x (defArgs st) (defBody st) (defScope st) .none kV dc pm an cd ct) ⟨[], ps.zip us⟩ = pure (ps.zip us)) :
    Dfn K mg x st ps :=
  ⟨fa, _, fun_mk q c kp, PySem.W.mg_of I G a, .all hb, fun s us hl => .of_eq (hk us hl)⟩
end
section
variable {X : Cx} {j k : Nat} {ps : List Str} {sp : Sp} {x : Str} {p pos : Pos} {e : Expr} {es : List Expr} {kws : List Keyword} {t : TA}
theorem pe_cG (c : CalG X.prog X.w X.K X.mg X.base k x ps sp) (hr : Room j X.A) (hk : k ≤ j) (hgd : X.A.guards = some []) (hg : Gl X x)
    (ha : PA X (e :: es) t) (hdb : (x == ("__debug__" : Str)) = false := by decide)
    (he : starEach (e :: es) X.env = (false, eval e X.env) :: starEach es X.env := by rfl)
    (hpl : (backTo pos (starEach es X.env)).any (·.1) = false := by rfl) :
    PE X (.Call (.Name x p) (e :: es) [] pos) (tCall sp [] E0 t) := by
  obtain ⟨f, fd, F, hm, kp, b, _⟩ := c.ex
  exact pe_callG F (hr.mono hk) hgd hg hm kp b .nil pass0 ha hdb he hpl
theorem pe_cG0 (c : CalG X.prog X.w X.K X.mg X.base k x ps sp) (hr : Room j X.A) (hk : k ≤ j) (hgd : X.A.guards = some []) (hg : Gl X x)
    (hdb : (x == ("__debug__" : Str)) = false := by decide) :
    PE X (.Call (.Name x p) [] [] pos) (tCall sp [] E0 tNil) := by
  obtain ⟨f, fd, F, hm, kp, b, _⟩ := c.ex
  exact pe_callG0 F (hr.mono hk) hgd hg hm kp b .nil pass0 hdb
theorem vals_len {vs : List V} {us : List Value} (r : Vals vs us) : vs.length = us.length := r.length
/-- f(a=.., b=..), the names in the parameters' order -/
theorem pe_kG (c : CalG X.prog X.w X.K X.mg X.base k x ps sp) (hr : Room j X.A) (hk : k ≤ j) (hgd : X.A.guards = some []) (hg : Gl X x)
    (hkw : PK X kws t) (hall : (backToKw pos (keywordEach kws X.env)).all (·.1.isSome) = true := by rfl)
    (hks : (backToKw pos (keywordEach kws X.env)).filterMap (·.1) = ps := by rfl)
    (hdb : (x == ("__debug__" : Str)) = false := by decide)
    (hpl : ((backTo pos (starEach [] X.env)).any (·.1) || (backToKw pos (keywordEach kws X.env)).any (·.1.isNone)) = false := by rfl) :
    PE X (.Call (.Name x p) [] kws pos) (tCall sp [] E0 t) := by
  obtain ⟨f, fd, F, hm, kp, _, b⟩ := c.ex
  refine ⟨fun pins s σ H Q I h => wpAny_Call_Name_kw (ld_glob I hg hm ?_ hdb)⟩
  refine PySem.W.callWith_KW0 (h₀ := X.base) I.ok.mod.kin kp hall (thn (hkw.run pos pins s σ H _ I h) fun ws s2 ⟨zs, H2, I2, rz, q2⟩ => ⟨I2.kIn, ?_⟩) hpl
  rw [hks]
  have q1 : sp (zs ++ []) H2 Q E0 := q2
  have q3 : sp zs H2 Q E0 := by rw [List.append_nil] at q1; exact q1
  have hl : ws.length = ps.length := rz.length.symm.trans (F.len _ _ _ _ q3)
  have run := F.go X.A X.stack s2 H2 ⟨[], ps.zip ws⟩ ws zs Q E0 (hr.mono hk) hgd I2.env0 (b s2 ws hl) rz q3
  refine wpAny_call (codeAny_mono run fun r s' hq => ?_)
  match r, hq with
  | .error e, hq => exact (pass0 : Passes CX0 X E0) pins σ H2 s2 e s' I2 hq
  | .ok (.ret u), hq => exact I2.after hq
  | .ok .next, hq => exact (show False from hq).elim
  | .ok .brk, hq => exact (show False from hq).elim
  | .ok .cont, hq => exact (show False from hq).elim
end
end Jo

set_option Elab.async false
set_option linter.all false
set_option maxRecDepth 100000
namespace Jo
open PySem PySem.Spec PyProof.Rows L2
def top (i : Nat) : Stmt := PySem.Challenge.pw_reentry_k02_names_and_sizes.main.body.getD i (.Pass ⟨0, 0, 0, 0⟩)
abbrev s_is_name : Stmt := top 5
abbrev s_is_size : Stmt := top 6
abbrev s_is_integer : Stmt := top 7

/-! ### a comprehension whose items are reckoned from the turn, the heap staying -/
theorem lc_fun {J : It} {n : Nat} {Y : Nat → Hp → V → Hp → Prop} (w : Walk J n (fun _ => True) Y) {g : TG} {te : TE} {vs : List Nat} {σ : L2.St}
    {H1 : Hp} {D : Addr} {Qd : Hp → Prop} (f : Nat → V) (hn : n < sizeLine)
    (hs : ∀ (i : Nat) (x : V) (H H' : Hp) (Q : VK), i < n → Y i H x H' → Q (f i) H →
      g x (wipe σ vs) H' fun σ2 H2 => wipe σ2 vs = wipe σ vs ∧ te σ2 H2 Q)
    (hd : Qd (upd H1 D (.lst ((List.range n).map f)))) :
    ∃ W : Nat → Nat → Hp → Prop, (∃ m, W 0 m (upd H1 D (.lst []))) ∧ ∀ i m H, W i m H →
      (J.stop i H ∧ Qd H) ∨ (J.go i H ∧ ∃ Nx : Hp → Prop, (∀ H', Nx H' → ∃ m', m' < m ∧ W (i + 1) m' H') ∧
        ∀ x H', J.yld i H x H' → g x (wipe σ vs) H' fun σ2 H2 => wipe σ2 vs = wipe σ vs ∧ tYes σ2 H2 fun b H3 =>
          if b = true then te σ2 H3 fun y H4 => ∃ acc, H4 D = some (.lst acc) ∧ acc.length < sizeLine ∧ Nx (upd H4 D (.lst (acc ++ [y]))) else Nx H3) := by
  refine lc_it w (fun i H => i ≤ n ∧ H = upd H1 D (.lst ((List.range i).map f))) ⟨Nat.zero_le _, rfl⟩ (fun _ _ _ _ => trivial) (fun i x H H' hi hp hy => ?_) (fun H hp => ?_)
  · obtain ⟨_, rfl⟩ := hp
    refine hs i x _ H' (fun y H4 => ∃ acc, H4 D = some (.lst acc) ∧ acc.length < sizeLine ∧ (i + 1 ≤ n ∧ upd H4 D (.lst (acc ++ [y])) = upd H1 D (.lst ((List.range (i + 1)).map f)))) hi hy ?_
    refine ⟨_, upd_same, ?_, hi, ?_⟩
    · rw [List.length_map, List.length_range]
      exact Nat.lt_trans hi hn
    · rw [List.range_succ, List.map_append]
      funext b
      by_cases hb : b = D
      · subst hb
        rw [upd_same, upd_same]
        rfl
      · rw [upd_ne hb, upd_ne hb, upd_ne hb]
  · rw [hp.2]
    exact hd

/-! ### what a value is -/
def isI : V → Bool | .int _ => true | _ => false
def isS : V → Bool | .str _ => true | _ => false
def isSz : V → Bool | .int n => decide (1 ≤ n) && decide (n ≤ 40) | _ => false
def letters : Str := Str.ofString "abcdefghijklmnopqrstuvwxyz"
def signs : Str := Str.ofString "abcdefghijklmnopqrstuvwxyz0123456789"
def nmS (z : Str) : Bool := (decide (1 ≤ (z.length : Int)) && decide ((z.length : Int) ≤ 8)) &&
  (decide (z.cps.getD 0 0 ∈ letters.cps.toList) && ((List.range z.cps.size).map fun i => decide (z.cps.getD i 0 ∈ signs.cps.toList)).all id)
def isNm : V → Bool | .str z => nmS z | _ => false
/-- a value of any of the built-in kinds, as isinstance sees it -/
def AnyV (K : PySem.W.Frag) (H : Hp) (x : V) : Prop := ∃ (t : Value) (i b s : Bool), TyX K H x t ∧ PySem.W.kitOne K t (.type "int") = some i ∧
  PySem.W.kitOne K t (.type "bool") = some b ∧ PySem.W.kitOne K t (.type "str") = some s ∧ (i && !b) = isI x ∧ s = isS x
section
variable {K : PySem.W.Frag} {H : Hp}
theorem any_int (n : Int) : AnyV K H (.int n) := ⟨_, true, false, false, .base (.int n), kit_ty (by decide +kernel), kit_ty (by decide +kernel), kit_ty (by decide +kernel), rfl, rfl⟩
theorem any_str (z : Str) : AnyV K H (.str z) := ⟨_, false, false, true, .base (.str z), kit_ty (by decide +kernel), kit_ty (by decide +kernel), kit_ty (by decide +kernel), rfl, rfl⟩
theorem any_bl (z : Bool) : AnyV K H (.bl z) := ⟨_, true, true, false, .base (.bl z), kit_ty (by decide +kernel), kit_ty (by decide +kernel), kit_ty (by decide +kernel), rfl, rfl⟩
theorem any_non : AnyV K H .non := ⟨_, false, false, false, .base .non, kit_ty (by decide +kernel), kit_ty (by decide +kernel), kit_ty (by decide +kernel), rfl, rfl⟩
theorem any_lst {a : Addr} {xs : List V} (e : H a = some (.lst xs)) : AnyV K H (.ref a) := ⟨_, false, false, false, .base (.lst e), kit_ty (by decide +kernel), kit_ty (by decide +kernel), kit_ty (by decide +kernel), rfl, rfl⟩
theorem any_tup {a : Addr} {xs : List V} (e : H a = some (.tup xs)) : AnyV K H (.ref a) := ⟨_, false, false, false, .base (.tup e), kit_ty (by decide +kernel), kit_ty (by decide +kernel), kit_ty (by decide +kernel), rfl, rfl⟩
theorem any_dK {a : Addr} {kvs : List (Key × V)} (e : H a = some (.dK kvs)) : AnyV K H (.ref a) := ⟨_, false, false, false, .base (.dK e), kit_ty (by decide +kernel), kit_ty (by decide +kernel), kit_ty (by decide +kernel), rfl, rfl⟩
end

/-- the module's own and the built-in names -/
structure Txt (mg : Str → Option Value) : Prop where
  g_MAX_SIZE : ∃ u, mg "MAX_SIZE" = some u ∧ RelV (.int 40) u
  g_LETTERS : ∃ u, mg "LETTERS" = some u ∧ RelV (.str letters) u
  g_SIGNS : ∃ u, mg "SIGNS" = some u ∧ RelV (.str signs) u
  g_LONGEST_NAME : ∃ u, mg "LONGEST_NAME" = some u ∧ RelV (.int 8) u
  b_isinstance : mg "isinstance" = none
  b_str : mg "str" = none
  b_int : mg "int" = none
  b_bool : mg "bool" = none
  b_len : mg "len" = none
  b_all : mg "all" = none
  b_range : mg "range" = none
  b_repr : mg "repr" = none
  b_abs : mg "abs" = none
  b_max : mg "max" = none
  b_min : mg "min" = none

section
variable {P : Program} {w : World} {K : PySem.W.Frag} {mg : Str → Option Value} {base : Heap}
/-! ### is_integer, is_size, is_name -/
def n_is_integer : List Str := ["value"]
theorem sc_is_integer : FnScope n_is_integer ["value"] (defScope s_is_integer) := ⟨rfl, rfl, rfl, by decide +kernel, rfl, by decide +kernel, by decide +kernel⟩
def spIsInt (K : PySem.W.Frag) : Sp := fun vs H Q _ => ∃ x, vs = [x] ∧ AnyV K H x ∧ Q (.bl (isI x)) H
theorem ok_is_integer (T : Txt mg) (D : Dfn K mg "is_integer" s_is_integer ["value"]) : CalG P w K mg base 1 "is_integer" ["value"] (spIsInt K) := by
  refine D.ok sc_is_integer (fun vs H Q E h => ?_) (fun f cdv A fr s H vs Q E hr hgd h => ?_)
  · obtain ⟨x, rfl, _⟩ := h
    rfl
  · obtain ⟨x, rfl, ⟨t, i, b, z, ht, hi, hb, _, e, _⟩, q⟩ := h
    refine ⟨_, pss_one (ps_ret (pe_and (pe_callB call_isi rfl T.b_isinstance (by decide +kernel) (pa_cons (pv 0) (pa_cons (pe_bltn (v := .ty "int") (u := .type "int") rfl T.b_int (by decide +kernel) rfl) pa_nil))) (pe_one (pe_not (pe_callB call_isi rfl T.b_isinstance (by decide +kernel) (pa_cons (pv 0) (pa_cons (pe_bltn (v := .ty "bool") (u := .type "bool") rfl T.b_bool (by decide +kernel) rfl) pa_nil))))))), ?_⟩
    refine ⟨x, rfl, x, _, t, _, i, rfl, .ty "int", ht, hi, i, rfl, ?_⟩
    cases i with
    | false =>
      refine iteF ?_
      rw [← e] at q
      exact q
    | true =>
      refine iteT ⟨x, rfl, x, _, t, _, b, rfl, .ty "bool", ht, hb, b, rfl, ?_⟩
      rw [← e] at q
      exact q
def n_is_size : List Str := ["value"]
theorem sc_is_size : FnScope n_is_size ["value"] (defScope s_is_size) := ⟨rfl, rfl, rfl, by decide +kernel, rfl, by decide +kernel, by decide +kernel⟩
def spIsSize (K : PySem.W.Frag) : Sp := fun vs H Q _ => ∃ x, vs = [x] ∧ AnyV K H x ∧ Q (.bl (isSz x)) H
theorem ok_is_size (T : Txt mg) (D : Dfn K mg "is_size" s_is_size ["value"]) (c_is_integer : CalG P w K mg base 1 "is_integer" ["value"] (spIsInt K)) :
    CalG P w K mg base 2 "is_size" ["value"] (spIsSize K) := by
  refine D.ok sc_is_size (fun vs H Q E h => ?_) (fun f cdv A fr s H vs Q E hr hgd h => ?_)
  · obtain ⟨x, rfl, _⟩ := h
    rfl
  · obtain ⟨x, rfl, ha, q⟩ := h
    refine ⟨_, pss_one (ps_ret (pe_and (pe_cG c_is_integer hr (by decide) hgd rfl (pa_cons (pv 0) pa_nil)) (pe_one (pe_chain op_le op_le pe_int (pv 0) (C8.pe_gc rfl T.g_MAX_SIZE))))), ?_⟩
    refine ⟨x, rfl, x, rfl, ha, isI x, rfl, ?_⟩
    cases x with
    | int n =>
      refine iteT ⟨_, rfl, _, _, rfl, rfl, _, rfl, ?_⟩
      by_cases h1 : 1 ≤ n
      · rw [decide_eq_true h1]
        refine iteT ⟨_, _, rfl, rfl, ?_⟩
        have e : isSz (.int n) = decide (n ≤ 40) := by show (decide (1 ≤ n) && decide (n ≤ 40)) = _; rw [decide_eq_true h1]; rfl
        rw [e] at q
        exact q
      · rw [decide_eq_false h1]
        have e : isSz (.int n) = false := by show (decide (1 ≤ n) && decide (n ≤ 40)) = _; rw [decide_eq_false h1]; rfl
        rw [e] at q
        exact iteF q
    | _ => exact iteF q
def n_is_name : List Str := ["value", "sign"]
theorem sc_is_name : FnScope n_is_name ["value"] (defScope s_is_name) := ⟨rfl, rfl, rfl, by decide +kernel, rfl, by decide +kernel, by decide +kernel⟩
def spIsName (K : PySem.W.Frag) : Sp := fun vs H Q _ => ∃ x, vs = [x] ∧ AnyV K H x ∧ (∀ z, x = .str z → z.length ≤ 1000) ∧ ∀ H', Same H H' → Q (.bl (isNm x)) H'
theorem same_new {H : Hp} {p : Addr} {o : HO} (h : H p = none) : Same H (upd H p o) := fun b x e => by
  rw [upd_ne (ne_of_none e h)]
  exact e
theorem len_cps (z : Str) : z.length = z.cps.size := by simp [Str.length]
theorem cps_get {z : Str} {i c : Nat} (h : z.cps[i]? = some c) : z.cps.getD i 0 = c := by simp [Array.getD_eq_getD_getElem?, h]
theorem ok_is_name (T : Txt mg) (D : Dfn K mg "is_name" s_is_name ["value"]) : CalG P w K mg base 1 "is_name" ["value"] (spIsName K) := by
  refine D.ok sc_is_name (fun vs H Q E h => ?_) (fun f cdv A fr s H vs Q E hr hgd h => ?_)
  · obtain ⟨x, rfl, _⟩ := h
    rfl
  · obtain ⟨x, rfl, ⟨t, i, b, z, ht, _, _, hz, _, e⟩, hlen, q⟩ := h
    refine ⟨_, pss_cons (ps_if (PW.pt (pw_or (pt_not (pt_val (pe_callB call_isi rfl T.b_isinstance (by decide +kernel) (pa_cons (pv 0) (pa_cons (pe_bltn (v := .ty "str") (u := .type "str") rfl T.b_str (by decide +kernel) rfl) pa_nil))))) (pw_or1 (pt_not (pt_chain op_le op_le pe_int (pe_callB call_len rfl T.b_len (by decide +kernel) (pa_cons (pv 0) pa_nil)) (C8.pe_gc rfl T.g_LONGEST_NAME))))))
        (pss_one (ps_ret pe_bl))
        (pss_nil))
      (pss_one (ps_ret (pe_and (pe_cmpR op_in_sign (pe_item_str (pv 0) pe_int (fun _ _ => rfl)) (C8.pe_gc rfl T.g_LETTERS) rfl) (pe_one (pe_callB (cr_all rfl) rfl T.b_all (by decide +kernel) (pa_cons (pe_lc (own := [("sign", 1)]) (g := gName 1) (tt := tYes) rfl sc_is_name.nd (pi_str (pv 0)) (blkOk_by (N := n_is_name) (sc := defScope s_is_name) (by decide +kernel)) (fun _ _ _ _ _ => pg_name (i := 1) sc_is_name.nd rfl (Or.inl rfl)) (fun _ _ _ _ _ => pts_nil) (fun _ _ _ _ _ => (pe_cmpR op_in_sign (pv 1) (C8.pe_gc rfl T.g_SIGNS) rfl))) pa_nil)))))), ?_⟩
    refine ⟨x, rfl, x, _, t, _, z, rfl, .ty "str", ht, hz, z, rfl, ?_⟩
    subst e
    cases x with
    | str y =>
      have hl := hlen y rfl
      have q' : ∀ H', Same H H' → Q (.bl (nmS y)) H' := q
      refine iteF ⟨_, rfl, .str y, y.length, rfl, ⟨Nat.le_trans hl (by decide), rfl⟩, _, _, rfl, rfl, _, rfl, ?_⟩
      by_cases h1 : (1 : Int) ≤ (y.length : Int)
      · rw [decide_eq_true h1]
        refine iteT ⟨_, _, rfl, rfl, _, rfl, ?_⟩
        by_cases h2 : (y.length : Int) ≤ 8
        · rw [decide_eq_true h2]
          refine iteF ?_
          have h0 : 0 < y.cps.size := by rw [← len_cps]; omega
          have c0 : y.cps[0]? = some (y.cps.getD 0 0) := by simp [Array.getD_eq_getD_getElem?, h0]
          refine ⟨_, rfl, y, 0, y.cps.getD 0 0, rfl, rfl, by decide, by decide, by omega, c0, _, letters, rfl, rfl, _, rfl, ?_⟩
          by_cases h3 : y.cps.getD 0 0 ∈ letters.cps.toList
          · rw [decide_eq_true h3]
            refine iteT ⟨_, rfl, y, rfl, fun Dl hD => lc_fun walk_str (fun i => .bl (decide (y.cps.getD i 0 ∈ signs.cps.toList))) (by rw [← len_cps]; exact Nat.lt_of_le_of_lt hl (by decide)) (fun i x H0 H0' Q0 hi hy hq => ?_) ?_⟩
            · obtain ⟨rfl, c, hc, rfl⟩ := hy
              refine ⟨rfl, _, rfl, c, signs, rfl, rfl, ?_⟩
              rw [← cps_get hc]
              exact hq
            · refine ⟨Dl, (List.range y.cps.size).map fun i => decide (y.cps.getD i 0 ∈ signs.cps.toList), rfl, .of (by rw [upd_same, List.map_map]; rfl), ?_⟩
              have en : nmS y = ((List.range y.cps.size).map fun i => decide (y.cps.getD i 0 ∈ signs.cps.toList)).all id := by
                unfold nmS
                rw [decide_eq_true h1, decide_eq_true h2, decide_eq_true h3]
                rfl
              rw [← en]
              exact q' _ (same_new hD)
          · rw [decide_eq_false h3]
            have en : nmS y = false := by
              unfold nmS
              rw [decide_eq_false h3, Bool.false_and, Bool.and_false]
            refine iteF ?_
            rw [← en]
            exact q' _ (Same.refl _)
        · rw [decide_eq_false h2]
          have en : nmS y = false := by
            unfold nmS
            rw [decide_eq_false h2, Bool.and_false, Bool.false_and]
          refine iteT ?_
          show Q (.bl false) H
          rw [← en]
          exact q' _ (Same.refl _)
      · rw [decide_eq_false h1]
        have en : nmS y = false := by
          unfold nmS
          rw [decide_eq_false h1, Bool.false_and, Bool.false_and]
        refine iteF ⟨_, rfl, ?_⟩
        refine iteT ?_
        show Q (.bl false) H
        rw [← en]
        exact q' _ (Same.refl _)
    | _ => exact iteT (q _ (Same.refl _))
end
end Jo

set_option Elab.async false
set_option linter.all false
set_option maxRecDepth 100000
namespace Jo
open PySem PySem.Spec PyProof.Rows L2
abbrev s_cell : Stmt := top 9
abbrev s_purse : Stmt := top 10
abbrev s_draw : Stmt := top 11
theorem ixN_nat {n j : Nat} (h : j < n) : ixN n (j : Int) = some j := by
  unfold ixN
  rw [if_pos (by omega), if_pos (by omega)]
  simp
/-- everything but what stands at p is kept -/
def Kp (p : Addr) (H H' : Hp) : Prop := ∀ b o, H b = some o → b ≠ p → H' b = some o
theorem Kp.refl (p : Addr) (H : Hp) : Kp p H H := fun _ _ e _ => e
theorem Kp.trans {p : Addr} {H H1 H2 : Hp} (a : Kp p H H1) (b : Kp p H1 H2) : Kp p H H2 := fun c o e n => b c o (a c o e n) n
theorem kp_of {p : Addr} {H H' : Hp} (a : Same H H') : Kp p H H' := fun c o e _ => a c o e
theorem Kp.new {p q : Addr} {H : Hp} {o : HO} (h : H q = none) : Kp p H (upd H q o) := kp_of (same_new h)
theorem Kp.put {p : Addr} {H : Hp} {o : HO} : Kp p H (upd H p o) := fun b x e n => by rw [upd_ne n]; exact e
/-- a purse: a list of three ints -/
def PurseAt (H : Hp) (p : Addr) : Prop := ∃ a b c : Int, H p = some (.lst [.int a, .int b, .int c])
theorem PurseAt.same {H H' : Hp} {p : Addr} (h : PurseAt H p) (s : Same H H') : PurseAt H' p := let ⟨a, b, c, e⟩ := h; ⟨a, b, c, s _ _ e⟩
section
variable {P : Program} {w : World} {K : PySem.W.Frag} {mg : Str → Option Value} {base : Heap}
def n_cell : List Str := ["_law_script", "_law_k", "_law_mixed", "_law_cell_here"]
theorem sc_cell : FnScope n_cell ["_law_script", "_law_k"] (defScope s_cell) := ⟨rfl, rfl, rfl, by decide +kernel, rfl, by decide +kernel, by decide +kernel⟩
def spCell (K : PySem.W.Frag) : Sp := fun vs H Q _ => ∃ (a : Addr) (ns : List Int) (k : Nat), vs = [.ref a, .int (k : Int)] ∧ SqL K H a (ns.map V.int) ∧ ns.length ≤ 63 ∧ k ≤ 63 ∧
  ∀ (c : Int) (H' : Hp), Same H H' → Q (.int c) H'
theorem ok_cell (T : Txt mg) (D : Dfn K mg "_law_cell" s_cell ["_law_script", "_law_k"]) : CalG P w K mg base 1 "_law_cell" ["_law_script", "_law_k"] (spCell K) := by
  refine D.ok sc_cell (fun vs H Q E h => ?_) (fun f cdv A fr s H vs Q E hr hgd h => ?_)
  · obtain ⟨a, ns, k, rfl, _⟩ := h
    rfl
  · obtain ⟨a, ns, k, rfl, hS, hl, hk, q⟩ := h
    refine ⟨_, pss_cons (ps_if (pt_cmpR op_lt (pv 1) (pe_callB call_len rfl T.b_len (by decide +kernel) (pa_cons (pv 0) pa_nil)) (nomark _))
        (pss_one (ps_ret (pe_ix ix_list (pv 0) (pv 1) (fun _ _ => rfl))))
        (pss_nil))
      (pss_cons (ps_set (i := 2) sc_cell.nd rfl (.inl rfl) (pe_op op_mod (pe_callTy call_int1 rfl T.b_int (by decide +kernel) (pa_cons (pe_op op_mul pe_int (pe_op op_add (pe_op op_add (pe_op op_mul (pv 1) (pv 1)) (pe_op op_mul pe_int (pv 1))) pe_int)) pa_nil)) pe_int))
      (pss_cons (ps_for PassesOwn.never rfl (pi_list (pe_slice sl_list (pv 0) po_none (po_some pe_int))) (pg_name (i := 3) sc_cell.nd rfl (.inl rfl))
        (pss_one (ps_set (i := 2) sc_cell.nd rfl (.inl rfl) (pe_op op_mod (pe_callTy call_int1 rfl T.b_int (by decide +kernel) (pa_cons (pe_op op_add (pe_op op_mul (pv 2) pe_int) (pv 3)) pa_nil)) pe_int))))
      (pss_one (ps_ret (pv 2))))), ?_⟩
    refine ⟨_, rfl, _, rfl, _, _, rfl, .inl ⟨_, hS, rfl⟩, _, _, rfl, rfl, _, rfl, ite2 (fun e => ?_) (fun e => ?_)⟩
    · have hk2 : k < ns.length := by
        have e2 := of_decide_eq_true e
        rw [List.length_map] at e2
        omega
      refine ⟨_, rfl, _, rfl, a, _, (k : Int), .int ns[k], rfl, rfl, hS, atI_nat (by rw [List.getElem?_map, List.getElem?_eq_getElem hk2]; rfl), ?_⟩
      exact q _ _ (Same.refl _)
    · have cm : -(2 ^ 64) < (k : Int) ∧ (k : Int) < 2 ^ 64 := by omega
      refine ⟨_, rfl, _, rfl, _, _, rfl, rfl, .inl cm, _, rfl, _, _, rfl, rfl, .inr cm, _, _, rfl, rfl, _, _, rfl, rfl, _, _, rfl, rfl, .inl (by decide), .inl ⟨_, rfl, _, _, rfl, rfl, (show (0 : Int) < 2147483549 by decide), ?_⟩⟩
      -- the loop over the first three
      refine ⟨_, rfl, _, rfl, a, _, rfl, hS, fun p hp => ?_⟩
      have s1 : Same H (upd H p (.lst (cutV (ns.map V.int) none (some 3)))) := same_new hp
      have allI : ∀ x ∈ cutV (ns.map V.int) none (some 3), ∃ n, x = V.int n := fun x hx => by
        have h1 : x ∈ ns.map V.int := by
          unfold cutV at hx
          exact List.mem_of_mem_drop (List.mem_of_mem_take hx)
        obtain ⟨n, _, e⟩ := List.mem_map.mp h1
        exact ⟨n, e.symm⟩
      refine ⟨p, rfl, ⟨_, SqL.of upd_same⟩, for_list (xs := cutV (ns.map V.int) none (some 3)) (fun i σ H3 => H3 = upd H p (.lst (cutV (ns.map V.int) none (some 3))) ∧ ∃ (m : Int) (y : Option V), σ = [some (.ref a), some (.int (k : Int)), some (.int m), y])
        ⟨rfl, _, _, rfl⟩ (fun i σ H3 hi hp3 => ?_) (fun i x σ H3 hx hp3 => ?_) (fun σ H3 hp3 => ?_)⟩
      · rw [hp3.1]
        exact SqL.of upd_same
      · obtain ⟨rfl, m, y, rfl⟩ := hp3
        obtain ⟨n, rfl⟩ := allI x (List.mem_of_getElem? hx)
        refine ⟨_, rfl, _, _, rfl, rfl, .inr (by decide), _, rfl, _, _, rfl, rfl, .inl ⟨_, rfl, _, _, rfl, rfl, (show (0 : Int) < 2147483549 by decide), ?_⟩⟩
        exact ⟨rfl, _, _, rfl⟩
      · obtain ⟨rfl, m, y, rfl⟩ := hp3
        exact ⟨_, rfl, q _ _ s1⟩
def n_purse : List Str := ["_law_cell_here"]
theorem sc_purse : FnScope n_purse ["_law_cell_here"] (defScope s_purse) := ⟨rfl, rfl, rfl, by decide +kernel, rfl, by decide +kernel, by decide +kernel⟩
def spPurse : Sp := fun vs H Q _ => ∃ c : Int, vs = [.int c] ∧ ∀ (p : Addr) (H' : Hp), Same H H' → H p = none → PurseAt H' p → Q (.ref p) H'
theorem ok_purse (T : Txt mg) (D : Dfn K mg "_law_purse" s_purse ["_law_cell_here"]) : CalG P w K mg base 1 "_law_purse" ["_law_cell_here"] spPurse := by
  refine D.ok sc_purse (fun vs H Q E h => ?_) (fun f cdv A fr s H vs Q E hr hgd h => ?_)
  · obtain ⟨c, rfl, _⟩ := h
    rfl
  · obtain ⟨c, rfl, q⟩ := h
    refine ⟨_, pss_one (ps_ret (pe_lst (pa_cons (pe_op op_mod (pe_callTy call_int1 rfl T.b_int (by decide +kernel) (pa_cons (pv 0) pa_nil)) pe_int) (pa_cons (pe_ifExp (PW.pt (pw_or (pt_cmpR op_lt (pv 0) pe_int (nomark _)) (pw_or1 (pt_cmpR op_ge (pv 0) (pe_op op_pow pe_int pe_int) (nomark _))))) (pe_callB call_abs rfl T.b_abs (by decide +kernel) (pa_cons (pv 0) pa_nil)) pe_int) (pa_cons pe_int pa_nil))))), ?_⟩
    refine ⟨_, rfl, .inl ⟨_, rfl, _, _, rfl, rfl, (show (0 : Int) < 2147483549 by decide), ?_⟩⟩
    have fin : ∀ b : Int, [V.int (c % 2147483549), V.int b, V.int 0].length ≤ sizeLine ∧ ∀ p, H p = none → Q (.ref p) (upd H p (.lst [V.int (c % 2147483549), V.int b, V.int 0])) :=
      fun b => ⟨(by show 3 ≤ sizeLine; decide), fun p hp => q p _ (same_new hp) hp ⟨_, _, _, upd_same⟩⟩
    have two : (if (decide (c < 0)) = true then True else (decide ((10 : Int) ^ 18 ≤ c) = true ∨ ¬ decide ((10 : Int) ^ 18 ≤ c) = true)) := by
      by_cases h : decide (c < 0) = true
      · rw [if_pos h]; trivial
      · rw [if_neg h]; exact Classical.em _
    refine ⟨_, rfl, _, _, rfl, rfl, _, rfl, ite2 (fun e => ?_) (fun e => ?_)⟩
    · refine iteT ⟨_, rfl, _, rfl, fin _⟩
    · refine ⟨_, rfl, _, _, rfl, rfl, ⟨by decide, by decide, by decide⟩, _, _, rfl, rfl, _, rfl, ite2 (fun e => ?_) (fun e => ?_)⟩
      · exact ⟨_, rfl, _, rfl, fin _⟩
      · exact fin _
def n_draw : List Str := ["_law_purse_here", "_law_many", "_law_state", "_law_factor", "_law_digit"]
theorem sc_draw : FnScope n_draw ["_law_purse_here", "_law_many"] (defScope s_draw) := ⟨rfl, rfl, rfl, by decide +kernel, rfl, by decide +kernel, by decide +kernel⟩
def spDraw : Sp := fun vs H Q _ => ∃ (p : Addr) (m : Int), vs = [.ref p, .int m] ∧ PurseAt H p ∧ 0 < m ∧ m.natAbs.log2 < 9000 ∧
  ∀ (d : Int) (H' : Hp), 0 ≤ d → d < m → PurseAt H' p → Kp p H H' → Q (.int d) H'
theorem ok_draw (T : Txt mg) (D : Dfn K mg "_law_draw" s_draw ["_law_purse_here", "_law_many"]) : CalG P w K mg base 1 "_law_draw" ["_law_purse_here", "_law_many"] spDraw := by
  refine D.ok sc_draw (fun vs H Q E h => ?_) (fun f cdv A fr s H vs Q E hr hgd h => ?_)
  · obtain ⟨p, m, rfl, _⟩ := h
    rfl
  · obtain ⟨p, m, rfl, ⟨a, b, c, hp⟩, hm, hm2, q⟩ := h
    refine ⟨_, pss_cons (ps_asg (pe_op op_add (pe_ix ix_list (pv 0) pe_int (fun _ _ => rfl)) pe_int) (pg_sub (pv 0) pe_int set_list))
      (pss_cons (ps_set (i := 2) sc_draw.nd rfl (.inl rfl) (pe_callTy call_int1 rfl T.b_int (by decide +kernel) (pa_cons (pe_ix ix_list (pv 0) pe_int (fun _ _ => rfl)) pa_nil)))
      (pss_cons (ps_set (i := 3) sc_draw.nd rfl (.inl rfl) (pe_op op_add (pe_op op_mod (pe_callTy call_int1 rfl T.b_int (by decide +kernel) (pa_cons (pv 2) pa_nil)) pe_int) pe_int))
      (pss_cons (ps_asg (pe_op op_mod (pe_callTy call_int1 rfl T.b_int (by decide +kernel) (pa_cons (pe_op op_add (pe_op op_add (pe_op op_mul (pv 2) (pv 3)) (pe_op op_mul pe_int (pe_ix ix_list (pv 0) pe_int (fun _ _ => rfl)))) pe_int) pa_nil)) pe_int) (pg_sub (pv 0) pe_int set_list))
      (pss_cons (ps_if (pt_cmpR op_gt (pe_ix ix_list (pv 0) pe_int (fun _ _ => rfl)) pe_int (nomark _))
        (pss_cons (ps_set (i := 4) sc_draw.nd rfl (.inl rfl) (pe_op op_mod (pe_callTy call_int1 rfl T.b_int (by decide +kernel) (pa_cons (pe_ix ix_list (pv 0) pe_int (fun _ _ => rfl)) pa_nil)) (pv 1)))
          (pss_cons (ps_asg (pe_op op_fdivW (pe_callTy call_int1 rfl T.b_int (by decide +kernel) (pa_cons (pe_ix ix_list (pv 0) pe_int (fun _ _ => rfl)) pa_nil)) (pv 1)) (pg_sub (pv 0) pe_int set_list))
          (pss_one (ps_ret (pv 4)))))
        (pss_nil))
      (pss_one (ps_ret (pe_op op_mod (pe_callTy call_int1 rfl T.b_int (by decide +kernel) (pa_cons (pe_op op_fdivW (pe_ix ix_list (pv 0) pe_int (fun _ _ => rfl)) pe_int) pa_nil)) (pv 1)))))))), ?_⟩
    -- the count
    refine ⟨_, rfl, p, _, 2, _, rfl, rfl, SqL.of hp, atI_nat (j := 2) rfl, _, _, rfl, rfl, _, rfl, p, _, 2, 2, rfl, rfl, hp, ixN_nat (j := 2) (show 2 < 3 by decide), ?_⟩
    -- the state, the factor
    refine ⟨_, rfl, p, _, 0, _, rfl, rfl, SqL.of upd_same, atI_nat (j := 0) rfl, .inl ⟨_, rfl, ?_⟩⟩
    refine ⟨_, rfl, .inl ⟨_, rfl, _, _, rfl, rfl, (show (0 : Int) < 37987 by decide), _, _, rfl, rfl, ?_⟩⟩
    have fb : -(2 ^ 64) < a % 37987 + 26003 ∧ a % 37987 + 26003 < 2 ^ 64 := by
      have h1 := Int.emod_nonneg a (show (37987 : Int) ≠ 0 by decide)
      have h2 := Int.emod_lt_of_pos a (show (0 : Int) < 37987 by decide)
      omega
    refine ⟨_, rfl, _, rfl, _, _, rfl, rfl, .inr fb, _, rfl, p, _, 2, _, rfl, rfl, SqL.of upd_same, atI_nat (j := 2) rfl, _, _, rfl, rfl, .inl (by decide), _, _, rfl, rfl, _, _, rfl, rfl, .inl ⟨_, rfl, _, _, rfl, rfl, (show (0 : Int) < 2147483549 by decide), ?_⟩⟩
    refine ⟨_, rfl, p, _, 0, 0, rfl, rfl, upd_same, ixN_nat (j := 0) (show 0 < 3 by decide), ?_⟩
    generalize (a * (a % 37987 + 26003) + 70841 * (c + 1) + 19) % 2147483549 = a'
    refine ⟨_, rfl, p, _, 1, _, rfl, rfl, SqL.of upd_same, atI_nat (j := 1) rfl, _, _, rfl, rfl, _, rfl, ite2 (fun e => ?_) (fun e => ?_)⟩
    · refine ⟨_, rfl, p, _, 1, _, rfl, rfl, SqL.of upd_same, atI_nat (j := 1) rfl, .inl ⟨_, rfl, _, rfl, _, _, rfl, rfl, hm, ?_⟩⟩
      refine ⟨_, rfl, p, _, 1, _, rfl, rfl, SqL.of upd_same, atI_nat (j := 1) rfl, .inl ⟨_, rfl, _, rfl, _, _, rfl, rfl, ⟨hm, hm2⟩, ?_⟩⟩
      refine ⟨_, rfl, p, _, 1, 1, rfl, rfl, upd_same, ixN_nat (j := 1) (show 1 < 3 by decide), _, rfl, ?_⟩
      exact q _ _ (Int.emod_nonneg b (by omega)) (Int.emod_lt_of_pos b hm) ⟨_, _, _, upd_same⟩ (((Kp.put).trans Kp.put).trans Kp.put)
    · refine ⟨_, rfl, p, _, 0, _, rfl, rfl, SqL.of upd_same, atI_nat (j := 0) rfl, _, _, rfl, rfl, ⟨by decide, by decide⟩, .inl ⟨_, rfl, _, rfl, _, _, rfl, rfl, hm, ?_⟩⟩
      exact q _ _ (Int.emod_nonneg _ (by omega)) (Int.emod_lt_of_pos _ hm) ⟨_, _, _, upd_same⟩ ((Kp.put).trans Kp.put)
end
end Jo

set_option Elab.async false
set_option linter.all false
set_option maxRecDepth 100000
namespace Jo
open PySem PySem.Spec PyProof.Rows L2
abbrev s_name : Stmt := top 12
abbrev s_signs : Stmt := top 13
abbrev s_lname : Stmt := top 14
theorem item_ok {z : Str} {d : Int} (h0 : 0 ≤ d) (h1 : d < z.length) (hl : z.length ≤ 1000) : d < 2 ^ 63 ∧ z.cps[d.toNat]? = some (z.cps.getD d.toNat 0) := by
  have h2 : d.toNat < z.cps.size := by rw [← len_cps]; omega
  exact ⟨by omega, by simp [Array.getD_eq_getD_getElem?, h2]⟩
theorem small_log {m : Int} (h0 : 0 < m) (h1 : m ≤ 1000) : m.natAbs.log2 < 9000 := (wide_div (b := 10) (i := 0) h0 (by omega) (by decide) (by decide)).2
theorem atI_int {α : Type} {xs : List α} {d : Int} {v : α} (h0 : 0 ≤ d) (h : xs[d.toNat]? = some v) : atI xs d = some v := by
  have e : d = (d.toNat : Int) := by omega
  rw [e]
  exact atI_nat h
theorem one_len (c : Nat) : (⟨#[c]⟩ : Str).length = 1 := rfl
theorem Kp.seq {p a : Addr} {H H' : Hp} {xs : List V} (k : Kp p H H') (n : a ≠ p) (h : H a = some (.lst xs)) : H' a = some (.lst xs) := k _ _ h n
section
variable {P : Program} {w : World} {K : PySem.W.Frag} {mg : Str → Option Value} {base : Heap}
def words : List Str := ["plus", "not", "into", "if", "else", "number", "call", "fail", "slot", "entry", "variable", "callout"]
theorem words_ok : ∀ z ∈ words, 1 ≤ z.length ∧ z.length ≤ 8 := by decide +kernel
def n_name : List Str := ["_law_purse_here", "_law_words", "_law_way", "_law_letters", "_law_text", "_law_turn"]
theorem sc_name : FnScope n_name ["_law_purse_here"] (defScope s_name) := ⟨rfl, rfl, rfl, by decide +kernel, rfl, by decide +kernel, by decide +kernel⟩
def spName : Sp := fun vs H Q _ => ∃ p : Addr, vs = [.ref p] ∧ PurseAt H p ∧ ∀ (z : Str) (H' : Hp), 1 ≤ z.length → z.length ≤ 8 → PurseAt H' p → Kp p H H' → Q (.str z) H'
theorem ok_name (T : Txt mg) (D : Dfn K mg "_law_name" s_name ["_law_purse_here"]) (c_draw : CalG P w K mg base 1 "_law_draw" ["_law_purse_here", "_law_many"] spDraw) :
    CalG P w K mg base 2 "_law_name" ["_law_purse_here"] spName := by
  refine D.ok sc_name (fun vs H Q E h => ?_) (fun f cdv A fr s H vs Q E hr hgd h => ?_)
  · obtain ⟨p, rfl, _⟩ := h
    rfl
  · obtain ⟨p, rfl, hp, q⟩ := h
    refine ⟨_, pss_cons (ps_set (i := 1) sc_name.nd rfl (.inl rfl) (pe_lst (pa_cons pe_str (pa_cons pe_str (pa_cons pe_str (pa_cons pe_str (pa_cons pe_str (pa_cons pe_str (pa_cons pe_str (pa_cons pe_str (pa_cons pe_str (pa_cons pe_str (pa_cons pe_str (pa_cons pe_str pa_nil))))))))))))))
      (pss_cons (ps_set (i := 2) sc_name.nd rfl (.inl rfl) (pe_cG c_draw hr (by decide) hgd rfl (pa_cons (pv 0) (pa_cons pe_int pa_nil))))
      (pss_cons (ps_if (pt_cmpR op_eq (pv 2) pe_int (nomark _))
        (pss_one (ps_ret (pe_ix ix_list (pv 1) (pe_cG c_draw hr (by decide) hgd rfl (pa_cons (pv 0) (pa_cons pe_int pa_nil))) (fun _ _ => rfl))))
        (pss_nil))
      (pss_cons (ps_set (i := 3) sc_name.nd rfl (.inl rfl) pe_str)
      (pss_cons (ps_set (i := 4) sc_name.nd rfl (.inl rfl) (pe_item_str (pv 3) (pe_cG c_draw hr (by decide) hgd rfl (pa_cons (pv 0) (pa_cons pe_int pa_nil))) (fun _ _ => rfl)))
      (pss_cons (ps_for PassesOwn.never rfl (pi_range1 rfl T.b_range (pa_cons (pe_ix ix_list (pe_lst (pa_cons pe_int (pa_cons pe_int (pa_cons pe_int (pa_cons pe_int pa_nil))))) (pe_op op_sub (pv 2) pe_int) (fun _ _ => rfl)) pa_nil)) (pg_name (i := 5) sc_name.nd rfl (.inl rfl))
        (pss_one (ps_set (i := 4) sc_name.nd rfl (.inl rfl) (pe_op op_add_str (pv 4) (pe_item_str (pe_op op_add_str (pv 3) pe_str) (pe_cG c_draw hr (by decide) hgd rfl (pa_cons (pv 0) (pa_cons pe_int pa_nil))) (fun _ _ => rfl))))))
      (pss_one (ps_ret (pv 4)))))))), ?_⟩
    -- the words, the way
    refine ⟨(show 12 ≤ sizeLine by decide), fun l hl => ?_⟩
    have npl : l ≠ p := fun e => by
      obtain ⟨a, b, c, e2⟩ := hp
      rw [← e, hl] at e2
      cases e2
    have s1 : Same H (upd H l (.lst (words.map V.str))) := same_new hl
    refine ⟨_, rfl, p, 5, rfl, hp.same s1, by decide, by decide, fun way H1 w0 w1 p1 k1 => ?_⟩
    have hl1 : H1 l = some (.lst (words.map V.str)) := k1 _ _ upd_same npl
    have kk1 : Kp p H H1 := (kp_of s1).trans k1
    refine ⟨_, rfl, rfl, _, rfl, ite2 (fun e => ?_) (fun e => ?_)⟩
    · -- a word
      refine ⟨_, rfl, _, rfl, p, 12, rfl, p1, by decide, by decide, fun d H2 d0 d1 p2 k2 => ?_⟩
      have hd : d.toNat < words.length := by show d.toNat < 12; omega
      have hz := words_ok _ (List.getElem_mem hd)
      have hat : atI (words.map V.str) d = some (.str words[d.toNat]) := atI_int d0 (by rw [List.getElem?_map, List.getElem?_eq_getElem hd]; rfl)
      exact ⟨l, _, d, _, rfl, rfl, SqL.of (k2 _ _ hl1 npl), hat, q _ _ hz.1 hz.2 p2 (kk1.trans k2)⟩
    · have hw : way ≠ 0 := fun z => e (decide_eq_true (by rw [z]))
      refine ⟨_, rfl, _, rfl, p, 26, rfl, p1, by decide, by decide, fun d H2 d0 d1 p2 k2 => ?_⟩
      obtain ⟨i1, i2⟩ := item_ok (z := letters) d0 d1 (by decide)
      refine ⟨letters, d, _, rfl, rfl, d0, i1, d1, i2, ?_⟩
      refine ⟨(show 4 ≤ sizeLine by decide), fun m hm => ?_⟩
      have s3 : Same H2 (upd H2 m (.lst [V.int 0, V.int 1, V.int 3, V.int 7])) := same_new hm
      have turns : ∃ t : Int, atI [V.int 0, V.int 1, V.int 3, V.int 7] (way - 1) = some (.int t) ∧ 0 ≤ t ∧ t ≤ 7 := by
        have h4 : way = 1 ∨ way = 2 ∨ way = 3 ∨ way = 4 := by omega
        rcases h4 with rfl | rfl | rfl | rfl
        · exact ⟨0, rfl, by decide, by decide⟩
        · exact ⟨1, rfl, by decide, by decide⟩
        · exact ⟨3, rfl, by decide, by decide⟩
        · exact ⟨7, rfl, by decide, by decide⟩
      obtain ⟨t, ht, t0, t7⟩ := turns
      refine ⟨_, rfl, _, _, rfl, rfl, m, _, way - 1, _, rfl, rfl, SqL.of upd_same, ht, t, rfl, by omega, by omega, ?_⟩
      refine for_range (lo := 0) (n := t.toNat) (fun i σ H3 => i ≤ t.toNat ∧ PurseAt H3 p ∧ Kp p H H3 ∧ ∃ (z : Str) (y : Option V), z.length = 1 + i ∧ σ = [some (.ref p), some (.ref l), some (.int way), some (.str letters), some (.str z), y])
        ⟨Nat.zero_le _, p2.same s3, (kk1.trans k2).trans (kp_of s3), _, _, rfl, rfl⟩ (fun i σ H3 hi hp3 => ?_) (fun σ H3 hp3 => ?_)
      · obtain ⟨_, p3, k3, z, y, hz, rfl⟩ := hp3
        refine ⟨_, rfl, _, rfl, _, _, rfl, rfl, (by decide), _, rfl, p, 36, rfl, p3, by decide, by decide, fun d2 H4 d20 d21 p4 k4 => ?_⟩
        obtain ⟨j1, j2⟩ := item_ok (z := letters ++ Str.ofString "0123456789") d20 d21 (by decide)
        refine ⟨_, d2, _, rfl, rfl, d20, j1, d21, j2, _, _, rfl, rfl, ?_, ?_⟩
        · rw [hz, one_len]
          have : 1 + i + 1 ≤ 1000 := by omega
          exact Nat.le_of_lt (small1000 this)
        · exact ⟨hi, p4, k3.trans k4, _, _, by rw [Str.length_append, hz, one_len]; omega, rfl⟩
      · obtain ⟨_, p3, k3, z, y, hz, rfl⟩ := hp3
        exact ⟨_, rfl, q z H3 (by omega) (by omega) p3 k3⟩
def n_signs : List Str := ["_law_letters"]
theorem sc_signs : FnScope n_signs [] (defScope s_signs) := ⟨rfl, rfl, rfl, by decide +kernel, rfl, by decide +kernel, by decide +kernel⟩
def spSigns : Sp := fun vs H Q _ => vs = [] ∧ ∀ z : Str, 0 < z.length → z.length ≤ 1000 → Q (.str z) H
theorem ok_signs (T : Txt mg) (D : Dfn K mg "_law_signs" s_signs []) : CalG P w K mg base 1 "_law_signs" [] spSigns := by
  refine D.ok sc_signs (fun vs H Q E h => ?_) (fun f cdv A fr s H vs Q E hr hgd h => ?_)
  · obtain ⟨rfl, _⟩ := h
    rfl
  · obtain ⟨rfl, q⟩ := h
    refine ⟨_, pss_cons (ps_set (i := 0) sc_signs.nd rfl (.inl rfl) pe_str)
      (pss_one (ps_ret (pe_op op_add_str (pe_op op_add_str (pe_op op_add_str (pv 0) (pe_slice sl_str (pe_upper (pv 0)) po_none (po_some pe_int))) pe_str) pe_str))), ?_⟩
    refine ⟨_, rfl, _, rfl, ⟨_, rfl⟩, signs, rfl, rfl, by decide, 26, rfl, _, rfl, by decide +kernel, _, _, rfl, rfl, by decide +kernel, _, _, rfl, rfl, by decide +kernel, _, _, rfl, rfl, by decide +kernel, ?_⟩
    exact q _ (by decide +kernel) (by decide +kernel)
def n_lname : List Str := ["_law_text", "_law_sign"]
theorem sc_lname : FnScope n_lname ["_law_text"] (defScope s_lname) := ⟨rfl, rfl, rfl, by decide +kernel, rfl, by decide +kernel, by decide +kernel⟩
def spLName : Sp := fun vs H Q _ => ∃ z : Str, vs = [.str z] ∧ z.length ≤ 1000 ∧ ∀ H', Same H H' → Q (.bl (nmS z)) H'
theorem ok_lname (T : Txt mg) (D : Dfn K mg "_law_is_name" s_lname ["_law_text"]) : CalG P w K mg base 1 "_law_is_name" ["_law_text"] spLName := by
  refine D.ok sc_lname (fun vs H Q E h => ?_) (fun f cdv A fr s H vs Q E hr hgd h => ?_)
  · obtain ⟨z, rfl, _⟩ := h
    rfl
  · obtain ⟨y, rfl, hl, q⟩ := h
    refine ⟨_, pss_cons (ps_if (PW.pt (pw_or (pt_not (pt_chain op_lt op_lt pe_int (pe_callB call_len rfl T.b_len (by decide +kernel) (pa_cons (pv 0) pa_nil)) pe_int)) (pw_or1 (pt_cmpR op_notIn_sign (pe_item_str (pv 0) pe_int (fun _ _ => rfl)) pe_str rfl))))
        (pss_one (ps_ret pe_bl))
        (pss_nil))
      (pss_one (ps_ret (pe_callB (cr_all rfl) rfl T.b_all (by decide +kernel) (pa_cons (pe_lc (own := [("_law_sign", 1)]) (g := gName 1) (tt := tYes) rfl sc_lname.nd (pi_str (pv 0)) (blkOk_by (N := n_lname) (sc := defScope s_lname) (by decide +kernel)) (fun _ _ _ _ _ => pg_name (i := 1) sc_lname.nd rfl (Or.inl rfl)) (fun _ _ _ _ _ => pts_nil) (fun _ _ _ _ _ => (pe_cmpR op_in_sign (pv 1) pe_str rfl))) pa_nil)))), ?_⟩
    have nm : ∀ b : Bool, b = nmS y → ∀ H', Same H H' → Q (.bl b) H' := fun b e H' s => by rw [e]; exact q H' s
    refine ⟨_, rfl, .str y, y.length, rfl, ⟨Nat.le_trans hl (by decide), rfl⟩, _, _, rfl, rfl, _, rfl, ?_⟩
    by_cases h1 : (0 : Int) < (y.length : Int)
    · rw [decide_eq_true h1]
      refine iteT ⟨_, _, rfl, rfl, _, rfl, ?_⟩
      by_cases h2 : (y.length : Int) < 9
      · rw [decide_eq_true h2]
        refine iteF ?_
        have h0 : 0 < y.cps.size := by rw [← len_cps]; omega
        have c0 : y.cps[0]? = some (y.cps.getD 0 0) := by simp [Array.getD_eq_getD_getElem?, h0]
        refine ⟨_, rfl, y, 0, y.cps.getD 0 0, rfl, rfl, by decide, by decide, by omega, c0, _, letters, rfl, rfl, _, rfl, ?_⟩
        by_cases h3 : y.cps.getD 0 0 ∈ letters.cps.toList
        · rw [decide_eq_true h3]
          refine iteF ⟨_, rfl, y, rfl, fun Dl hD => lc_fun walk_str (fun i => .bl (decide (y.cps.getD i 0 ∈ signs.cps.toList))) (by rw [← len_cps]; exact Nat.lt_of_le_of_lt hl (by decide)) (fun i x H0 H0' Q0 hi hy hq => ?_) ?_⟩
          · obtain ⟨rfl, c, hc, rfl⟩ := hy
            refine ⟨rfl, _, rfl, c, signs, rfl, rfl, ?_⟩
            rw [← cps_get hc]
            exact hq
          · refine ⟨Dl, (List.range y.cps.size).map fun i => decide (y.cps.getD i 0 ∈ signs.cps.toList), rfl, .of (by rw [upd_same, List.map_map]; rfl), ?_⟩
            refine nm _ ?_ _ (same_new hD)
            unfold nmS
            rw [decide_eq_true (show (1 : Int) ≤ (y.length : Int) by omega), decide_eq_true (show (y.length : Int) ≤ 8 by omega), decide_eq_true h3]
            rfl
        · rw [decide_eq_false h3]
          refine iteT (nm _ ?_ _ (Same.refl _))
          unfold nmS
          rw [decide_eq_false h3, Bool.false_and, Bool.and_false]
      · rw [decide_eq_false h2]
        refine iteT (nm _ ?_ _ (Same.refl _))
        unfold nmS
        rw [decide_eq_false (show ¬ (y.length : Int) ≤ 8 by omega), Bool.and_false, Bool.false_and]
    · rw [decide_eq_false h1]
      refine iteF ⟨_, rfl, iteT (nm _ ?_ _ (Same.refl _))⟩
      unfold nmS
      rw [decide_eq_false (show ¬ (1 : Int) ≤ (y.length : Int) by omega), Bool.false_and, Bool.false_and]
end
end Jo

set_option Elab.async false
set_option linter.all false
set_option maxRecDepth 100000
namespace Jo
open PySem PySem.Spec PyProof.Rows L2
abbrev s_string : Stmt := top 15
abbrev s_string_right : Stmt := top 16
abbrev s_integer : Stmt := top 17
abbrev s_integer_right : Stmt := top 18
theorem Kp.purse {p q : Addr} {H H' : Hp} (k : Kp p H H') (n : q ≠ p) (h : PurseAt H q) : PurseAt H' q := let ⟨a, b, c, e⟩ := h; ⟨a, b, c, k _ _ e n⟩
/-- one sign each, joined -/
theorem join_ones : ∀ (ys : List Str), (∀ y ∈ ys, y.length = 1) → (ys.map (·.length)).sum = ys.length ∧ (Str.join (Str.ofString "") ys).length ≤ ys.length
  | [], _ => ⟨rfl, Nat.le_refl _⟩
  | [x], h => by
    have e := h x (List.mem_singleton.mpr rfl)
    exact ⟨by simp [e], by show x.length ≤ 1; omega⟩
  | x :: y :: r, h => by
    have e := h x List.mem_cons_self
    obtain ⟨i1, i2⟩ := join_ones (y :: r) (fun z hz => h z (List.mem_cons_of_mem _ hz))
    refine ⟨?_, ?_⟩
    · rw [List.map_cons, List.sum_cons, i1, e, List.length_cons (a := x)]
      omega
    · show (x ++ Str.ofString "" ++ Str.join (Str.ofString "") (y :: r)).length ≤ _
      rw [Str.length_append, Str.length_append, e, List.length_cons (a := x)]
      have : (Str.ofString "").length = 0 := by decide
      omega
section
variable {P : Program} {w : World} {K : PySem.W.Frag} {mg : Str → Option Value} {base : Heap}
def n_string : List Str := ["_law_purse_here", "_law_signs_here", "_law_text", "_law_way", "_law_place", "_law_sign", "_law_many", "_law_turn"]
theorem sc_string : FnScope n_string ["_law_purse_here"] (defScope s_string) := ⟨rfl, rfl, rfl, by decide +kernel, rfl, by decide +kernel, by decide +kernel⟩
def spString : Sp := fun vs H Q _ => ∃ p : Addr, vs = [.ref p] ∧ PurseAt H p ∧ ∀ (z : Str) (H' : Hp), z.length ≤ 1000 → PurseAt H' p → Kp p H H' → Q (.str z) H'
theorem ok_string (T : Txt mg) (D : Dfn K mg "_law_string" s_string ["_law_purse_here"]) (c_draw : CalG P w K mg base 1 "_law_draw" ["_law_purse_here", "_law_many"] spDraw)
    (c_name : CalG P w K mg base 2 "_law_name" ["_law_purse_here"] spName) (c_signs : CalG P w K mg base 1 "_law_signs" [] spSigns) :
    CalG P w K mg base 3 "_law_string" ["_law_purse_here"] spString := by
  refine D.ok sc_string (fun vs H Q E h => ?_) (fun f cdv A fr s H vs Q E hr hgd h => ?_)
  · obtain ⟨p, rfl, _⟩ := h
    rfl
  · obtain ⟨p, rfl, hp, q⟩ := h
    refine ⟨_, pss_cons (ps_asg (pe_tup (pa_cons (pe_cG0 c_signs hr (by decide) hgd rfl) (pa_cons (pe_cG c_name hr (by decide) hgd rfl (pa_cons (pv 0) pa_nil)) (pa_cons (pe_cG c_draw hr (by decide) hgd rfl (pa_cons (pv 0) (pa_cons pe_int pa_nil))) pa_nil)))) (pg_tup rfl (pgs_cons (pg_name (i := 1) sc_string.nd rfl (.inr rfl)) (pgs_cons (pg_name (i := 2) sc_string.nd rfl (.inl rfl)) (pgs_cons (pg_name (i := 3) sc_string.nd rfl (.inl rfl)) pgs_nil)))))
      (pss_cons (ps_set (i := 4) sc_string.nd rfl (.inl rfl) (pe_cG c_draw hr (by decide) hgd rfl (pa_cons (pv 0) (pa_cons (pe_callB call_len rfl T.b_len (by decide +kernel) (pa_cons (pv 2) pa_nil)) pa_nil))))
      (pss_cons (ps_set (i := 5) sc_string.nd rfl (.inl rfl) (pe_item_str (pv 1) (pe_cG c_draw hr (by decide) hgd rfl (pa_cons (pv 0) (pa_cons (pe_callB call_len rfl T.b_len (by decide +kernel) (pa_cons (pv 1) pa_nil)) pa_nil))) (fun _ _ => rfl)))
      (pss_cons (ps_if (pt_cmpR op_eq (pv 3) pe_int (nomark _))
        (pss_one (ps_ret (pv 2)))
        (pss_nil))
      (pss_cons (ps_if (pt_cmpR op_eq (pv 3) pe_int (nomark _))
        (pss_one (ps_ret (pe_op op_add_str (pe_op op_add_str (pe_slice sl_str (pv 2) po_none (po_some (pv 4))) (pv 5)) (pe_slice sl_str (pv 2) (po_some (pe_op op_add (pv 4) pe_int)) po_none))))
        (pss_nil))
      (pss_cons (ps_if (pt_cmpR op_eq (pv 3) pe_int (nomark _))
        (pss_one (ps_ret (pe_op op_add_str (pe_op op_add_str (pe_slice sl_str (pv 2) po_none (po_some (pv 4))) (pv 5)) (pe_slice sl_str (pv 2) (po_some (pv 4)) po_none))))
        (pss_nil))
      (pss_cons (ps_if (pt_cmpR op_eq (pv 3) pe_int (nomark _))
        (pss_one (ps_ret (pe_op op_add_str (pe_slice sl_str (pv 2) po_none (po_some (pv 4))) (pe_slice sl_str (pv 2) (po_some (pe_op op_add (pv 4) pe_int)) po_none))))
        (pss_nil))
      (pss_cons (ps_if (pt_cmpR op_eq (pv 3) pe_int (nomark _))
        (pss_one (ps_ret (pe_op op_add_str (pv 2) (pv 5))))
        (pss_nil))
      (pss_cons (ps_set (i := 6) sc_string.nd rfl (.inl rfl) (pe_cG c_draw hr (by decide) hgd rfl (pa_cons (pv 0) (pa_cons pe_int pa_nil))))
      (pss_one (ps_ret (pe_join pe_str (pe_lc (own := [("_law_turn", 7)]) (g := gName 7) (tt := tYes) rfl sc_string.nd (pi_range1 rfl T.b_range (pa_cons (pv 6) pa_nil)) (blkOk_by (N := n_string) (sc := defScope s_string) (by decide +kernel)) (fun _ _ _ _ _ => pg_name (i := 7) sc_string.nd rfl (Or.inl rfl)) (fun _ _ _ _ _ => pts_nil) (fun _ _ _ _ _ => (pe_item_str (pv 1) (pe_cG c_draw hr (by decide) hgd rfl (pa_cons (pv 0) (pa_cons (pe_callB (id := "len") (r := rLen K) call_len rfl T.b_len (by decide +kernel) (pa_cons (pv 1) pa_nil)) pa_nil))) (fun _ _ => rfl))))))))))))))), ?_⟩
    -- the signs, a name, the way
    refine ⟨rfl, fun sg g0 g1 => ?_⟩
    refine ⟨_, rfl, p, rfl, hp, fun z H1 z0 z1 p1 k1 => ?_⟩
    refine ⟨_, rfl, p, 6, rfl, p1, by decide, by decide, fun way H2 w0 w1 p2 k2 => ?_⟩
    refine ⟨(show 3 ≤ sizeLine by decide), fun t ht => ?_⟩
    have s3 : Same H2 (upd H2 t (.tup [V.str sg, V.str z, V.int way])) := same_new ht
    have p3 := p2.same s3
    have k3 : Kp p H (upd H2 t (.tup [V.str sg, V.str z, V.int way])) := (k1.trans k2).trans (kp_of s3)
    generalize hH3 : upd H2 t (.tup [V.str sg, V.str z, V.int way]) = H3 at *
    have ht3 : H3 t = some (.tup [V.str sg, V.str z, V.int way]) := by rw [← hH3]; exact upd_same
    refine ⟨t, _, rfl, .inl (.inl ht3), rfl, _, _, rfl, _, _, rfl, _, _, rfl, rfl, ?_⟩
    -- the place, the sign
    refine ⟨_, rfl, _, rfl, .str z, z.length, rfl, ⟨Nat.le_of_lt (small1000 (by omega)), rfl⟩, p, (z.length : Int), rfl, p3, by omega, small_log (by omega) (by omega), fun pl H4 pl0 pl1 p4 k4 => ?_⟩
    refine ⟨_, rfl, _, rfl, _, rfl, .str sg, sg.length, rfl, ⟨Nat.le_of_lt (small1000 (by omega)), rfl⟩, p, (sg.length : Int), rfl, p4, by omega, small_log (by omega) (by omega), fun d H5 d0 d1 p5 k5 => ?_⟩
    obtain ⟨i1, i2⟩ := item_ok (z := sg) d0 d1 g1
    refine ⟨sg, d, _, rfl, rfl, d0, i1, d1, i2, ?_⟩
    have k6 : Kp p H H5 := (k3.trans k4).trans k5
    generalize sg.cps.getD d.toNat 0 = ch
    have cl : ∀ lo hi, (cutS z lo hi).length ≤ 8 := fun lo hi => Nat.le_trans (cutS_length z lo hi) z1
    have lz : z.length ≤ sizeLine := Nat.le_of_lt (small1000 (by omega))
    have l1 : ∀ a b : Str, a.length ≤ 400 → b.length ≤ 400 → a.length + b.length ≤ sizeLine := fun a b h1 h2 => Nat.le_of_lt (small1000 (by omega))
    refine ⟨_, rfl, rfl, _, rfl, ite2 (fun e => ⟨_, rfl, q z H5 (by omega) p5 k6⟩) (fun _ => ?_)⟩
    refine ⟨_, rfl, rfl, _, rfl, ite2 (fun e => ?_) (fun _ => ?_)⟩
    · refine ⟨_, rfl, _, rfl, pl, rfl, z, rfl, lz, _, rfl, _, _, rfl, rfl, l1 _ _ (Nat.le_trans (cl _ _) (by decide)) (by show 1 ≤ 400; decide), ?_⟩
      refine ⟨_, rfl, _, rfl, _, _, rfl, rfl, _, rfl, z, rfl, lz, _, _, rfl, rfl, ?_, ?_⟩
      · exact l1 _ _ (by rw [Str.length_append, one_len]; have := cl none (some pl); omega) (Nat.le_trans (cl _ _) (by decide))
      · refine q _ H5 ?_ p5 k6
        rw [Str.length_append, Str.length_append, one_len]
        have a1 := cl none (some pl)
        have a2 := cl (some (pl + 1)) none
        omega
    refine ⟨_, rfl, rfl, _, rfl, ite2 (fun e => ?_) (fun _ => ?_)⟩
    · refine ⟨_, rfl, _, rfl, pl, rfl, z, rfl, lz, _, rfl, _, _, rfl, rfl, l1 _ _ (Nat.le_trans (cl _ _) (by decide)) (by show 1 ≤ 400; decide), ?_⟩
      refine ⟨_, rfl, _, rfl, _, rfl, z, rfl, lz, _, _, rfl, rfl, ?_, ?_⟩
      · exact l1 _ _ (by rw [Str.length_append, one_len]; have := cl none (some pl); omega) (Nat.le_trans (cl _ _) (by decide))
      · refine q _ H5 ?_ p5 k6
        rw [Str.length_append, Str.length_append, one_len]
        have a1 := cl none (some pl)
        have a2 := cl (some pl) none
        omega
    refine ⟨_, rfl, rfl, _, rfl, ite2 (fun e => ?_) (fun _ => ?_)⟩
    · refine ⟨_, rfl, _, rfl, pl, rfl, z, rfl, lz, _, rfl, _, rfl, _, _, rfl, rfl, _, rfl, z, rfl, lz, _, _, rfl, rfl, l1 _ _ (Nat.le_trans (cl _ _) (by decide)) (Nat.le_trans (cl _ _) (by decide)), ?_⟩
      refine q _ H5 ?_ p5 k6
      rw [Str.length_append]
      have a1 := cl none (some pl)
      have a2 := cl (some (pl + 1)) none
      omega
    refine ⟨_, rfl, rfl, _, rfl, ite2 (fun e => ?_) (fun _ => ?_)⟩
    · refine ⟨_, rfl, _, rfl, _, _, rfl, rfl, l1 _ _ (by omega) (by show 1 ≤ 400; decide), ?_⟩
      refine q _ H5 ?_ p5 k6
      rw [Str.length_append, one_len]
      omega
    -- up to ten signs
    refine ⟨_, rfl, p, 11, rfl, p5, by decide, by decide, fun many H6 m0 m1 p6 k7 => ?_⟩
    refine ⟨⟨_, rfl⟩, _, rfl, many, rfl, by omega, by omega, fun Dl hD => lc_it walk_range (fun i H => ∃ ys : List Str, ys.length = i ∧ (∀ y ∈ ys, y.length = 1) ∧ H Dl = some (.lst (ys.map V.str)) ∧ PurseAt H p ∧ Kp p H6 H) ?_ (fun _ _ _ _ => trivial) (fun i x H7 H7' hi hp7 hy => ?_) (fun H7 hp7 => ?_)⟩
    · exact ⟨[], rfl, (fun _ h => nomatch h), upd_same, p6.same (same_new hD), kp_of (same_new hD)⟩
    · obtain ⟨rfl, rfl⟩ := hy
      obtain ⟨ys, hys, h1, hDl, p7, k8⟩ := hp7
      have nDp : Dl ≠ p := fun e => by
        obtain ⟨a, b, c, e2⟩ := p6
        rw [← e, hD] at e2
        cases e2
      refine ⟨rfl, _, rfl, _, rfl, _, rfl, .str sg, sg.length, rfl, ⟨Nat.le_of_lt (small1000 (by omega)), rfl⟩, p, (sg.length : Int), rfl, p7, by omega, small_log (by omega) (by omega), fun d2 H8 d20 d21 p8 k9 => ?_⟩
      obtain ⟨j1, j2⟩ := item_ok (z := sg) d20 d21 g1
      refine ⟨sg, d2, _, rfl, rfl, d20, j1, d21, j2, _, k9 _ _ hDl nDp, ?_, ys ++ [⟨#[sg.cps.getD d2.toNat 0]⟩], ?_, ?_, ?_, ?_, ?_⟩
      · rw [List.length_map]
        exact small1000 (by omega)
      · rw [List.length_append, hys]; rfl
      · intro y hy
        rcases List.mem_append.mp hy with hy | hy
        · exact h1 y hy
        · rw [List.mem_singleton.mp hy]; rfl
      · rw [upd_same, List.map_append]; rfl
      · obtain ⟨a, b, c, e⟩ := p8
        exact ⟨a, b, c, by rw [upd_ne nDp.symm]; exact e⟩
      · intro b o e nb
        rw [upd_ne (ne_of_none e hD)]
        exact k9 _ _ (k8 _ _ e nb) nb
    · obtain ⟨ys, hys, h1, hDl, p7, k8⟩ := hp7
      obtain ⟨j1, j2⟩ := join_ones ys h1
      refine ⟨_, Dl, ys, rfl, rfl, .inl (.of hDl), ?_, ?_⟩
      · rw [j1]
        show ys.length + ys.length * 0 ≤ _
        omega
      · rw [TL.join_eq]
        exact q _ H7 (Nat.le_trans j2 (by omega)) p7 ((k6.trans k7).trans k8)
end
end Jo

set_option Elab.async false
set_option linter.all false
set_option maxRecDepth 100000
set_option maxHeartbeats 400000
namespace Jo
open PySem PySem.Spec PyProof.Rows L2
section
variable {P : Program} {w : World} {K : PySem.W.Frag} {mg : Str → Option Value} {base : Heap}
theorem data2 (a b : Bool) : (PyData.list [.bool a, .bool b]).showable = true ∧ (PyData.list [.bool a, .bool b]).hasDict = false ∧ (PyData.list [.bool a, .bool b]).depth ≤ 60 ∧ (PyData.list [.bool a, .bool b]).shown.length ≤ sizeLine := by
  revert a b
  decide +kernel
theorem data3 (a b c : Bool) : (PyData.list [.bool a, .bool b, .bool c]).showable = true ∧ (PyData.list [.bool a, .bool b, .bool c]).hasDict = false ∧ (PyData.list [.bool a, .bool b, .bool c]).depth ≤ 60 ∧ (PyData.list [.bool a, .bool b, .bool c]).shown.length ≤ sizeLine := by
  revert a b c
  decide +kernel
def n_string_right : List Str := ["_law_text", "_law_due"]
theorem sc_string_right : FnScope n_string_right ["_law_text"] (defScope s_string_right) := ⟨rfl, rfl, rfl, by decide +kernel, rfl, by decide +kernel, by decide +kernel⟩
def spSRight : Sp := fun vs H Q _ => ∃ z : Str, vs = [.str z] ∧ z.length ≤ 1000 ∧ ∀ H', Same H H' → Q (.bl true) H'
theorem ok_string_right (T : Txt mg) (D : Dfn K mg "_law_string_right" s_string_right ["_law_text"]) (c_lname : CalG P w K mg base 1 "_law_is_name" ["_law_text"] spLName)
    (c_is_name : CalG P w K mg base 1 "is_name" ["value"] (spIsName K)) (c_is_size : CalG P w K mg base 2 "is_size" ["value"] (spIsSize K))
    (c_is_integer : CalG P w K mg base 1 "is_integer" ["value"] (spIsInt K)) : CalG P w K mg base 3 "_law_string_right" ["_law_text"] spSRight := by
  refine D.ok sc_string_right (fun vs H Q E h => ?_) (fun f cdv A fr s H vs Q E hr hgd h => ?_)
  · obtain ⟨z, rfl, _⟩ := h
    rfl
  · obtain ⟨z, rfl, hl, q⟩ := h
    refine ⟨_, pss_cons (ps_set (i := 1) sc_string_right.nd rfl (.inl rfl) (pe_cG c_lname hr (by decide) hgd rfl (pa_cons (pv 0) pa_nil)))
      (pss_cons (ps_if (pt_cmpR op_ne (pe_callB (call_repr hgd hr.units) rfl T.b_repr (by decide +kernel) (pa_cons (pe_lst (pa_cons (pe_cG c_is_name hr (by decide) hgd rfl (pa_cons (pv 0) pa_nil)) (pa_cons (pe_kG c_is_name hr (by decide) hgd rfl (pk_cons (pv 0) pk_nil)) pa_nil))) pa_nil)) (pe_callB (call_repr hgd hr.units) rfl T.b_repr (by decide +kernel) (pa_cons (pe_lst (pa_cons (pv 1) (pa_cons (pv 1) pa_nil))) pa_nil)) (nomark _))
        (pss_one (ps_ret pe_bl))
        (pss_nil))
      (pss_one (ps_ret (pe_and (pe_cmpR op_is_bl (pe_cG c_is_size hr (by decide) hgd rfl (pa_cons (pv 0) pa_nil)) pe_bl (nomark _)) (pe_one (pe_cmpR op_is_bl (pe_cG c_is_integer hr (by decide) hgd rfl (pa_cons (pv 0) pa_nil)) pe_bl (nomark _))))))), ?_⟩
    have hz : ∀ y, V.str z = .str y → y.length ≤ 1000 := fun y e => by cases e; exact hl
    refine ⟨_, rfl, z, rfl, hl, fun H1 s1 => ?_⟩
    refine ⟨_, rfl, _, rfl, any_str z, hz, fun H2 s2 => ?_⟩
    refine ⟨_, rfl, _, rfl, any_str z, hz, fun H3 s3 => ?_⟩
    refine ⟨(show 2 ≤ sizeLine by decide), fun p hp => ?_⟩
    obtain ⟨d1, d2, d3, d4⟩ := data2 (nmS z) (nmS z)
    refine ⟨p, _, 3, rfl, .lst (.of upd_same) (.cons (.bl _) (.cons (.bl _) .nil)), d1, d2, d3, d4, ?_⟩
    refine ⟨_, rfl, _, rfl, (show 2 ≤ sizeLine by decide), fun p2 hp2 => ?_⟩
    refine ⟨p2, _, 3, rfl, .lst (.of upd_same) (.cons (.bl _) (.cons (.bl _) .nil)), d1, d2, d3, d4, rfl, _, rfl, iteNS rfl ?_⟩
    refine ⟨_, rfl, _, rfl, any_str z, false, false, rfl, rfl, _, rfl, iteT ⟨_, rfl, _, rfl, any_str z, false, false, rfl, rfl, ?_⟩⟩
    exact q _ ((((s1.trans s2).trans s3).trans (same_new hp)).trans (same_new hp2))
def n_integer : List Str := ["_law_purse_here", "_law_way", "_law_number"]
theorem sc_integer : FnScope n_integer ["_law_purse_here"] (defScope s_integer) := ⟨rfl, rfl, rfl, by decide +kernel, rfl, by decide +kernel, by decide +kernel⟩
def spInteger : Sp := fun vs H Q _ => ∃ p : Addr, vs = [.ref p] ∧ PurseAt H p ∧ ∀ (n : Int) (H' : Hp), PurseAt H' p → Kp p H H' → Q (.int n) H'
theorem ok_integer (T : Txt mg) (D : Dfn K mg "_law_integer" s_integer ["_law_purse_here"]) (c_draw : CalG P w K mg base 1 "_law_draw" ["_law_purse_here", "_law_many"] spDraw) :
    CalG P w K mg base 2 "_law_integer" ["_law_purse_here"] spInteger := by
  refine D.ok sc_integer (fun vs H Q E h => ?_) (fun f cdv A fr s H vs Q E hr hgd h => ?_)
  · obtain ⟨p, rfl, _⟩ := h
    rfl
  · obtain ⟨p, rfl, hp, q⟩ := h
    refine ⟨_, pss_cons (ps_set (i := 1) sc_integer.nd rfl (.inl rfl) (pe_cG c_draw hr (by decide) hgd rfl (pa_cons (pv 0) (pa_cons pe_int pa_nil))))
      (pss_cons (ps_if (pt_cmpR op_eq (pv 1) pe_int (nomark _))
        (pss_one (ps_ret (pe_op op_sub (pe_cG c_draw hr (by decide) hgd rfl (pa_cons (pv 0) (pa_cons pe_int pa_nil))) pe_int)))
        (pss_nil))
      (pss_cons (ps_set (i := 2) sc_integer.nd rfl (.inl rfl) (pe_cG c_draw hr (by decide) hgd rfl (pa_cons (pv 0) (pa_cons (pe_ifExp (pt_cmpR op_eq (pv 1) pe_int (nomark _)) (pe_op op_pow pe_int pe_int) (pe_op op_pow pe_int pe_int)) pa_nil))))
      (pss_one (ps_ret (pe_ifExp (pt_cmpR op_eq (pe_cG c_draw hr (by decide) hgd rfl (pa_cons (pv 0) (pa_cons pe_int pa_nil))) pe_int (nomark _)) (pv 2) (pe_un un_neg (pv 2))))))), ?_⟩
    refine ⟨_, rfl, p, 3, rfl, hp, by decide, by decide, fun way H1 w0 w1 p1 k1 => ?_⟩
    refine ⟨_, rfl, rfl, _, rfl, ite2 (fun e => ?_) (fun _ => ?_)⟩
    · refine ⟨_, rfl, p, 44, rfl, p1, by decide, by decide, fun d H2 _ _ p2 k2 => ?_⟩
      exact ⟨_, _, rfl, rfl, q _ _ p2 (k1.trans k2)⟩
    · refine ⟨_, rfl, _, rfl, rfl, _, rfl, ?_⟩
      have rest : ∀ (n : Int) (H2 : Hp), PurseAt H2 p → Kp p H1 H2 → ∃ v, some (some (V.ref p)) = some (some v) ∧ ∃ (p' : Addr) (m : Int), [v, V.int 2] = [.ref p', .int m] ∧ PurseAt H2 p' ∧ 0 < m ∧ m.natAbs.log2 < 9000 ∧
          ∀ (d : Int) (H' : Hp), 0 ≤ d → d < m → PurseAt H' p' → Kp p' H2 H' → (scal (.int d) (.int 0) = true ∧ ∃ k, V.bl (decide (V.int d = V.int 0)) = .bl k ∧ (if k = true then Q (.int n) H' else Q (.int (-n)) H')) :=
        fun n H2 p2 k2 => ⟨_, rfl, p, 2, rfl, p2, by decide, by decide, fun d H3 _ _ p3 k3 => ⟨rfl, _, rfl, ite2 (fun _ => q _ _ p3 ((k1.trans k2).trans k3)) (fun _ => q _ _ p3 ((k1.trans k2).trans k3))⟩⟩
      refine ite2 (fun e => ?_) (fun e => ?_)
      · refine ⟨_, _, rfl, rfl, ⟨by decide, by decide, by decide⟩, p, _, rfl, p1, by decide +kernel, (wide_div (b := 400) (i := 0) (by decide +kernel) (by decide +kernel) (by decide) (by decide)).2, fun n H2 _ _ p2 k2 => ?_⟩
        obtain ⟨v, e1, p', m, e2, a1, a2, a3, a4⟩ := rest n H2 p2 k2
        cases e1
        refine ⟨_, rfl, p', m, e2, a1, a2, a3, fun d H' b1 b2 b3 b4 => ?_⟩
        obtain ⟨c1, k, c2, c3⟩ := a4 d H' b1 b2 b3 b4
        refine ⟨c1, k, c2, ?_⟩
        cases k with
        | true => exact iteT ⟨_, rfl, by rw [if_pos rfl] at c3; exact c3⟩
        | false => exact iteF ⟨_, rfl, _, rfl, by rw [if_neg Bool.false_ne_true] at c3; exact c3⟩
      · refine ⟨_, _, rfl, rfl, ⟨by decide, by decide, by decide⟩, p, _, rfl, p1, by decide +kernel, (wide_div (b := 400) (i := 0) (by decide +kernel) (by decide +kernel) (by decide) (by decide)).2, fun n H2 _ _ p2 k2 => ?_⟩
        obtain ⟨v, e1, p', m, e2, a1, a2, a3, a4⟩ := rest n H2 p2 k2
        cases e1
        refine ⟨_, rfl, p', m, e2, a1, a2, a3, fun d H' b1 b2 b3 b4 => ?_⟩
        obtain ⟨c1, k, c2, c3⟩ := a4 d H' b1 b2 b3 b4
        refine ⟨c1, k, c2, ?_⟩
        cases k with
        | true => exact iteT ⟨_, rfl, by rw [if_pos rfl] at c3; exact c3⟩
        | false => exact iteF ⟨_, rfl, _, rfl, by rw [if_neg Bool.false_ne_true] at c3; exact c3⟩
def n_integer_right : List Str := ["_law_number", "_law_due"]
theorem sc_integer_right : FnScope n_integer_right ["_law_number"] (defScope s_integer_right) := ⟨rfl, rfl, rfl, by decide +kernel, rfl, by decide +kernel, by decide +kernel⟩
def spIRight : Sp := fun vs H Q _ => ∃ n : Int, vs = [.int n] ∧ ∀ H', Same H H' → Q (.bl true) H'
theorem ok_integer_right (T : Txt mg) (D : Dfn K mg "_law_integer_right" s_integer_right ["_law_number"])
    (c_is_name : CalG P w K mg base 1 "is_name" ["value"] (spIsName K)) (c_is_size : CalG P w K mg base 2 "is_size" ["value"] (spIsSize K))
    (c_is_integer : CalG P w K mg base 1 "is_integer" ["value"] (spIsInt K)) : CalG P w K mg base 3 "_law_integer_right" ["_law_number"] spIRight := by
  refine D.ok sc_integer_right (fun vs H Q E h => ?_) (fun f cdv A fr s H vs Q E hr hgd h => ?_)
  · obtain ⟨z, rfl, _⟩ := h
    rfl
  · obtain ⟨n, rfl, q⟩ := h
    refine ⟨_, pss_cons (ps_set (i := 1) sc_integer_right.nd rfl (.inl rfl) (pe_chain op_lt op_lt pe_int (pv 0) pe_int))
      (pss_cons (ps_if (pt_cmpR op_ne (pe_callB (call_repr hgd hr.units) rfl T.b_repr (by decide +kernel) (pa_cons (pe_lst (pa_cons (pe_cG c_is_size hr (by decide) hgd rfl (pa_cons (pv 0) pa_nil)) (pa_cons (pe_kG c_is_size hr (by decide) hgd rfl (pk_cons (pv 0) pk_nil)) (pa_cons (pe_cG c_is_name hr (by decide) hgd rfl (pa_cons (pv 0) pa_nil)) pa_nil)))) pa_nil)) (pe_callB (call_repr hgd hr.units) rfl T.b_repr (by decide +kernel) (pa_cons (pe_lst (pa_cons (pv 1) (pa_cons (pv 1) (pa_cons pe_bl pa_nil)))) pa_nil)) (nomark _))
        (pss_one (ps_ret pe_bl))
        (pss_nil))
      (pss_one (ps_ret (pe_and (pe_cmpR op_is_bl (pe_cG c_is_integer hr (by decide) hgd rfl (pa_cons (pv 0) pa_nil)) pe_bl (nomark _)) (pe_one (pe_cmpR op_is_bl (pe_kG c_is_integer hr (by decide) hgd rfl (pk_cons (pv 0) pk_nil)) pe_bl (nomark _))))))), ?_⟩
    have noS : ∀ y, V.int n = .str y → y.length ≤ 1000 := fun y e => by cases e
    refine ⟨_, rfl, _, _, rfl, rfl, _, rfl, ?_⟩
    by_cases h1 : 0 < n
    · rw [decide_eq_true h1]
      refine iteT ⟨_, _, rfl, rfl, ?_⟩
      have e0 : isSz (.int n) = decide (n < 41) := by
        show (decide (1 ≤ n) && decide (n ≤ 40)) = _
        rw [decide_eq_true (show 1 ≤ n by omega), Bool.true_and]
        exact decide_eq_decide.mpr (by omega)
      refine ⟨_, rfl, _, rfl, any_int n, _, rfl, _, rfl, any_int n, _, rfl, _, rfl, any_int n, noS, fun H1 s1 => ?_⟩
      rw [e0]
      refine ⟨(show 3 ≤ sizeLine by decide), fun p hp => ?_⟩
      obtain ⟨d1, d2, d3, d4⟩ := data3 (decide (n < 41)) (decide (n < 41)) false
      refine ⟨p, .list [.bool (decide (n < 41)), .bool (decide (n < 41)), .bool false], 3, rfl, .lst (.of upd_same) (.cons (.bl _) (.cons (.bl _) (.cons (.bl _) .nil))), d1, d2, d3, d4, ?_⟩
      refine ⟨_, rfl, _, rfl, (show 3 ≤ sizeLine by decide), fun p2 hp2 => ?_⟩
      refine ⟨p2, .list [.bool (decide (n < 41)), .bool (decide (n < 41)), .bool false], 3, rfl, .lst (.of upd_same) (.cons (.bl _) (.cons (.bl _) (.cons (.bl _) .nil))), d1, d2, d3, d4, rfl, _, rfl, iteNS rfl ?_⟩
      refine ⟨_, rfl, _, rfl, any_int n, true, true, rfl, rfl, _, rfl, iteT ⟨_, rfl, _, rfl, any_int n, true, true, rfl, rfl, ?_⟩⟩
      exact q _ ((s1.trans (same_new hp)).trans (same_new hp2))
    · rw [decide_eq_false h1]
      refine iteF ?_
      have e0 : isSz (.int n) = false := by
        show (decide (1 ≤ n) && decide (n ≤ 40)) = _
        rw [decide_eq_false (show ¬ 1 ≤ n by omega), Bool.false_and]
      refine ⟨_, rfl, _, rfl, any_int n, _, rfl, _, rfl, any_int n, _, rfl, _, rfl, any_int n, noS, fun H1 s1 => ?_⟩
      rw [e0]
      refine ⟨(show 3 ≤ sizeLine by decide), fun p hp => ?_⟩
      obtain ⟨d1, d2, d3, d4⟩ := data3 false false false
      refine ⟨p, .list [.bool false, .bool false, .bool false], 3, rfl, .lst (.of upd_same) (.cons (.bl _) (.cons (.bl _) (.cons (.bl _) .nil))), d1, d2, d3, d4, ?_⟩
      refine ⟨_, rfl, _, rfl, (show 3 ≤ sizeLine by decide), fun p2 hp2 => ?_⟩
      refine ⟨p2, .list [.bool false, .bool false, .bool false], 3, rfl, .lst (.of upd_same) (.cons (.bl _) (.cons (.bl _) (.cons (.bl _) .nil))), d1, d2, d3, d4, rfl, _, rfl, iteNS rfl ?_⟩
      refine ⟨_, rfl, _, rfl, any_int n, true, true, rfl, rfl, _, rfl, iteT ⟨_, rfl, _, rfl, any_int n, true, true, rfl, rfl, ?_⟩⟩
      exact q _ ((s1.trans (same_new hp)).trans (same_new hp2))
end
end Jo

set_option Elab.async false
set_option linter.all false
set_option maxRecDepth 100000
set_option maxHeartbeats 400000
namespace Jo
open PySem PySem.Spec PyProof.Rows L2
abbrev s_others_right : Stmt := top 19
abbrev s_right : Stmt := top 20
abbrev s_law : Stmt := top 21
section
variable {P : Program} {w : World} {K : PySem.W.Frag} {mg : Str → Option Value} {base : Heap}
def n_others_right : List Str := ["_law_purse_here", "_law_text", "_law_number", "_law_inner", "_law_table", "_law_others", "_law_other"]
theorem sc_others_right : FnScope n_others_right ["_law_purse_here"] (defScope s_others_right) := ⟨rfl, rfl, rfl, by decide +kernel, rfl, by decide +kernel, by decide +kernel⟩
def spORight : Sp := fun vs H Q _ => ∃ p : Addr, vs = [.ref p] ∧ PurseAt H p ∧ ∀ H', PurseAt H' p → Kp p H H' → Q (.bl true) H'
theorem ok_others_right (T : Txt mg) (D : Dfn K mg "_law_others_right" s_others_right ["_law_purse_here"])
    (c_draw : CalG P w K mg base 1 "_law_draw" ["_law_purse_here", "_law_many"] spDraw) (c_name : CalG P w K mg base 2 "_law_name" ["_law_purse_here"] spName)
    (c_is_name : CalG P w K mg base 1 "is_name" ["value"] (spIsName K)) (c_is_size : CalG P w K mg base 2 "is_size" ["value"] (spIsSize K))
    (c_is_integer : CalG P w K mg base 1 "is_integer" ["value"] (spIsInt K)) : CalG P w K mg base 3 "_law_others_right" ["_law_purse_here"] spORight := by
  refine D.ok sc_others_right (fun vs H Q E h => ?_) (fun f cdv A fr s H vs Q E hr hgd h => ?_)
  · obtain ⟨p, rfl, _⟩ := h
    rfl
  · obtain ⟨p, rfl, hp, q⟩ := h
    refine ⟨_, pss_cons (ps_par (i := 1) (j := 2) rfl sc_others_right.nd rfl rfl (by decide) rfl rfl (pa_cons (pe_cG c_name hr (by decide) hgd rfl (pa_cons (pv 0) pa_nil)) (pa_cons (pe_op op_add pe_int (pe_cG c_draw hr (by decide) hgd rfl (pa_cons (pv 0) (pa_cons pe_int pa_nil)))) pa_nil)) rfl)
      (pss_cons (ps_par (i := 3) (j := 4) rfl sc_others_right.nd rfl rfl (by decide) rfl rfl (pa_cons (pe_lst (pa_cons (pv 1) (pa_cons (pv 2) pa_nil))) (pa_cons (pe_disp (pps_cons (pv 1) (pv 2) pps_nil) (by rfl) (by rfl) (fun z => by cases z) (by decide)) pa_nil)) rfl)
      (pss_cons (ps_set (i := 5) sc_others_right.nd rfl (.inl rfl) (pe_lst (pa_cons pe_non (pa_cons pe_bl (pa_cons pe_bl (pa_cons (pe_tup pa_nil) (pa_cons (pe_lst pa_nil) (pa_cons pe_dnewK (pa_cons (pe_tup (pa_cons (pv 1) pa_nil)) (pa_cons (pe_tup (pa_cons (pv 2) pa_nil)) (pa_cons (pv 3) (pa_cons (pv 4) (pa_cons (pe_tup (pa_cons (pv 3) (pa_cons (pv 4) pa_nil))) pa_nil)))))))))))))
      (pss_cons (ps_for PassesOwn.never rfl (pi_list (pv 5)) (pg_name (i := 6) sc_others_right.nd rfl (.inl rfl))
        (pss_one (ps_if (PW.pt (pw_or (pt_cmpR op_isnot_bl (pe_cG c_is_name hr (by decide) hgd rfl (pa_cons (pv 6) pa_nil)) pe_bl (nomark _)) (pw_or (pt_cmpR op_isnot_bl (pe_cG c_is_size hr (by decide) hgd rfl (pa_cons (pv 6) pa_nil)) pe_bl (nomark _)) (pw_or1 (pt_cmpR op_isnot_bl (pe_cG c_is_integer hr (by decide) hgd rfl (pa_cons (pv 6) pa_nil)) pe_bl (nomark _))))))
            (pss_one (ps_ret pe_bl))
            (pss_nil))))
      (pss_one (ps_ret (pe_and (pe_cmpR (op_eqV hr.units) (pv 3) (pe_lst (pa_cons (pv 1) (pa_cons (pv 2) pa_nil))) (nomark _)) (pe_one (pe_cmpR (op_eqV hr.units) (pv 4) (pe_disp (pps_cons (pv 1) (pv 2) pps_nil) (by rfl) (by rfl) (fun z => by cases z) (by decide)) (nomark _))))))))), ?_⟩
    -- a text and a number
    refine ⟨_, rfl, p, rfl, hp, fun z H1 z0 z1 p1 k1 => ?_⟩
    refine ⟨_, rfl, p, 40, rfl, p1, by decide, by decide, fun n0 H2 _ _ p2 k2 => ?_⟩
    refine ⟨_, _, rfl, rfl, V.str z, V.int (1 + n0), rfl, ?_⟩
    have k3 := k1.trans k2
    generalize hn : 1 + n0 = n at *
    -- the list and the dict
    refine ⟨_, rfl, _, rfl, (show 2 ≤ sizeLine by decide), fun l hl => ?_⟩
    refine fun d hd => ?_
    refine ⟨_, rfl, _, rfl, upd_same, [(Sum.inr z, V.int n)], rfl, (show 1 ≤ 15 by decide), ?_⟩
    have hdl : d ≠ l := fun e => by rw [e, upd_same] at hd; cases hd
    have sl : Same H2 (upd H2 l (.lst [V.str z, V.int n])) := same_new hl
    have sd : Same (upd H2 l (.lst [V.str z, V.int n])) (upd (upd (upd H2 l (.lst [V.str z, V.int n])) d (.dK [])) d (.dK (mergeK [] [(Sum.inr z, V.int n)]))) := fun b o e => by
      rw [upd_ne (ne_of_none e hd), upd_ne (ne_of_none e hd)]
      exact e
    refine ⟨_, _, rfl, ?_⟩
    generalize hH3 : upd (upd (upd H2 l (.lst [V.str z, V.int n])) d (.dK [])) d (.dK (mergeK [] [(Sum.inr z, V.int n)])) = H3 at *
    have l3 : H3 l = some (.lst [V.str z, V.int n]) := sd _ _ upd_same
    have d3 : H3 d = some (.dK [(Sum.inr z, V.int n)]) := by rw [← hH3]; exact upd_same
    have s3 : Same H2 H3 := sl.trans sd
    -- the others
    refine ⟨(show 0 ≤ sizeLine by decide), fun t1 ht1 => ?_⟩
    refine ⟨(show 0 ≤ sizeLine by decide), fun l1 hl1 => ?_⟩
    refine fun e1 he1 => ?_
    refine ⟨_, rfl, (show 1 ≤ sizeLine by decide), fun t2 ht2 => ?_⟩
    refine ⟨_, rfl, (show 1 ≤ sizeLine by decide), fun t3 ht3 => ?_⟩
    refine ⟨_, rfl, _, rfl, _, rfl, _, rfl, (show 2 ≤ sizeLine by decide), fun t4 ht4 => ?_⟩
    have u1 := same_new (o := .tup []) ht1
    have u2 := same_new (o := .lst []) hl1
    have u3 := same_new (o := .dK []) he1
    have u4 := same_new (o := .tup [V.str z]) ht2
    have u5 := same_new (o := .tup [V.int n]) ht3
    have u6 := same_new (o := .tup [V.ref l, V.ref d]) ht4
    generalize hG1 : upd H3 t1 (.tup []) = G1 at *
    generalize hG2 : upd G1 l1 (.lst []) = G2 at *
    generalize hG3 : upd G2 e1 (.dK []) = G3 at *
    generalize hG4 : upd G3 t2 (.tup [V.str z]) = G4 at *
    generalize hG5 : upd G4 t3 (.tup [V.int n]) = G5 at *
    generalize hG6 : upd G5 t4 (.tup [V.ref l, V.ref d]) = G6 at *
    refine ⟨(show 11 ≤ sizeLine by decide), fun o ho => ?_⟩
    have u7 := same_new (o := .lst [V.non, V.bl true, V.bl false, V.ref t1, V.ref l1, V.ref e1, V.ref t2, V.ref t3, V.ref l, V.ref d, V.ref t4]) ho
    have o7 : (upd G6 o (.lst [V.non, V.bl true, V.bl false, V.ref t1, V.ref l1, V.ref e1, V.ref t2, V.ref t3, V.ref l, V.ref d, V.ref t4])) o = _ := upd_same
    generalize hG7 : upd G6 o (.lst [V.non, V.bl true, V.bl false, V.ref t1, V.ref l1, V.ref e1, V.ref t2, V.ref t3, V.ref l, V.ref d, V.ref t4]) = G7 at *
    have v6 := u6.trans u7
    have v5 := u5.trans v6
    have v4 := u4.trans v5
    have v3 := u3.trans v4
    have v2 := u2.trans v3
    have v1 := u1.trans v2
    have x1 : G7 t1 = some (.tup []) := v2 _ _ (by rw [← hG1]; exact upd_same)
    have x2 : G7 l1 = some (.lst []) := v3 _ _ (by rw [← hG2]; exact upd_same)
    have x3 : G7 e1 = some (.dK []) := v4 _ _ (by rw [← hG3]; exact upd_same)
    have x4 : G7 t2 = some (.tup [V.str z]) := v5 _ _ (by rw [← hG4]; exact upd_same)
    have x5 : G7 t3 = some (.tup [V.int n]) := v6 _ _ (by rw [← hG5]; exact upd_same)
    have x6 : G7 t4 = some (.tup [V.ref l, V.ref d]) := u7 _ _ (by rw [← hG6]; exact upd_same)
    have x7 : G7 l = some (.lst [V.str z, V.int n]) := v1 _ _ l3
    have x8 : G7 d = some (.dK [(Sum.inr z, V.int n)]) := v1 _ _ d3
    have anyO : ∀ x ∈ [V.non, V.bl true, V.bl false, V.ref t1, V.ref l1, V.ref e1, V.ref t2, V.ref t3, V.ref l, V.ref d, V.ref t4], isI x = false ∧ isS x = false ∧ isSz x = false ∧ isNm x = false ∧ ∀ H', Same G7 H' → AnyV K H' x := by
      intro x hx
      simp only [List.mem_cons, List.not_mem_nil, or_false] at hx
      rcases hx with rfl | rfl | rfl | rfl | rfl | rfl | rfl | rfl | rfl | rfl | rfl
      · exact ⟨rfl, rfl, rfl, rfl, fun H' _ => any_non⟩
      · exact ⟨rfl, rfl, rfl, rfl, fun H' _ => any_bl _⟩
      · exact ⟨rfl, rfl, rfl, rfl, fun H' _ => any_bl _⟩
      · exact ⟨rfl, rfl, rfl, rfl, fun H' y => any_tup (y _ _ x1)⟩
      · exact ⟨rfl, rfl, rfl, rfl, fun H' y => any_lst (y _ _ x2)⟩
      · exact ⟨rfl, rfl, rfl, rfl, fun H' y => any_dK (y _ _ x3)⟩
      · exact ⟨rfl, rfl, rfl, rfl, fun H' y => any_tup (y _ _ x4)⟩
      · exact ⟨rfl, rfl, rfl, rfl, fun H' y => any_tup (y _ _ x5)⟩
      · exact ⟨rfl, rfl, rfl, rfl, fun H' y => any_lst (y _ _ x7)⟩
      · exact ⟨rfl, rfl, rfl, rfl, fun H' y => any_dK (y _ _ x8)⟩
      · exact ⟨rfl, rfl, rfl, rfl, fun H' y => any_tup (y _ _ x6)⟩
    refine ⟨_, rfl, o, rfl, ⟨_, SqL.of o7⟩, for_list (xs := [V.non, V.bl true, V.bl false, V.ref t1, V.ref l1, V.ref e1, V.ref t2, V.ref t3, V.ref l, V.ref d, V.ref t4])
      (fun i σ H4 => Same G7 H4 ∧ ∃ y : Option V, σ = [some (.ref p), some (.str z), some (.int n), some (.ref l), some (.ref d), some (.ref o), y]) ⟨Same.refl _, _, rfl⟩ (fun i σ H4 hi hp4 => SqL.of (hp4.1 _ _ o7)) (fun i x σ H4 hx hp4 => ?_) (fun σ H4 hp4 => ?_)⟩
    · obtain ⟨s4, y, rfl⟩ := hp4
      obtain ⟨a1, a2, a3, a4, a5⟩ := anyO x (List.mem_of_getElem? hx)
      have noS : ∀ y, x = .str y → y.length ≤ 1000 := fun y e => by rw [e] at a2; cases a2
      refine ⟨_, rfl, x, rfl, a5 _ s4, noS, fun H5 s5 => ?_⟩
      refine ⟨_, false, rfl, rfl, _, rfl, ?_⟩
      rw [a4]
      refine iteF ⟨_, rfl, x, rfl, a5 _ (s4.trans s5), _, false, rfl, rfl, _, rfl, ?_⟩
      rw [a3]
      refine iteF ⟨_, rfl, x, rfl, a5 _ (s4.trans s5), _, false, rfl, rfl, _, rfl, ?_⟩
      rw [a1]
      exact iteF ⟨s4.trans s5, _, rfl⟩
    · obtain ⟨s4, y, rfl⟩ := hp4
      have y1 : H4 l = some (.lst [V.str z, V.int n]) := s4 _ _ x7
      have y2 : H4 d = some (.dK [(Sum.inr z, V.int n)]) := s4 _ _ x8
      refine ⟨_, rfl, _, rfl, _, rfl, (show 2 ≤ sizeLine by decide), fun m hm => ?_⟩
      have s5 := same_new (o := .lst [V.str z, V.int n]) hm
      have y3 : (upd H4 m (.lst [V.str z, V.int n])) m = some (.lst [V.str z, V.int n]) := upd_same
      generalize hH5 : upd H4 m (.lst [V.str z, V.int n]) = H5 at *
      refine ⟨1, by decide, .inl ⟨l, m, _, _, rfl, rfl, SqL.of (s5 _ _ y1), SqL.of y3, .cons (.inl ⟨rfl, rfl⟩) (.cons (.inl ⟨rfl, rfl⟩) .nil)⟩, true, rfl, iteT ?_⟩
      refine ⟨_, rfl, fun m2 hm2 => ?_⟩
      refine ⟨_, rfl, _, rfl, upd_same, [(Sum.inr z, V.int n)], rfl, (show 1 ≤ 15 by decide), ?_⟩
      have s6 : Same H5 (upd (upd H5 m2 (.dK [])) m2 (.dK (mergeK [] [(Sum.inr z, V.int n)]))) := fun b o e => by
        rw [upd_ne (ne_of_none e hm2), upd_ne (ne_of_none e hm2)]
        exact e
      refine ⟨1, by decide, .inr ⟨d, m2, [(Sum.inr z, V.int n)], [(Sum.inr z, V.int n)], rfl, rfl, s6 _ _ (s5 _ _ y2), upd_same, rfl, ?_⟩, ?_⟩
      · intro pr hpr
        rw [List.mem_singleton.mp hpr]
        exact ⟨V.int n, by simp [valV], .inl ⟨rfl, rfl⟩⟩
      · have all : Same H2 (upd (upd H5 m2 (.dK [])) m2 (.dK (mergeK [] [(Sum.inr z, V.int n)]))) := (((s3.trans v1).trans s4).trans s5).trans s6
        exact q _ (p2.same all) (k3.trans (kp_of all))
def n_right : List Str := ["_law_purse_here", "_law_turn"]
theorem sc_right : FnScope n_right ["_law_purse_here"] (defScope s_right) := ⟨rfl, rfl, rfl, by decide +kernel, rfl, by decide +kernel, by decide +kernel⟩
theorem ok_right (T : Txt mg) (D : Dfn K mg "_law_right" s_right ["_law_purse_here"])
    (c_string : CalG P w K mg base 3 "_law_string" ["_law_purse_here"] spString) (c_string_right : CalG P w K mg base 3 "_law_string_right" ["_law_text"] spSRight)
    (c_integer : CalG P w K mg base 2 "_law_integer" ["_law_purse_here"] spInteger) (c_integer_right : CalG P w K mg base 3 "_law_integer_right" ["_law_number"] spIRight)
    (c_others_right : CalG P w K mg base 3 "_law_others_right" ["_law_purse_here"] spORight) : CalG P w K mg base 4 "_law_right" ["_law_purse_here"] spORight := by
  refine D.ok sc_right (fun vs H Q E h => ?_) (fun f cdv A fr s H vs Q E hr hgd h => ?_)
  · obtain ⟨p, rfl, _⟩ := h
    rfl
  · obtain ⟨p, rfl, hp, q⟩ := h
    refine ⟨_, pss_cons (ps_for PassesOwn.never rfl (pi_range1 rfl T.b_range (pa_cons pe_int pa_nil)) (pg_name (i := 1) sc_right.nd rfl (.inl rfl))
        (pss_one (ps_if (PW.pt (pw_or (pt_not (pt_val (pe_cG c_string_right hr (by decide) hgd rfl (pa_cons (pe_cG c_string hr (by decide) hgd rfl (pa_cons (pv 0) pa_nil)) pa_nil)))) (pw_or1 (pt_not (pt_val (pe_cG c_integer_right hr (by decide) hgd rfl (pa_cons (pe_cG c_integer hr (by decide) hgd rfl (pa_cons (pv 0) pa_nil)) pa_nil)))))))
            (pss_one (ps_ret pe_bl))
            (pss_nil))))
      (pss_one (ps_ret (pe_cG c_others_right hr (by decide) hgd rfl (pa_cons (pv 0) pa_nil)))), ?_⟩
    refine ⟨8, rfl, by decide, by decide, for_range (lo := 0) (n := 8) (fun i σ H3 => PurseAt H3 p ∧ Kp p H H3 ∧ ∃ y : Option V, σ = [some (.ref p), y]) ⟨hp, Kp.refl _ _, _, rfl⟩ (fun i σ H3 hi hp3 => ?_) (fun σ H3 hp3 => ?_)⟩
    · obtain ⟨p3, k3, y, rfl⟩ := hp3
      refine ⟨_, rfl, p, rfl, p3, fun z H4 hz p4 k4 => ?_⟩
      refine ⟨z, rfl, hz, fun H5 s5 => ?_⟩
      refine ⟨true, rfl, iteF ?_⟩
      refine ⟨_, rfl, p, rfl, p4.same s5, fun n H6 p6 k6 => ?_⟩
      refine ⟨n, rfl, fun H7 s7 => ?_⟩
      refine ⟨true, rfl, iteF ?_⟩
      exact ⟨p6.same s7, (((k3.trans k4).trans (kp_of s5)).trans k6).trans (kp_of s7), _, rfl⟩
    · obtain ⟨p3, k3, y, rfl⟩ := hp3
      exact ⟨_, rfl, p, rfl, p3, fun H4 p4 k4 => q _ p4 (k3.trans k4)⟩
end
end Jo

set_option Elab.async false
set_option linter.all false
set_option maxRecDepth 100000
set_option maxHeartbeats 400000
namespace Jo
open PySem PySem.Spec PyProof.Rows L2
/-- a comprehension whose items are all True, what stood being kept -/
theorem lc_trues {J : It} {n : Nat} {G : Hp → Prop} {Y : Nat → Hp → V → Hp → Prop} (w : Walk J n G Y) {g : TG} {te : TE} {vs : List Nat} {σ : L2.St}
    {H0 : Hp} {D : Addr} {Qd : Hp → Prop} (hD : H0 D = none) (hn : n < sizeLine) (hG : ∀ H, Same H0 H → G H)
    (hs : ∀ (i : Nat) (x : V) (H H' : Hp) (Q : VK), i < n → Same H0 H → Y i H x H' → (∀ H2, Same H H2 → Q (.bl true) H2) →
      g x (wipe σ vs) H' fun σ2 H2 => wipe σ2 vs = wipe σ vs ∧ te σ2 H2 Q)
    (hd : ∀ H, Same H0 H → H D = some (.lst ((List.replicate n true).map V.bl)) → Qd H) :
    ∃ W : Nat → Nat → Hp → Prop, (∃ m, W 0 m (upd H0 D (.lst []))) ∧ ∀ i m H, W i m H →
      (J.stop i H ∧ Qd H) ∨ (J.go i H ∧ ∃ Nx : Hp → Prop, (∀ H', Nx H' → ∃ m', m' < m ∧ W (i + 1) m' H') ∧
        ∀ x H', J.yld i H x H' → g x (wipe σ vs) H' fun σ2 H2 => wipe σ2 vs = wipe σ vs ∧ tYes σ2 H2 fun b H3 =>
          if b = true then te σ2 H3 fun y H4 => ∃ acc, H4 D = some (.lst acc) ∧ acc.length < sizeLine ∧ Nx (upd H4 D (.lst (acc ++ [y]))) else Nx H3) := by
  refine lc_it w (fun i H => Same H0 H ∧ i ≤ n ∧ H D = some (.lst ((List.replicate i true).map V.bl))) ⟨same_new hD, Nat.zero_le _, upd_same⟩ (fun i H _ hp => hG H hp.1) (fun i x H H' hi hp hy => ?_) (fun H hp => ?_)
  · obtain ⟨s1, _, hDl⟩ := hp
    refine hs i x H H' (fun y H4 => ∃ acc, H4 D = some (.lst acc) ∧ acc.length < sizeLine ∧ (Same H0 (upd H4 D (.lst (acc ++ [y]))) ∧ i + 1 ≤ n ∧ upd H4 D (.lst (acc ++ [y])) D = some (.lst ((List.replicate (i + 1) true).map V.bl)))) hi s1 hy (fun H2 s2 => ?_)
    refine ⟨_, s2 _ _ hDl, ?_, fun b o e => ?_, hi, ?_⟩
    · rw [List.length_map, List.length_replicate]
      exact Nat.lt_trans hi hn
    · rw [upd_ne (ne_of_none e hD)]
      exact s2 _ _ (s1 _ _ e)
    · rw [upd_same, List.replicate_succ', List.map_append]
      rfl
  · exact hd H hp.1 hp.2.2
theorem all_rep : ∀ n : Nat, (List.replicate n true).all id = true
  | 0 => rfl
  | n + 1 => by rw [List.replicate_succ, List.all_cons, all_rep n]; rfl
theorem turns_ok {L : Int} (h0 : 0 ≤ L) : -(2 ^ 62) ≤ (if (if (6 : Int) < L then (6 : Int) else L) > 2 then (if (6 : Int) < L then (6 : Int) else L) else 2) ∧
    (if (if (6 : Int) < L then (6 : Int) else L) > 2 then (if (6 : Int) < L then (6 : Int) else L) else 2) < 2 ^ 62 ∧
    (if (if (6 : Int) < L then (6 : Int) else L) > 2 then (if (6 : Int) < L then (6 : Int) else L) else 2).toNat ≤ 6 := by
  by_cases h1 : (6 : Int) < L
  · rw [if_pos h1]; decide
  · rw [if_neg h1]
    by_cases h2 : L > 2
    · rw [if_pos h2]; omega
    · rw [if_neg h2]; decide
section
variable {P : Program} {w : World} {K : PySem.W.Frag} {mg : Str → Option Value} {base : Heap}
def n_law : List Str := ["_law_script", "_law_hand", "_law_text", "_law_number", "_law_k"]
theorem sc_law : FnScope n_law ["_law_script"] (defScope s_law) := ⟨rfl, rfl, rfl, by decide +kernel, rfl, by decide +kernel, by decide +kernel⟩
def spLaw (K : PySem.W.Frag) : Sp := fun vs H Q _ => ∃ (a : Addr) (ns : List Int), vs = [.ref a] ∧ SqL K H a (ns.map V.int) ∧ ns.length ≤ 63 ∧ ∀ H', Q (.bl true) H'
def hand : List Str := ["", "a", "z9", "9z", "abcdefgh", "abcdefghi", "a b", "A", "a_", "a\n", "zzzzzzz9", "0", "into"]
theorem hand_ok : ∀ z ∈ hand, z.length ≤ 1000 := by decide +kernel
theorem ok_law {fl : Addr} {fd : FuncData} (F : Fun K "law" "law" s_law fl fd) (T : Txt mg)
    (c_cell : CalG P w K mg base 1 "_law_cell" ["_law_script", "_law_k"] (spCell K)) (c_purse : CalG P w K mg base 1 "_law_purse" ["_law_cell_here"] spPurse)
    (c_string_right : CalG P w K mg base 3 "_law_string_right" ["_law_text"] spSRight) (c_integer_right : CalG P w K mg base 3 "_law_integer_right" ["_law_number"] spIRight)
    (c_right : CalG P w K mg base 4 "_law_right" ["_law_purse_here"] spORight) : FnG P w K mg base 5 fl fd ["_law_script"] (spLaw K) := by
  refine fun_okG F sc_law (fun vs H Q E h => ?_) (fun cdv A fr s H vs Q E hr hgd h => ?_)
  · obtain ⟨a, ns, rfl, _⟩ := h
    rfl
  · obtain ⟨a, ns, rfl, hS, hl, q⟩ := h
    refine ⟨_, pss_cons (ps_set (i := 1) sc_law.nd rfl (.inl rfl) (pe_lst (pa_cons pe_str (pa_cons pe_str (pa_cons pe_str (pa_cons pe_str (pa_cons pe_str (pa_cons pe_str (pa_cons pe_str (pa_cons pe_str (pa_cons pe_str (pa_cons pe_str (pa_cons pe_str (pa_cons pe_str (pa_cons pe_str pa_nil)))))))))))))))
      (pss_cons (ps_if (pt_not (pt_val (pe_callB (cr_all rfl) rfl T.b_all (by decide +kernel) (pa_cons (pe_lc (own := [("_law_text", 2)]) (g := gName 2) (tt := tYes) rfl sc_law.nd (pi_list (pv 1)) (blkOk_by (N := n_law) (sc := defScope s_law) (by decide +kernel)) (fun _ _ _ _ _ => pg_name (i := 2) sc_law.nd rfl (Or.inl rfl)) (fun _ _ _ _ _ => pts_nil) (fun _ _ _ _ _ => (pe_cG c_string_right hr (by decide) hgd rfl (pa_cons (pv 2) pa_nil)))) pa_nil))))
        (pss_one (ps_ret pe_bl))
        (pss_nil))
      (pss_cons (ps_if (pt_not (pt_val (pe_callB (cr_all rfl) rfl T.b_all (by decide +kernel) (pa_cons (pe_lc (own := [("_law_number", 3)]) (g := gName 3) (tt := tYes) rfl sc_law.nd (pi_list (pe_lst (pa_cons pe_int (pa_cons pe_int (pa_cons pe_int (pa_cons pe_int (pa_cons (pe_un un_neg pe_int) (pa_cons (pe_op op_pow pe_int pe_int) (pa_cons (pe_un un_neg (pe_op op_pow pe_int pe_int)) pa_nil))))))))) (blkOk_by (N := n_law) (sc := defScope s_law) (by decide +kernel)) (fun _ _ _ _ _ => pg_name (i := 3) sc_law.nd rfl (Or.inl rfl)) (fun _ _ _ _ _ => pts_nil) (fun _ _ _ _ _ => (pe_cG c_integer_right hr (by decide) hgd rfl (pa_cons (pv 3) pa_nil)))) pa_nil))))
        (pss_one (ps_ret pe_bl))
        (pss_nil))
      (pss_one (ps_ret (pe_callB (cr_all rfl) rfl T.b_all (by decide +kernel) (pa_cons (pe_lc (own := [("_law_k", 4)]) (g := gName 4) (tt := tYes) rfl sc_law.nd (pi_range1 rfl T.b_range (pa_cons (pe_callB (call_max2 rfl) rfl T.b_max (by decide +kernel) (pa_cons pe_int (pa_cons (pe_callB (call_min2 rfl) rfl T.b_min (by decide +kernel) (pa_cons (pe_callB call_len rfl T.b_len (by decide +kernel) (pa_cons (pv 0) pa_nil)) (pa_cons pe_int pa_nil))) pa_nil))) pa_nil)) (blkOk_by (N := n_law) (sc := defScope s_law) (by decide +kernel)) (fun _ _ _ _ _ => pg_name (i := 4) sc_law.nd rfl (Or.inl rfl)) (fun _ _ _ _ _ => pts_nil) (fun _ _ _ _ _ => (pe_cG c_right hr (by decide) hgd rfl (pa_cons (pe_cG c_purse hr (by decide) hgd rfl (pa_cons (pe_cG c_cell hr (by decide) hgd rfl (pa_cons (pv 0) (pa_cons (pv 4) pa_nil))) pa_nil)) pa_nil)))) pa_nil)))))), ?_⟩
    -- the strings by hand
    refine ⟨(show 13 ≤ sizeLine by decide), fun l hl1 => ?_⟩
    have s1 : Same H (upd H l (.lst (hand.map V.str))) := same_new hl1
    have l1 : (upd H l (.lst (hand.map V.str))) l = some (.lst (hand.map V.str)) := upd_same
    refine ⟨_, rfl, l, rfl, ⟨_, SqL.of l1⟩, fun D1 hD1 => lc_trues (walk_list (xs := hand.map V.str)) hD1 (show 13 < sizeLine by decide) (fun H2 s2 => SqL.of (s2 _ _ l1)) (fun i x H2 H2' Q2 hi s2 hy hq => ?_) (fun H2 s2 hD2 => ?_)⟩
    · obtain ⟨rfl, hx⟩ := hy
      rw [List.getElem?_map] at hx
      obtain ⟨z, hz, rfl⟩ := Option.map_eq_some_iff.mp hx
      exact ⟨rfl, _, rfl, z, rfl, hand_ok z (List.mem_of_getElem? hz), fun H3 s3 => hq H3 s3⟩
    refine ⟨D1, _, rfl, SqL.of hD2, true, (by rw [all_rep]), iteF ?_⟩
    -- the numbers by hand
    refine ⟨_, rfl, _, _, rfl, rfl, ⟨by decide, by decide, by decide⟩, _, _, rfl, rfl, ⟨by decide, by decide, by decide⟩, _, rfl, (show 7 ≤ sizeLine by decide), fun l2 hl2 => ?_⟩
    refine ⟨l2, rfl, ⟨_, SqL.of upd_same⟩, fun D2 hD3 => lc_trues (walk_list (xs := [0, 1, 40, 41, -1, 10 ^ 59, -(10 ^ 59)].map V.int)) hD3 (show 7 < sizeLine by decide) (fun H3 s3 => SqL.of (s3 _ _ upd_same)) (fun i x H3 H3' Q3 hi s3 hy hq => ?_) (fun H3 s3 hD4 => ?_)⟩
    · obtain ⟨rfl, hx⟩ := hy
      rw [List.getElem?_map] at hx
      obtain ⟨z, hz, rfl⟩ := Option.map_eq_some_iff.mp hx
      exact ⟨rfl, _, rfl, z, rfl, fun H4 s4 => hq H4 s4⟩
    refine ⟨D2, _, rfl, SqL.of hD4, true, (by rw [all_rep]), iteF ?_⟩
    -- the cells
    have hS3 : SqL K H3 a (ns.map V.int) := ((s1.trans s2).trans ((same_new hl2).trans s3)).seq hS
    obtain ⟨t1, t2, t3⟩ := turns_ok (L := ((ns.map V.int).length : Int)) (by omega)
    refine ⟨_, rfl, _, _, rfl, .inl ⟨_, hS3, rfl⟩, _, _, rfl, _, _, rfl, _, rfl, t1, t2, fun D3 hD5 => lc_trues walk_range hD5 (small1000 (by omega)) (fun _ _ => trivial) (fun i x H4 H4' Q4 hi s4 hy hq => ?_) (fun H4 s4 hD6 => ?_)⟩
    · obtain ⟨rfl, hx⟩ := hy
      have hx2 : x = V.int (i : Int) := by
        rw [hx]
        show V.int (0 + (i : Int)) = _
        rw [Int.zero_add]
      subst hx2
      refine ⟨rfl, _, rfl, _, rfl, a, ns, i, rfl, s4.seq hS3, hl, by omega, fun c H5 s5 => ?_⟩
      refine ⟨c, rfl, fun p H6 s6 hp p6 => ?_⟩
      refine ⟨p, rfl, p6, fun H7 p7 k7 => hq H7 fun b o e => ?_⟩
      exact k7 _ _ (s6 _ _ (s5 _ _ e)) (ne_of_none (s5 _ _ e) hp)
    · refine ⟨D3, _, rfl, SqL.of hD6, ?_⟩
      rw [all_rep]
      exact q _
end
end Jo

set_option Elab.async false
set_option linter.all false
set_option maxRecDepth 100000
namespace Jo
open PySem PySem.Spec PyProof.Rows L2
theorem all_mk {P : Program} {w : World} {K : PySem.W.Frag} {h : Heap} {mg : Str → Option Value} {fa : Addr} (X : K.In h) (G : h.Ns mainGlobals mg) (hfa : mg "law" = some (.ref fa))
    {u0 : Value} (g0 : PySem.W.nsIn K mainGlobals "MAX_SIZE" = some (some u0)) (r0 : RelV (.int 40) u0)
    {u1 : Value} (g1 : PySem.W.nsIn K mainGlobals "LETTERS" = some (some u1)) (r1 : RelV (.str letters) u1)
    {u2 : Value} (g2 : PySem.W.nsIn K mainGlobals "SIGNS" = some (some u2)) (r2 : RelV (.str signs) u2)
    {u3 : Value} (g3 : PySem.W.nsIn K mainGlobals "LONGEST_NAME" = some (some u3)) (r3 : RelV (.int 8) u3)
    (z0 : PySem.W.nsIn K mainGlobals "isinstance" = some none)
    (z1 : PySem.W.nsIn K mainGlobals "str" = some none)
    (z2 : PySem.W.nsIn K mainGlobals "int" = some none)
    (z3 : PySem.W.nsIn K mainGlobals "bool" = some none)
    (z4 : PySem.W.nsIn K mainGlobals "len" = some none)
    (z5 : PySem.W.nsIn K mainGlobals "all" = some none)
    (z6 : PySem.W.nsIn K mainGlobals "range" = some none)
    (z7 : PySem.W.nsIn K mainGlobals "repr" = some none)
    (z8 : PySem.W.nsIn K mainGlobals "abs" = some none)
    (z9 : PySem.W.nsIn K mainGlobals "max" = some none)
    (z10 : PySem.W.nsIn K mainGlobals "min" = some none)
    {f0 : Addr} {od0 an0 : Option Addr} {sl0 : Array (Option Value)} {oc0 kV0 dc0 pm0 cd0 ct0 : Value}
    (a0 : PySem.W.nsIn K mainGlobals "is_name" = some (some (.ref f0))) (l0 : K.lookup f0 = some ⟨oc0, od0, .func (PySem.W.fnOf "is_name" "is_name" (defArgs s_is_name) (defBody s_is_name) (defScope s_is_name) .none kV0 dc0 pm0 an0 cd0 ct0), sl0⟩) (c0 : PySem.W.codeIn K cd0 "is_name" = true) (k0 : PySem.W.keepIn K (.ref f0) = true)
    {f1 : Addr} {od1 an1 : Option Addr} {sl1 : Array (Option Value)} {oc1 kV1 dc1 pm1 cd1 ct1 : Value}
    (a1 : PySem.W.nsIn K mainGlobals "is_size" = some (some (.ref f1))) (l1 : K.lookup f1 = some ⟨oc1, od1, .func (PySem.W.fnOf "is_size" "is_size" (defArgs s_is_size) (defBody s_is_size) (defScope s_is_size) .none kV1 dc1 pm1 an1 cd1 ct1), sl1⟩) (c1 : PySem.W.codeIn K cd1 "is_size" = true) (k1 : PySem.W.keepIn K (.ref f1) = true)
    {f2 : Addr} {od2 an2 : Option Addr} {sl2 : Array (Option Value)} {oc2 kV2 dc2 pm2 cd2 ct2 : Value}
    (a2 : PySem.W.nsIn K mainGlobals "is_integer" = some (some (.ref f2))) (l2 : K.lookup f2 = some ⟨oc2, od2, .func (PySem.W.fnOf "is_integer" "is_integer" (defArgs s_is_integer) (defBody s_is_integer) (defScope s_is_integer) .none kV2 dc2 pm2 an2 cd2 ct2), sl2⟩) (c2 : PySem.W.codeIn K cd2 "is_integer" = true) (k2 : PySem.W.keepIn K (.ref f2) = true)
    {f3 : Addr} {od3 an3 : Option Addr} {sl3 : Array (Option Value)} {oc3 kV3 dc3 pm3 cd3 ct3 : Value}
    (a3 : PySem.W.nsIn K mainGlobals "_law_cell" = some (some (.ref f3))) (l3 : K.lookup f3 = some ⟨oc3, od3, .func (PySem.W.fnOf "_law_cell" "_law_cell" (defArgs s_cell) (defBody s_cell) (defScope s_cell) .none kV3 dc3 pm3 an3 cd3 ct3), sl3⟩) (c3 : PySem.W.codeIn K cd3 "_law_cell" = true) (k3 : PySem.W.keepIn K (.ref f3) = true)
    {f4 : Addr} {od4 an4 : Option Addr} {sl4 : Array (Option Value)} {oc4 kV4 dc4 pm4 cd4 ct4 : Value}
    (a4 : PySem.W.nsIn K mainGlobals "_law_purse" = some (some (.ref f4))) (l4 : K.lookup f4 = some ⟨oc4, od4, .func (PySem.W.fnOf "_law_purse" "_law_purse" (defArgs s_purse) (defBody s_purse) (defScope s_purse) .none kV4 dc4 pm4 an4 cd4 ct4), sl4⟩) (c4 : PySem.W.codeIn K cd4 "_law_purse" = true) (k4 : PySem.W.keepIn K (.ref f4) = true)
    {f5 : Addr} {od5 an5 : Option Addr} {sl5 : Array (Option Value)} {oc5 kV5 dc5 pm5 cd5 ct5 : Value}
    (a5 : PySem.W.nsIn K mainGlobals "_law_draw" = some (some (.ref f5))) (l5 : K.lookup f5 = some ⟨oc5, od5, .func (PySem.W.fnOf "_law_draw" "_law_draw" (defArgs s_draw) (defBody s_draw) (defScope s_draw) .none kV5 dc5 pm5 an5 cd5 ct5), sl5⟩) (c5 : PySem.W.codeIn K cd5 "_law_draw" = true) (k5 : PySem.W.keepIn K (.ref f5) = true)
    {f6 : Addr} {od6 an6 : Option Addr} {sl6 : Array (Option Value)} {oc6 kV6 dc6 pm6 cd6 ct6 : Value}
    (a6 : PySem.W.nsIn K mainGlobals "_law_name" = some (some (.ref f6))) (l6 : K.lookup f6 = some ⟨oc6, od6, .func (PySem.W.fnOf "_law_name" "_law_name" (defArgs s_name) (defBody s_name) (defScope s_name) .none kV6 dc6 pm6 an6 cd6 ct6), sl6⟩) (c6 : PySem.W.codeIn K cd6 "_law_name" = true) (k6 : PySem.W.keepIn K (.ref f6) = true)
    {f7 : Addr} {od7 an7 : Option Addr} {sl7 : Array (Option Value)} {oc7 kV7 dc7 pm7 cd7 ct7 : Value}
    (a7 : PySem.W.nsIn K mainGlobals "_law_signs" = some (some (.ref f7))) (l7 : K.lookup f7 = some ⟨oc7, od7, .func (PySem.W.fnOf "_law_signs" "_law_signs" (defArgs s_signs) (defBody s_signs) (defScope s_signs) .none kV7 dc7 pm7 an7 cd7 ct7), sl7⟩) (c7 : PySem.W.codeIn K cd7 "_law_signs" = true) (k7 : PySem.W.keepIn K (.ref f7) = true)
    {f8 : Addr} {od8 an8 : Option Addr} {sl8 : Array (Option Value)} {oc8 kV8 dc8 pm8 cd8 ct8 : Value}
    (a8 : PySem.W.nsIn K mainGlobals "_law_is_name" = some (some (.ref f8))) (l8 : K.lookup f8 = some ⟨oc8, od8, .func (PySem.W.fnOf "_law_is_name" "_law_is_name" (defArgs s_lname) (defBody s_lname) (defScope s_lname) .none kV8 dc8 pm8 an8 cd8 ct8), sl8⟩) (c8 : PySem.W.codeIn K cd8 "_law_is_name" = true) (k8 : PySem.W.keepIn K (.ref f8) = true)
    {f9 : Addr} {od9 an9 : Option Addr} {sl9 : Array (Option Value)} {oc9 kV9 dc9 pm9 cd9 ct9 : Value}
    (a9 : PySem.W.nsIn K mainGlobals "_law_string" = some (some (.ref f9))) (l9 : K.lookup f9 = some ⟨oc9, od9, .func (PySem.W.fnOf "_law_string" "_law_string" (defArgs s_string) (defBody s_string) (defScope s_string) .none kV9 dc9 pm9 an9 cd9 ct9), sl9⟩) (c9 : PySem.W.codeIn K cd9 "_law_string" = true) (k9 : PySem.W.keepIn K (.ref f9) = true)
    {f10 : Addr} {od10 an10 : Option Addr} {sl10 : Array (Option Value)} {oc10 kV10 dc10 pm10 cd10 ct10 : Value}
    (a10 : PySem.W.nsIn K mainGlobals "_law_string_right" = some (some (.ref f10))) (l10 : K.lookup f10 = some ⟨oc10, od10, .func (PySem.W.fnOf "_law_string_right" "_law_string_right" (defArgs s_string_right) (defBody s_string_right) (defScope s_string_right) .none kV10 dc10 pm10 an10 cd10 ct10), sl10⟩) (c10 : PySem.W.codeIn K cd10 "_law_string_right" = true) (k10 : PySem.W.keepIn K (.ref f10) = true)
    {f11 : Addr} {od11 an11 : Option Addr} {sl11 : Array (Option Value)} {oc11 kV11 dc11 pm11 cd11 ct11 : Value}
    (a11 : PySem.W.nsIn K mainGlobals "_law_integer" = some (some (.ref f11))) (l11 : K.lookup f11 = some ⟨oc11, od11, .func (PySem.W.fnOf "_law_integer" "_law_integer" (defArgs s_integer) (defBody s_integer) (defScope s_integer) .none kV11 dc11 pm11 an11 cd11 ct11), sl11⟩) (c11 : PySem.W.codeIn K cd11 "_law_integer" = true) (k11 : PySem.W.keepIn K (.ref f11) = true)
    {f12 : Addr} {od12 an12 : Option Addr} {sl12 : Array (Option Value)} {oc12 kV12 dc12 pm12 cd12 ct12 : Value}
    (a12 : PySem.W.nsIn K mainGlobals "_law_integer_right" = some (some (.ref f12))) (l12 : K.lookup f12 = some ⟨oc12, od12, .func (PySem.W.fnOf "_law_integer_right" "_law_integer_right" (defArgs s_integer_right) (defBody s_integer_right) (defScope s_integer_right) .none kV12 dc12 pm12 an12 cd12 ct12), sl12⟩) (c12 : PySem.W.codeIn K cd12 "_law_integer_right" = true) (k12 : PySem.W.keepIn K (.ref f12) = true)
    {f13 : Addr} {od13 an13 : Option Addr} {sl13 : Array (Option Value)} {oc13 kV13 dc13 pm13 cd13 ct13 : Value}
    (a13 : PySem.W.nsIn K mainGlobals "_law_others_right" = some (some (.ref f13))) (l13 : K.lookup f13 = some ⟨oc13, od13, .func (PySem.W.fnOf "_law_others_right" "_law_others_right" (defArgs s_others_right) (defBody s_others_right) (defScope s_others_right) .none kV13 dc13 pm13 an13 cd13 ct13), sl13⟩) (c13 : PySem.W.codeIn K cd13 "_law_others_right" = true) (k13 : PySem.W.keepIn K (.ref f13) = true)
    {f14 : Addr} {od14 an14 : Option Addr} {sl14 : Array (Option Value)} {oc14 kV14 dc14 pm14 cd14 ct14 : Value}
    (a14 : PySem.W.nsIn K mainGlobals "_law_right" = some (some (.ref f14))) (l14 : K.lookup f14 = some ⟨oc14, od14, .func (PySem.W.fnOf "_law_right" "_law_right" (defArgs s_right) (defBody s_right) (defScope s_right) .none kV14 dc14 pm14 an14 cd14 ct14), sl14⟩) (c14 : PySem.W.codeIn K cd14 "_law_right" = true) (k14 : PySem.W.keepIn K (.ref f14) = true)
    {f15 : Addr} {od15 an15 : Option Addr} {sl15 : Array (Option Value)} {oc15 kV15 dc15 pm15 cd15 ct15 : Value}
    (a15 : PySem.W.nsIn K mainGlobals "law" = some (some (.ref f15))) (l15 : K.lookup f15 = some ⟨oc15, od15, .func (PySem.W.fnOf "law" "law" (defArgs s_law) (defBody s_law) (defScope s_law) .none kV15 dc15 pm15 an15 cd15 ct15), sl15⟩) (c15 : PySem.W.codeIn K cd15 "law" = true) (k15 : PySem.W.keepIn K (.ref f15) = true) :
    ∃ fd : FuncData, (∀ (s : Shared) (v : Value), BindsTo s fd ⟨[v], []⟩ [("_law_script", v)]) ∧ ∀ base : Heap, K.In base → base.Ns mainGlobals mg → FnG P w K mg base 5 fa fd ["_law_script"] (spLaw K) := by
  have e := hfa.symm.trans (PySem.W.mg_of X G a15)
  cases e
  have T : Txt mg := ⟨⟨_, PySem.W.mg_of X G g0, r0⟩, ⟨_, PySem.W.mg_of X G g1, r1⟩, ⟨_, PySem.W.mg_of X G g2, r2⟩, ⟨_, PySem.W.mg_of X G g3, r3⟩, PySem.W.mg_none_of X G z0, PySem.W.mg_none_of X G z1, PySem.W.mg_none_of X G z2, PySem.W.mg_none_of X G z3, PySem.W.mg_none_of X G z4, PySem.W.mg_none_of X G z5, PySem.W.mg_none_of X G z6, PySem.W.mg_none_of X G z7, PySem.W.mg_none_of X G z8, PySem.W.mg_none_of X G z9, PySem.W.mg_none_of X G z10⟩
  have D_is_name : Dfn K mg "is_name" s_is_name ["value"] := dfn_mk X G a0 l0 c0 k0 (fun us hl => match us, hl with | [_], _ => rfl) (fun us hl => match us, hl with | [_], _ => rfl)
  have D_is_size : Dfn K mg "is_size" s_is_size ["value"] := dfn_mk X G a1 l1 c1 k1 (fun us hl => match us, hl with | [_], _ => rfl) (fun us hl => match us, hl with | [_], _ => rfl)
  have D_is_integer : Dfn K mg "is_integer" s_is_integer ["value"] := dfn_mk X G a2 l2 c2 k2 (fun us hl => match us, hl with | [_], _ => rfl) (fun us hl => match us, hl with | [_], _ => rfl)
  have D_cell : Dfn K mg "_law_cell" s_cell ["_law_script", "_law_k"] := dfn_mk X G a3 l3 c3 k3 (fun us hl => match us, hl with | [_, _], _ => rfl) (fun us hl => match us, hl with | [_, _], _ => rfl)
  have D_purse : Dfn K mg "_law_purse" s_purse ["_law_cell_here"] := dfn_mk X G a4 l4 c4 k4 (fun us hl => match us, hl with | [_], _ => rfl) (fun us hl => match us, hl with | [_], _ => rfl)
  have D_draw : Dfn K mg "_law_draw" s_draw ["_law_purse_here", "_law_many"] := dfn_mk X G a5 l5 c5 k5 (fun us hl => match us, hl with | [_, _], _ => rfl) (fun us hl => match us, hl with | [_, _], _ => rfl)
  have D_name : Dfn K mg "_law_name" s_name ["_law_purse_here"] := dfn_mk X G a6 l6 c6 k6 (fun us hl => match us, hl with | [_], _ => rfl) (fun us hl => match us, hl with | [_], _ => rfl)
  have D_signs : Dfn K mg "_law_signs" s_signs [] := dfn_mk X G a7 l7 c7 k7 (fun us hl => match us, hl with | [], _ => rfl) (fun us hl => match us, hl with | [], _ => rfl)
  have D_lname : Dfn K mg "_law_is_name" s_lname ["_law_text"] := dfn_mk X G a8 l8 c8 k8 (fun us hl => match us, hl with | [_], _ => rfl) (fun us hl => match us, hl with | [_], _ => rfl)
  have D_string : Dfn K mg "_law_string" s_string ["_law_purse_here"] := dfn_mk X G a9 l9 c9 k9 (fun us hl => match us, hl with | [_], _ => rfl) (fun us hl => match us, hl with | [_], _ => rfl)
  have D_string_right : Dfn K mg "_law_string_right" s_string_right ["_law_text"] := dfn_mk X G a10 l10 c10 k10 (fun us hl => match us, hl with | [_], _ => rfl) (fun us hl => match us, hl with | [_], _ => rfl)
  have D_integer : Dfn K mg "_law_integer" s_integer ["_law_purse_here"] := dfn_mk X G a11 l11 c11 k11 (fun us hl => match us, hl with | [_], _ => rfl) (fun us hl => match us, hl with | [_], _ => rfl)
  have D_integer_right : Dfn K mg "_law_integer_right" s_integer_right ["_law_number"] := dfn_mk X G a12 l12 c12 k12 (fun us hl => match us, hl with | [_], _ => rfl) (fun us hl => match us, hl with | [_], _ => rfl)
  have D_others_right : Dfn K mg "_law_others_right" s_others_right ["_law_purse_here"] := dfn_mk X G a13 l13 c13 k13 (fun us hl => match us, hl with | [_], _ => rfl) (fun us hl => match us, hl with | [_], _ => rfl)
  have D_right : Dfn K mg "_law_right" s_right ["_law_purse_here"] := dfn_mk X G a14 l14 c14 k14 (fun us hl => match us, hl with | [_], _ => rfl) (fun us hl => match us, hl with | [_], _ => rfl)
  refine ⟨PySem.W.fnOf "law" "law" (defArgs s_law) (defBody s_law) (defScope s_law) .none kV15 dc15 pm15 an15 cd15 ct15, fun s v => .of_eq rfl, fun base _ _ => ?_⟩
  have i1 := ok_is_integer (P := P) (w := w) (base := base) T D_is_integer
  have i2 := ok_is_size T D_is_size i1
  have i3 := ok_is_name (P := P) (w := w) (base := base) T D_is_name
  have j1 := ok_cell (P := P) (w := w) (base := base) T D_cell
  have j2 := ok_purse (P := P) (w := w) (base := base) T D_purse
  have j3 := ok_draw (P := P) (w := w) (base := base) T D_draw
  have j4 := ok_name T D_name j3
  have j5 := ok_signs (P := P) (w := w) (base := base) T D_signs
  have j6 := ok_lname (P := P) (w := w) (base := base) T D_lname
  have j7 := ok_string T D_string j3 j4 j5
  have j8 := ok_string_right T D_string_right j6 i3 i2 i1
  have j9 := ok_integer T D_integer j3
  have m1 := ok_integer_right T D_integer_right i3 i2 i1
  have m2 := ok_others_right T D_others_right j3 j4 i3 i2 i1
  have m3 := ok_right T D_right j7 j8 j9 m1 m2
  exact ok_law (fun_mk (st := s_law) l15 c15 k15) T j1 j2 j8 m1 m3
end Jo

set_option Elab.async false
set_option linter.all false
set_option maxRecDepth 100000
open PySem PySem.W PyProof.Rows
set_option maxHeartbeats 0 in
theorem PySem.Challenge.cw_reentry_k02_names_and_sizes_holds : PySem.Challenge.rw_reentry_k02_names_and_sizes.Holds := by
  w_on; o_law; k_head; (case hw => w_witness2)
  k_fill
  refine Jo.walk_ofG (l := PySem.Challenge.rw_reentry_k02_names_and_sizes) (n := 63) (k := 5) (x := "_law_script") (sp := fun K => Jo.spLaw K) rfl (by decide) rfl ⟨rfl, by decide, by decide⟩ (fun w h Y => PySem.W.kIn_of Y) ?F (fun K H a ns hl _ _ hS => ⟨a, ns, rfl, hS, hl, fun _ => rfl⟩)
  case F =>
    intro w mg fa h KX G hmg
    refine' Jo.all_mk KX G hmg ?jg0 ?jr0 ?jg1 ?jr1 ?jg2 ?jr2 ?jg3 ?jr3 ?jz0 ?jz1 ?jz2 ?jz3 ?jz4 ?jz5 ?jz6 ?jz7 ?jz8 ?jz9 ?jz10 ?ja0 ?jl0 ?jc0 ?jk0 ?ja1 ?jl1 ?jc1 ?jk1 ?ja2 ?jl2 ?jc2 ?jk2 ?ja3 ?jl3 ?jc3 ?jk3 ?ja4 ?jl4 ?jc4 ?jk4 ?ja5 ?jl5 ?jc5 ?jk5 ?ja6 ?jl6 ?jc6 ?jk6 ?ja7 ?jl7 ?jc7 ?jk7 ?ja8 ?jl8 ?jc8 ?jk8 ?ja9 ?jl9 ?jc9 ?jk9 ?ja10 ?jl10 ?jc10 ?jk10 ?ja11 ?jl11 ?jc11 ?jk11 ?ja12 ?jl12 ?jc12 ?jk12 ?ja13 ?jl13 ?jc13 ?jk13 ?ja14 ?jl14 ?jc14 ?jk14 ?ja15 ?jl15 ?jc15 ?jk15
    (case jg0 => k_is); (case jr0 => exact ⟨_, rfl⟩)
    (case jg1 => k_is); (case jr1 => exact ⟨_, rfl⟩)
    (case jg2 => k_is); (case jr2 => exact ⟨_, rfl⟩)
    (case jg3 => k_is); (case jr3 => exact ⟨_, rfl⟩)
    (case jz0 => k_is)
    (case jz1 => k_is)
    (case jz2 => k_is)
    (case jz3 => k_is)
    (case jz4 => k_is)
    (case jz5 => k_is)
    (case jz6 => k_is)
    (case jz7 => k_is)
    (case jz8 => k_is)
    (case jz9 => k_is)
    (case jz10 => k_is)
    (case ja0 => k_is); (case jl0 => k_is); (case jc0 => k_is); (case jk0 => k_is)
    (case ja1 => k_is); (case jl1 => k_is); (case jc1 => k_is); (case jk1 => k_is)
    (case ja2 => k_is); (case jl2 => k_is); (case jc2 => k_is); (case jk2 => k_is)
    (case ja3 => k_is); (case jl3 => k_is); (case jc3 => k_is); (case jk3 => k_is)
    (case ja4 => k_is); (case jl4 => k_is); (case jc4 => k_is); (case jk4 => k_is)
    (case ja5 => k_is); (case jl5 => k_is); (case jc5 => k_is); (case jk5 => k_is)
    (case ja6 => k_is); (case jl6 => k_is); (case jc6 => k_is); (case jk6 => k_is)
    (case ja7 => k_is); (case jl7 => k_is); (case jc7 => k_is); (case jk7 => k_is)
    (case ja8 => k_is); (case jl8 => k_is); (case jc8 => k_is); (case jk8 => k_is)
    (case ja9 => k_is); (case jl9 => k_is); (case jc9 => k_is); (case jk9 => k_is)
    (case ja10 => k_is); (case jl10 => k_is); (case jc10 => k_is); (case jk10 => k_is)
    (case ja11 => k_is); (case jl11 => k_is); (case jc11 => k_is); (case jk11 => k_is)
    (case ja12 => k_is); (case jl12 => k_is); (case jc12 => k_is); (case jk12 => k_is)
    (case ja13 => k_is); (case jl13 => k_is); (case jc13 => k_is); (case jk13 => k_is)
    (case ja14 => k_is); (case jl14 => k_is); (case jc14 => k_is); (case jk14 => k_is)
    (case ja15 => k_is); (case jl15 => k_is); (case jc15 => k_is); (case jk15 => k_is)

