import PyProof.Rows.All
import Wide.All
import OpenK.AllK
import Wide.FinOn
import HandS.ForMost
import HandS.EndBits
import HandS.Walk
import KE.GoesEnum
import HandS.MakeKwOnly
import HandS.IsInst
import HandS.TupLe
import HandS.TupAny
import HandS.Wide
import HandS.Codes
import HandS.More
import PyProof.StrLawsRepr
import PySem.Challenge.RW_reentry_k25_rules_led
set_option Elab.async false
set_option linter.all false
set_option maxRecDepth 100000
/-! Defs that are called where no repr is under way: their promise, their body, their call, the law's own call. -/
namespace Jo
open PySem PySem.Spec PyProof.Rows L2

/-- a def's promise, kept wherever no repr is under way -/
structure FnG (P : Program) (w : World) (K : PySem.W.Frag) (mg : Str → Option Value) (base : Heap)
    (k : Nat) (f : Addr) (fd : FuncData) (ps : List Str) (sp : Sp) : Prop where
  len : ∀ vs H Q E, sp vs H Q E → vs.length = ps.length
  go : ∀ (A : Around) (fr : List Env) (s : Shared) (H : Hp) (args : Args) (us : List Value) (vs : List V) (Q : VK) (E : XK),
    Room k A → A.guards = some [] → Env0 P w K mg base A fr s H → BindsTo s fd args (ps.zip us) → Vals vs us →
    sp vs H Q E → codeAny (model P w) A (.call (.ref f) args) (CR CX0 fr P w H s Q E) s

section
variable {P : Program} {w : World} {K : PySem.W.Frag} {mg : Str → Option Value} {base : Heap}

theorem FnG.of {k : Nat} {f : Addr} {fd : FuncData} {ps : List Str} {sp : Sp}
    (F : FnOk P w K mg base CX0 k f fd ps sp) : FnG P w K mg base k f fd ps sp :=
  ⟨F.len, fun A fr s H args us vs Q E hr _ e hb hv hs => F.run A fr s H args us vs Q E hr e hb hv hs⟩
theorem FnG.mono {j k : Nat} {f : Addr} {fd : FuncData} {ps : List Str} {sp : Sp}
    (F : FnG P w K mg base j f fd ps sp) (h : j ≤ k) : FnG P w K mg base k f fd ps sp :=
  ⟨F.len, fun A fr s H args us vs Q E hr => F.go A fr s H args us vs Q E (hr.mono h)⟩

/-- a def by its body; the body may lean on it that no repr is under way -/
theorem fun_okG {k : Nat} {x qual : Str} {st : Stmt} {f : Addr} {fd : FuncData} {N ps : List Str} {sp : Sp}
    (F : Fun K x qual st f fd) (S : FnScope N ps (defScope st))
    (len : ∀ vs H Q E, sp vs H Q E → vs.length = ps.length)
    (body : ∀ (cdv : Value) (A : Around) (fr : List Env) (s : Shared) (H : Hp) (vs : List V) (Q : VK) (E : XK),
      Room k (A.deeper (envOfC qual (defScope st) s.heap.objs.size f cdv)) → A.guards = some [] → sp vs H Q E →
      ∃ t, PSs (cxOf CX0 P w K mg base N qual (defScope st) f cdv A fr s H E).nox (defBody st) t ∧
        t { nx := fun _ H' => Q .non H', rt := Q } (start N vs) H) :
    FnG P w K mg base (k + 1) f fd ps sp := by
  obtain ⟨oc, od, kV, doc, pm, an, cdv, ct, osl, rfl, lk, hcd⟩ := F.ex
  refine ⟨len, fun A fr s H args us vs Q E hr hgd e0 hb r hsp => ?_⟩
  have keepB : ∀ b o, base.get? b = some o → s.heap.get? b = some o := fun b o e => (e0.bs b o e).1
  have KX := e0.mod.kin.keeps keepB
  have nolim := e0.mod.nolimit.keeps keepB
  refine codeAny_call_function hr.depth (KX _ _ lk) rfl S.co S.gen rfl (PySem.W.codeRec_of KX hcd) (hb _ _ _ _ ?_)
  refine wpAny_newFunctionEnv_cells S.kind (fun ⟨n, v⟩ hy => ?_) fun env he s1 x => ?_
  · cases S.par n (List.of_mem_zip hy).1 with
    | inl q => exact .inl q
    | inr q => exact .inr ⟨q, PySem.W.cellsFrom_some _ _ _ (.inl q)⟩
  · subst he
    refine ⟨nolim.keeps x.toInCall.keep, codeAny_func ?_⟩
    obtain ⟨t, ht, hq⟩ := body cdv A fr s H vs Q E (hr.deeper _) hgd hsp
    have I := inv_start (CX := CX0) (E := E) S hr.hd e0 (len _ _ _ _ hsp) r x
    refine wpAny_mono (ht.nox.run [] s1 (start N vs) H _ I hq) (fun fl s' hs => ?_) fun _ _ hs => hs
    cases fl with
    | brk => obtain ⟨_, _, _, q⟩ := hs; exact q.elim
    | cont => obtain ⟨_, _, _, q⟩ := hs; exact q.elim
    | ret u =>
      obtain ⟨v, _, H', J, rv, q⟩ := hs
      exact ⟨v, H', J.os, J.bare, J.base, J.hok, rv, q⟩
    | next =>
      obtain ⟨_, H', J, q⟩ := hs
      exact ⟨V.non, H', J.os, J.bare, J.base, J.hok, rfl, q⟩
end

section
variable {X : Cx} {k : Nat} {f : Addr} {fd : FuncData} {ps : List Str} {sp : Sp} {dvs : List V} {ds : List Value}
  {E : XK} {x : Str} {p pos : Pos} {e : Expr} {es : List Expr} {t : TA}

theorem runG {pins : List (Addr × Obj)} {σ : L2.St} {H : Hp} {s : Shared} {Q : VK} {us : List Value} {vs : List V}
    (F : FnG X.prog X.w X.K X.mg X.base k f fd ps sp) (hr : Room k X.A) (hgd : X.A.guards = some [])
    (hb : Binds X.K fd ps ds) (hd : Vals dvs ds) (hx : Passes CX0 X E) (I : Inv X pins σ H s) (r : Vals vs us)
    (h : sp (vs ++ dvs) H Q E) : wpAny (model X.prog X.w) X.A (call (.ref f) us) (EP X pins σ Q) X.xe s := by
  have r2 := r.append hd
  have hl : (us ++ ds).length = ps.length := r2.length.symm.trans (F.len _ _ _ _ h)
  have run := F.go X.A X.stack s H ⟨us, []⟩ _ _ Q E hr hgd I.env0 (hb s us I.kIn hl) r2 h
  refine wpAny_call (codeAny_mono run fun r s' hq => ?_)
  match r, hq with
  | .error e, hq => exact hx pins σ H s e s' I hq
  | .ok (.ret u), hq => exact I.after hq
  | .ok .next, hq => exact (show False from hq).elim
  | .ok .brk, hq => exact (show False from hq).elim
  | .ok .cont, hq => exact (show False from hq).elim

theorem pe_callG (F : FnG X.prog X.w X.K X.mg X.base k f fd ps sp) (hr : Room k X.A) (hgd : X.A.guards = some [])
    (hg : Gl X x) (hm : X.mg x = some (.ref f)) (hk : PySem.W.keepIn X.K (.ref f) = true) (hb : Binds X.K fd ps ds)
    (hd : Vals dvs ds) (hx : Passes CX0 X E) (ha : PA X (e :: es) t) (hdb : (x == ("__debug__" : Str)) = false := by decide)
    (he : starEach (e :: es) X.env = (false, eval e X.env) :: starEach es X.env := by rfl)
    (hpl : (backTo pos (starEach es X.env)).any (·.1) = false := by rfl) :
    PE X (.Call (.Name x p) (e :: es) [] pos) (tCall sp dvs E t) := by
  refine ⟨fun pins s σ H Q I h => wpAny_Call_Name_kw (ld_glob I hg hm ?_ hdb)⟩
  exact PySem.W.callWith_K (h₀ := X.base) I.ok.mod.kin hk
    (thn (ha.run pos pins s σ H _ I h) fun us s1 ⟨vs, H1, I1, r, q⟩ => ⟨I1.kIn, runG F hr hgd hb hd hx I1 r q⟩) he hpl
theorem pe_callG0 (F : FnG X.prog X.w X.K X.mg X.base k f fd ps sp) (hr : Room k X.A) (hgd : X.A.guards = some [])
    (hg : Gl X x) (hm : X.mg x = some (.ref f)) (hk : PySem.W.keepIn X.K (.ref f) = true) (hb : Binds X.K fd ps ds)
    (hd : Vals dvs ds) (hx : Passes CX0 X E) (hdb : (x == ("__debug__" : Str)) = false := by decide) :
    PE X (.Call (.Name x p) [] [] pos) (tCall sp dvs E tNil) :=
  ⟨fun pins s σ H Q I h => wpAny_Call_Name_kw (ld_glob I hg hm
    (PySem.W.callWith_K0 I.kIn hk (runG (us := []) F hr hgd hb hd hx I .nil h)) hdb)⟩
end

/-! ### the law's own call -/
section
variable {P : Program} {w : World} {K : PySem.W.Frag} {mg mb : Str → Option Value}
theorem law_callG {k : Nat} {fa a : Addr} {fd : FuncData} {x : Str} {sp : Sp} {s₁ : Shared} {vs : List Value} {ns : List Int}
    (KX : K.In s₁.heap) (hns : s₁.heap.Ns mainGlobals mg) (hb : s₁.heap.Ns builtinsNs mb)
    (hbb : ∀ x : Str, x ≠ "__name__" → mb x = bootBuiltins x) (hlim : s₁.heap.NoLimit) (hg : s₁.gens = #[])
    (ha : s₁.heap.get? a = some { cls := .type "list", data := .seq vs.toArray }) (hi : IntsAre vs ns)
    (hl : ns.length ≤ sizeLine) (hr : Room k callerA)
    (F : ∀ base : Heap, K.In base → base.Ns mainGlobals mg → FnG P w K mg base k fa fd [x] sp)
    (hbind : ∀ (s : Shared) (u : Value), BindsTo s fd ⟨[u], []⟩ [(x, u)])
    (hsp : ∀ H : Hp, Only H → SqL K H a (ns.map V.int) → sp [.ref a] H (fun v _ => v = .bl true) fun _ _ _ => False) :
    codeAny (model P w) callerA (.call (.ref fa) ⟨[.ref a], []⟩)
      (fun r s' => r = .ok (.ret (.bool true)) ∧ OldK s₁.heap s'.heap ∧ s'.os = s₁.os ∧ AllBare s'.gens) s₁ := by
  have rv := vals_ints hi
  -- the script's place: hidden if it is tracked (it is, unless the module itself has it)
  let T : Hp := fun b => match K.lookup a with
    | some _ => none
    | none => if b = a then some (.frz { cls := .type "list", data := .seq vs.toArray } (.lst (ns.map V.int))) else none
  have hT : ∀ b o, T b = some o → b = a ∧ K.lookup a = none ∧ o = .frz { cls := .type "list", data := .seq vs.toArray } (.lst (ns.map V.int)) := fun b o e => by
    revert e
    show (match K.lookup a with | some _ => none | none => if b = a then some _ else none) = some o → _
    cases hk : K.lookup a with
    | some z => intro e; cases e
    | none =>
      intro e
      by_cases hba : b = a
      · have e2 := (if_pos hba).symm.trans e
        cases e2
        exact ⟨hba, rfl, rfl⟩
      · have e2 := (if_neg hba).symm.trans e
        cases e2
  have hOnly : Only T := fun b => by
    cases q : T b with
    | none => exact .inl rfl
    | some o =>
      obtain ⟨_, _, e⟩ := hT b o q
      exact .inr ⟨_, _, by rw [e]⟩
  have hok : HOk P w T s₁.heap := fun b o e => by
    obtain ⟨rfl, _, rfl⟩ := hT b o e
    exact ⟨ha, by rw [List.length_map]; exact hl, vs, _, rv, ha⟩
  have hS : SqL K T a (ns.map V.int) := by
    cases hk : K.lookup a with
    | some o =>
      have e := KX a o hk
      rw [ha] at e
      cases e
      exact .inr ⟨_, vs.toArray, _, hk, rfl, rfl, rfl, by rw [List.size_toArray, hi.length]; exact hl, by simpa using rv⟩
    | none =>
      refine .inl (.inr ⟨{ cls := .type "list", data := .seq vs.toArray }, ?_⟩)
      show (match K.lookup a with | some _ => none | none => if a = a then some _ else none) = some _
      rw [hk]
      exact if_pos rfl
  -- what is no list is not hidden
  have free : ∀ {b : Addr} {o : Obj}, s₁.heap.get? b = some o → (∀ q n, o.data ≠ .seq q n) → T b = none := fun {b o} e hn => by
    cases q : T b with
    | none => rfl
    | some u =>
      obtain ⟨rfl, _, _⟩ := hT b u q
      rw [ha] at e
      cases e
      exact absurd rfl (hn _ _)
  have seen : ∀ {b : Addr} {o : Obj}, s₁.heap.get? b = some o → T b = none → (hidT s₁.heap T).get? b = some o := fun e n => hidT_get e n
  have nsB : ∀ {b : Addr} {m : Str → Option Value}, s₁.heap.Ns b m → (hidT s₁.heap T).Ns b m :=
    fun ⟨o, es, ep, e, d, r⟩ => ⟨o, es, ep, seen e (free e fun q n z => by rw [d] at z; cases z), d, r⟩
  have kB : K.In (hidT s₁.heap T) := fun b o e => seen (KX b o e) (by
    cases q : T b with
    | none => rfl
    | some u =>
      obtain ⟨rfl, hk, _⟩ := hT b u q
      rw [hk] at e
      cases e)
  obtain ⟨mc, l1, l2⟩ := hlim
  have hM : Mod K mg (hidT s₁.heap T) := ⟨kB, nsB hns, ⟨mb, nsB hb, hbb⟩, ⟨mc, nsB l1, l2⟩⟩
  have none0 : ∀ b : Addr, b ∉ ([] : List Addr) := fun b z => nomatch z
  have e0 : Env0 P w K mg (hidT s₁.heap T) callerA [] s₁ T :=
    ⟨rfl, hM, fun b o e => of_hidT e, Nat.le_of_eq (hidT_size _ _), trivial, fun b z => absurd z (none0 b), hok, .of_eq hg⟩
  have run := (F _ kB (nsB hns)).go callerA [] s₁ T ⟨[.ref a], []⟩ [.ref a] [.ref a] _ _ hr rfl e0 (hbind s₁ (.ref a)) (.cons rfl .nil) (hsp T hOnly hS)
  refine codeAny_mono run fun r s' h => ?_
  match r, h with
  | .error e, h => exact (show False from h).elim
  | .ok .next, h => exact (show False from h).elim
  | .ok .brk, h => exact (show False from h).elim
  | .ok .cont, h => exact (show False from h).elim
  | .ok (.ret u), h =>
    obtain ⟨v, H', os, bare, un, hok', r', q⟩ := h
    cases (show v = V.bl true from q)
    cases (show u = Value.bool true from r')
    refine ⟨rfl, OldK.of_keep fun b o e => ?_, os, bare⟩
    cases q : T b with
    | none => exact un.keep b o e q (none0 b) (none0 b)
    | some u =>
      obtain ⟨rfl, _, rfl⟩ := hT b u q
      obtain ⟨e1, _⟩ := hok' b _ (un.frzs b _ _ q)
      rw [ha] at e
      cases e
      exact e1
theorem walk_ofG {l : PySem.W.OpenLaw} {n k : Nat} {q : Program} {loose : List Str} {XP : (Str → Option Value) → Heap → Prop}
    {YP : World → Heap → Prop} {d : DefRec} {KK : Params → PySem.W.Frag} {sp : PySem.W.Frag → Sp} {x : Str}
    (hn : l.most = some n) (hn2 : n ≤ sizeLine) (hdf : d.params.defaults = []) (hr : Room k callerA)
    (hY : ∀ (w : World) (h : Heap), YP w h → (KK w.params).In h)
    (F : ∀ (w : World) (mg : Str → Option Value) (fa : Addr) (h : Heap), (KK w.params).In h → h.Ns mainGlobals mg → mg d.name = some (.ref fa) →
      ∃ fd : FuncData, (∀ (s : Shared) (u : Value), BindsTo s fd ⟨[u], []⟩ [(x, u)]) ∧
        ∀ base : Heap, (KK w.params).In base → base.Ns mainGlobals mg → FnG l.prog w (KK w.params) mg base k fa fd [x] (sp (KK w.params)))
    (hsp : ∀ (K : PySem.W.Frag) (H : Hp) (a : Addr) (ns : List Int), ns.length ≤ n → (∀ z ∈ ns, Builtin.Int.intBits z ≤ 1048576) → Only H →
      SqL K H a (ns.map V.int) → sp K [.ref a] H (fun v _ => v = .bl true) fun _ _ _ => False) :
    PySem.W.WalkO q loose XP YP l.row.toRowW d [] (fun f vs => PySem.call f vs) := by
  refine Att.attach_callB hn hdf fun w s₀ s₁ mg mb fa o pm cd doc a vs ns G Y ho hd hcd hmg hobj hints hlen hbits hg => ?_
  obtain ⟨fd, hb, hF⟩ := F w mg fa _ (hY w _ Y) G.T.g hmg
  exact law_callG (hY w _ Y) G.T.g G.T.b G.T.builtins G.T.nolimit hg hobj hints (Nat.le_trans hlen hn2) hr hF hb
    fun H hO hS => hsp _ H a ns hlen hbits hO hS
end
end Jo

set_option Elab.async false
set_option linter.all false
set_option maxRecDepth 100000
/-! repr of lists and tuples of any depth, no repr being under way. -/
namespace Jo
open PySem PySem.Spec PyProof.Rows L2

/-- x is the data d, nested less than n deep -/
def Shw (K : PySem.W.Frag) (H : Hp) : Nat → V → PyData → Prop
  | 0 => fun _ _ => False
  | n + 1 => fun x d =>
    (x = .non ∧ d = .none) ∨ (∃ b, x = .bl b ∧ d = .bool b) ∨ (∃ i, x = .int i ∧ d = .int i) ∨ (∃ z, x = .str z ∧ d = .str z) ∨
    (∃ a xs ds, x = .ref a ∧ d = .list ds ∧ SqL K H a xs ∧ Paired (Shw K H n) xs ds) ∨
    (∃ a xs ds, x = .ref a ∧ d = .tuple ds ∧ SqT K H a xs ∧ Paired (Shw K H n) xs ds)
theorem Shw.none {K : PySem.W.Frag} {H : Hp} {n : Nat} : Shw K H (n + 1) .non .none := .inl ⟨rfl, rfl⟩
theorem Shw.bl {K : PySem.W.Frag} {H : Hp} {n : Nat} (b : Bool) : Shw K H (n + 1) (.bl b) (.bool b) := .inr (.inl ⟨b, rfl, rfl⟩)
theorem Shw.int {K : PySem.W.Frag} {H : Hp} {n : Nat} (i : Int) : Shw K H (n + 1) (.int i) (.int i) := .inr (.inr (.inl ⟨i, rfl, rfl⟩))
theorem Shw.str {K : PySem.W.Frag} {H : Hp} {n : Nat} (z : Str) : Shw K H (n + 1) (.str z) (.str z) := .inr (.inr (.inr (.inl ⟨z, rfl, rfl⟩)))
theorem Shw.lst {K : PySem.W.Frag} {H : Hp} {n : Nat} {a : Addr} {xs : List V} {ds : List PyData} (h : SqL K H a xs)
    (p : Paired (Shw K H n) xs ds) : Shw K H (n + 1) (.ref a) (.list ds) := .inr (.inr (.inr (.inr (.inl ⟨a, xs, ds, rfl, rfl, h, p⟩))))
theorem Shw.tup {K : PySem.W.Frag} {H : Hp} {n : Nat} {a : Addr} {xs : List V} {ds : List PyData} (h : SqT K H a xs)
    (p : Paired (Shw K H n) xs ds) : Shw K H (n + 1) (.ref a) (.tuple ds) := .inr (.inr (.inr (.inr (.inr ⟨a, xs, ds, rfl, rfl, h, p⟩))))

section
variable {X : Cx} {pins : List (Addr × Obj)} {σ : L2.St} {H : Hp} {s : Shared}
theorem readsAll_of {F : V → PyData → Prop} {h : Heap} (f : ∀ x d v, F x d → RelV x v → ∃ as, Reads h v d as) {xs : List V} {ds : List PyData}
    (p : Paired F xs ds) : ∀ {us : List Value}, Vals xs us → ∃ as, ReadsAll h us ds as := by
  induction p with
  | nil =>
    intro us r
    cases r
    exact ⟨_, .nil⟩
  | cons q _ ih =>
    intro us r
    cases r with
    | cons r1 r2 =>
      obtain ⟨as, h1⟩ := f _ _ _ q r1
      obtain ⟨bs, h2⟩ := ih r2
      exact ⟨_, .cons h1 h2⟩
theorem reads_of (I : Inv X pins σ H s) : ∀ (n : Nat) (x : V) (d : PyData) (v : Value), Shw X.K H n x d → RelV x v → ∃ as, Reads s.heap v d as
  | 0, _, _, _, h, _ => (show False from h).elim
  | n + 1, x, d, v, h, r => by
    rcases h with ⟨rfl, rfl⟩ | ⟨b, rfl, rfl⟩ | ⟨i, rfl, rfl⟩ | ⟨z, rfl, rfl⟩ | ⟨a, xs, ds, rfl, rfl, hs, p⟩ | ⟨a, xs, ds, rfl, rfl, hs, p⟩
    · cases (show v = Value.none from r)
      exact ⟨_, .none⟩
    · cases (show v = Value.bool b from r)
      exact ⟨_, .bool b⟩
    · obtain ⟨t, rfl⟩ := (show ∃ t, v = Value.int i t from r)
      exact ⟨_, .int i t⟩
    · obtain ⟨t, rfl⟩ := (show ∃ t, v = Value.str z t from r)
      exact ⟨_, .str z t⟩
    · cases (show v = Value.ref a from r)
      obtain ⟨its, rv, ⟨o, c, e1, e2, _, e4⟩, _⟩ := I.list hs
      obtain ⟨as, ra⟩ := readsAll_of (reads_of I n) p rv
      exact ⟨_, .list e1 e2 e4 (by simpa using ra)⟩
    · cases (show v = Value.ref a from r)
      obtain ⟨its, rv, ⟨o, e1, e2, c, e4⟩, _⟩ := I.tuple hs
      obtain ⟨as, ra⟩ := readsAll_of (reads_of I n) p rv
      exact ⟨_, .tuple e1 e2 e4 (by simpa using ra)⟩
/-- repr(xs), repr((a, b)) -/
def rRepr (K : PySem.W.Frag) : List V → Hp → VK → Prop := fun xs H Q => ∃ (a : Addr) (d : PyData) (n : Nat),
  xs = [.ref a] ∧ Shw K H n (.ref a) d ∧ d.showable = true ∧ d.hasDict = false ∧ d.depth ≤ 60 ∧ d.shown.length ≤ sizeLine ∧ Q (.str d.shown) H
theorem call_repr (hgd : X.A.guards = some []) (hu : X.A.units + 64 < cLine) : CallR X (.builtin "repr") (rRepr X.K) := by
  intro pins s σ H xs us Q I r h
  obtain ⟨a, d, n, rfl, hw, h1, h2, h3, h4, q⟩ := h
  obtain ⟨u, rfl, ru⟩ := vals1 r
  cases (show u = Value.ref a from ru)
  obtain ⟨as, rd⟩ := reads_of I n _ d _ hw rfl
  exact repr_of_reads' rd h1 (PyData.noDict_hsm h2) hgd (by omega) (fun _ _ e => e)
    (fun h' u tk hk => ⟨.str d.shown, H, I.kept hk, ⟨_, rfl⟩, q⟩) h4
end
end Jo

set_option Elab.async false
set_option linter.all false
set_option maxRecDepth 100000
/-! Defs by name: made, called by position and by name. -/
namespace Jo
open PySem PySem.Spec PyProof.Rows L2

/-- the name x of the module holds the def st with the parameters ps; it binds what is passed by position, and by name in the parameters' order -/
structure Dfn (K : PySem.W.Frag) (mg : Str → Option Value) (x : Str) (st : Stmt) (ps : List Str) : Prop where
  ex : ∃ (f : Addr) (fd : FuncData), Fun K x x st f fd ∧ mg x = some (.ref f) ∧ Binds K fd ps [] ∧
    ∀ (s : Shared) (us : List Value), us.length = ps.length → BindsTo s fd ⟨[], ps.zip us⟩ (ps.zip us)
/-- the name x of the module holds a def that keeps the promise sp -/
structure CalG (P : Program) (w : World) (K : PySem.W.Frag) (mg : Str → Option Value) (base : Heap) (k : Nat) (x : Str) (ps : List Str) (sp : Sp) : Prop where
  ex : ∃ (f : Addr) (fd : FuncData), FnG P w K mg base k f fd ps sp ∧ mg x = some (.ref f) ∧ PySem.W.keepIn K (.ref f) = true ∧ Binds K fd ps [] ∧
    ∀ (s : Shared) (us : List Value), us.length = ps.length → BindsTo s fd ⟨[], ps.zip us⟩ (ps.zip us)
section
variable {P : Program} {w : World} {K : PySem.W.Frag} {mg : Str → Option Value} {base : Heap} {x : Str} {st : Stmt} {N ps : List Str} {sp : Sp} {k : Nat}
theorem Dfn.ok (D : Dfn K mg x st ps) (S : FnScope N ps (defScope st))
    (len : ∀ vs H Q E, sp vs H Q E → vs.length = ps.length)
    (body : ∀ (f : Addr) (cdv : Value) (A : Around) (fr : List Env) (s : Shared) (H : Hp) (vs : List V) (Q : VK) (E : XK),
      Room k (A.deeper (envOfC x (defScope st) s.heap.objs.size f cdv)) → A.guards = some [] → sp vs H Q E →
      ∃ t, PSs (cxOf CX0 P w K mg base N x (defScope st) f cdv A fr s H E).nox (defBody st) t ∧
        t { nx := fun _ H' => Q .non H', rt := Q } (start N vs) H) :
    CalG P w K mg base (k + 1) x ps sp := by
  obtain ⟨f, fd, F, hm, hb, hk⟩ := D.ex
  exact ⟨f, fd, fun_okG F S len (body f), hm, F.kp, hb, hk⟩
theorem CalG.imp {sp' : Sp} (c : CalG P w K mg base k x ps sp) (h : ∀ vs H Q E, sp' vs H Q E → sp vs H Q E) : CalG P w K mg base k x ps sp' := by
  obtain ⟨f, fd, F, hm, kp, hb, hk⟩ := c.ex
  exact ⟨f, fd, ⟨fun vs H Q E q => F.len vs H Q E (h _ _ _ _ q), fun A fr s H args us vs Q E hr hg e b r q => F.go A fr s H args us vs Q E hr hg e b r (h _ _ _ _ q)⟩, hm, kp, hb, hk⟩
/-- from what the top has left -/
theorem dfn_mk {l : Heap} {fa : Addr} {od an : Option Addr} {sl : Array (Option Value)} {oc kV dc pm cd ct : Value} (I : K.In l) (G : l.Ns mainGlobals mg)
    (a : PySem.W.nsIn K mainGlobals x = some (some (.ref fa)))
    (q : K.lookup fa = some ⟨oc, od, .func (PySem.W.fnOf x x (defArgs st) (defBody st) (defScope st) .none kV dc pm an cd ct), sl⟩)
    (c : PySem.W.codeIn K cd x = true) (kp : PySem.W.keepIn K (.ref fa) = true)
    (hb : ∀ us : List Value, us.length = ps.length → bindArgs (PySem.W.fnOf x x (defArgs st) (defBody st) (defScope st) .none kV dc pm an cd ct) ⟨us, []⟩ = pure (ps.zip us))
    (hk : ∀ us : List Value, us.length = ps.length → bindArgs (PySem.W.fnOf x x (defArgs st) (defBody st) (defScope st) .none kV dc pm an cd ct) ⟨[], ps.zip us⟩ = pure (ps.zip us)) :
    Dfn K mg x st ps :=
  ⟨fa, _, fun_mk q c kp, PySem.W.mg_of I G a, .all hb, fun s us hl => .of_eq (hk us hl)⟩
end
section
variable {X : Cx} {j k : Nat} {ps : List Str} {sp : Sp} {x : Str} {p pos : Pos} {e : Expr} {es : List Expr} {kws : List Keyword} {t : TA}
theorem pe_cG (c : CalG X.prog X.w X.K X.mg X.base k x ps sp) (hr : Room j X.A) (hk : k ≤ j) (hgd : X.A.guards = some []) (hg : Gl X x)
    (ha : PA X (e :: es) t) (hdb : (x == ("__debug__" : Str)) = false := by decide)
    (he : starEach (e :: es) X.env = (false, eval e X.env) :: starEach es X.env := by rfl)
    (hpl : (backTo pos (starEach es X.env)).any (·.1) = false := by rfl) :
    PE X (.Call (.Name x p) (e :: es) [] pos) (tCall sp [] E0 t) := by
  obtain ⟨f, fd, F, hm, kp, b, _⟩ := c.ex
  exact pe_callG F (hr.mono hk) hgd hg hm kp b .nil pass0 ha hdb he hpl
theorem pe_cG0 (c : CalG X.prog X.w X.K X.mg X.base k x ps sp) (hr : Room j X.A) (hk : k ≤ j) (hgd : X.A.guards = some []) (hg : Gl X x)
    (hdb : (x == ("__debug__" : Str)) = false := by decide) :
    PE X (.Call (.Name x p) [] [] pos) (tCall sp [] E0 tNil) := by
  obtain ⟨f, fd, F, hm, kp, b, _⟩ := c.ex
  exact pe_callG0 F (hr.mono hk) hgd hg hm kp b .nil pass0 hdb
theorem vals_len {vs : List V} {us : List Value} (r : Vals vs us) : vs.length = us.length := r.length
/-- f(a=.., b=..), the names in the parameters' order -/
theorem pe_kG (c : CalG X.prog X.w X.K X.mg X.base k x ps sp) (hr : Room j X.A) (hk : k ≤ j) (hgd : X.A.guards = some []) (hg : Gl X x)
    (hkw : PK X kws t) (hall : (backToKw pos (keywordEach kws X.env)).all (·.1.isSome) = true := by rfl)
    (hks : (backToKw pos (keywordEach kws X.env)).filterMap (·.1) = ps := by rfl)
    (hdb : (x == ("__debug__" : Str)) = false := by decide)
    (hpl : ((backTo pos (starEach [] X.env)).any (·.1) || (backToKw pos (keywordEach kws X.env)).any (·.1.isNone)) = false := by rfl) :
    PE X (.Call (.Name x p) [] kws pos) (tCall sp [] E0 t) := by
  obtain ⟨f, fd, F, hm, kp, _, b⟩ := c.ex
  refine ⟨fun pins s σ H Q I h => wpAny_Call_Name_kw (ld_glob I hg hm ?_ hdb)⟩
  refine PySem.W.callWith_KW0 (h₀ := X.base) I.ok.mod.kin kp hall (thn (hkw.run pos pins s σ H _ I h) fun ws s2 ⟨zs, H2, I2, rz, q2⟩ => ⟨I2.kIn, ?_⟩) hpl
  rw [hks]
  have q1 : sp (zs ++ []) H2 Q E0 := q2
  have q3 : sp zs H2 Q E0 := by rw [List.append_nil] at q1; exact q1
  have hl : ws.length = ps.length := rz.length.symm.trans (F.len _ _ _ _ q3)
  have run := F.go X.A X.stack s2 H2 ⟨[], ps.zip ws⟩ ws zs Q E0 (hr.mono hk) hgd I2.env0 (b s2 ws hl) rz q3
  refine wpAny_call (codeAny_mono run fun r s' hq => ?_)
  match r, hq with
  | .error e, hq => exact (pass0 : Passes CX0 X E0) pins σ H2 s2 e s' I2 hq
  | .ok (.ret u), hq => exact I2.after hq
  | .ok .next, hq => exact (show False from hq).elim
  | .ok .brk, hq => exact (show False from hq).elim
  | .ok .cont, hq => exact (show False from hq).elim
end
end Jo

set_option Elab.async false
set_option linter.all false
set_option maxRecDepth 100000
/-! ==, != of an instance whose class has its own __eq__, with anything on the right. -/
namespace Jo
open PySem PySem.Spec PyProof.Rows L2
section
variable {prog : Program} {w : World} {A : Around} {E : Value → Shared → Prop} {s : Shared} {K : PySem.W.Frag} {x C f : Addr} {ox : Obj} {od : Option Obj} {b tb : Value} {name : Str} {id : String} {args : List Value}
theorem ifBound_B {M : Model} {Q : Option Value → Shared → Prop} (X : K.In s.heap) (I : PySem.W.InstAt s.heap x ox C od) (hs : PySem.W.findIn K (.ref C) name = some (some (.builtin id))) {T : String} (S : Slot T name id)
    (h : wpAny M A (call (.builtin id) (.ref x :: args)) (fun v => Q (some v)) E s) : wpAny M A (callSpecialIfBound? (.ref x) name args) Q E s := by
  simp only [callSpecialIfBound?, bindSpecialIfBound?]
  refine wpAny_holding (wpAny_bind (wpAny_bind (wpAny_bind (I.type.here ((PySem.W.looks_findIn X hs).here ?_)))))
  simp only [S.bind]
  refine wpAny_bind (wpAny_askSetting (wpAny_ite ?_))
  have fin : wpAny M A (call (.builtin id) ([.ref x] ++ args) >>= fun v => pure (some v)) Q E s := wpAny_bind (wpAny_mono h (fun v s' h' => wpAny_pure h') fun _ _ h' => h')
  split
  · exact wpAny_bind (wpAny_pure (wpAny_pure fin))
  · exact wpAny_tryCatch (wpAny_bind (wpAny_pure (wpAny_pure fin)))
theorem objNe_own (X : K.In s.heap) (I : PySem.W.InstAt s.heap x ox C od) (hu : A.units < cLine) (hs : PySem.W.findIn K (.ref C) "__eq__" = some (some (.ref f))) (hf : PySem.W.isFn K (.ref f) = true) {Q : Fin → Shared → Prop}
    (hcall : wpAny (model prog w) A (call (.ref f) [.ref x, b]) (fun v s' => ∃ r, v = .bool r ∧ Q (.done (.ret (.bool (!r)))) s') E s) :
    wpAny (model prog w) A (Builtin.«object.__ne__» ⟨[.ref x, b], []⟩) Q E s := by
  unfold Builtin.«object.__ne__»
  repeat (first
    | with_reducible refine wpAny_cRoomFor hu ?_
    | (refine wpAny_bind (m := callSpecialIfBound? (.ref x) (Str.ofString "__eq__") [b])
        (PySem.W.ifBound_K X I hs hf (wpAny_mono hcall (fun r s' hr => by
          obtain ⟨q, rfl, hq⟩ := hr
          repeat (first | exact hq | exact wpAny_pure hq | exact wpAny_truthy_bool hq | (refine wpAny_bind (m := truthy (.bool _)) (wpAny_truthy_bool ?_)) | wp_step)) fun _ _ e => e)))
    | wp_step)
theorem ne_own {Q : Value → Shared → Prop} (hu : A.units + 1 < cLine) (X : K.In s.heap) (I : PySem.W.InstAt s.heap x ox C od) (hb : PySem.W.Looks (model prog w) s.heap (typeOf b) tb) (hn : PySem.W.notFirst K C tb = true)
    (hne : PySem.W.findIn K (.ref C) "__ne__" = some (some (.builtin "object.__ne__"))) (hsub : PySem.W.subIn K (.ref C) (.type "object") = some true)
    (hs : PySem.W.findIn K (.ref C) "__eq__" = some (some (.ref f))) (hf : PySem.W.isFn K (.ref f) = true)
    (hcall : wpAny (model prog w) A.in1 (call (.ref f) [.ref x, b]) (fun v s' => ∃ r, v = .bool r ∧ Q (.bool (!r)) s') E s) :
    wpAny (model prog w) A (richCompare .NotEq (.ref x) b) Q E s := by
  have hu0 : A.units < cLine := Nat.lt_of_succ_lt hu
  have chk : ∀ {Q' : Unit → Shared → Prop}, Q' () s → wpAny (model prog w) A.in1 (checkBuiltinCall "object.__ne__" ⟨[.ref x, b], []⟩) Q' E s := fun {Q'} hq => by
    have ha := PySem.F.cmpArgs_ne (.ref x) b
    simp only [checkBuiltinCall, PySem.F.cmpKind_ne, PySem.F.cmpSplit_ne]
    refine wpAny_bind (m := isInstance (.ref x) (.type "object")) ?_
    unfold isInstance
    refine wpAny_bind (m := typeOf (.ref x)) (I.type.here ((PySem.W.looks_subIn X hsub).here ?_))
    show wpAny _ _ (if (!true) = true then _ else _) Q' E s
    rw [if_neg (by decide)]
    cases hsig : Manifest.signature? "object.__ne__" with
    | none => exact wpAny_pure hq
    | some sig =>
      simp only [argsOk, hsig] at ha
      have h2 : Bind.checkArgs "object.__ne__" sig ⟨[.ref x, b], []⟩ = pure () := ha
      show wpAny _ _ (Bind.checkArgs "object.__ne__" sig ⟨[.ref x, b], []⟩) Q' E _
      rw [h2]
      exact wpAny_pure hq
  have one : wpAny (model prog w) A (tryCompare (.ref x) "__ne__" b) (fun r s' => ∃ v, r = some v ∧ Q v s') E s := by
    unfold tryCompare
    refine wpAny_bind (ifBound_B X I hne PySem.F.cmp_object.ne (wpAny_call (codeAny_call_builtin PySem.F.cmp_object.ne.plain PySem.F.cmpEntry_ne (chk (objNe_own (A := A.in1) X I hu hs hf (wpAny_mono hcall (fun v s' hv => ?_) fun _ _ e => e))))))
    obtain ⟨r, rfl, hq⟩ := hv
    first | exact ⟨r, rfl, wpAny_pure ⟨_, rfl, hq⟩⟩ | exact ⟨r, rfl, wpAny_pure (wpAny_pure ⟨_, rfl, hq⟩)⟩ | exact ⟨r, rfl, ⟨_, rfl, hq⟩⟩
  unfold richCompare
  simp only [oneThing_ref]
  refine wpAny_holding (wpAny_bind (wpAny_cRoomFor hu0 ?_))
  refine wpAny_bind (I.type.here (wpAny_bind (hb.here ?_)))
  split
  · rename_i q
    have e : PySem.W.subIn K tb (.ref C) = some false := by
      rcases Bool.or_eq_true_iff.mp hn with e | e
      · rw [beq_iff_eq.mp e] at q
        simp at q
      · exact beq_iff_eq.mp e
    refine wpAny_bind ((PySem.W.looks_subIn X e).here ?_)
    simp only [Bool.false_eq_true, if_false]
    refine wpAny_bind (wpAny_mono one (fun r s' z => ?_) fun _ _ e => e)
    obtain ⟨v, rfl, hq⟩ := z
    exact wpAny_pure hq
  · refine wpAny_bind (wpAny_pure ?_)
    simp only [Bool.false_eq_true, if_false]
    refine wpAny_bind (wpAny_mono one (fun r s' z => ?_) fun _ _ e => e)
    obtain ⟨v, rfl, hq⟩ := z
    exact wpAny_pure hq
end
end Jo

set_option Elab.async false
set_option linter.all false
set_option maxRecDepth 100000
/-! for i, x in enumerate(a tuple) -/
namespace Jo
open PySem PySem.Spec PyProof.Rows L2
set_option maxHeartbeats 1000000 in
theorem meets_enum1 {v : Value} {o : Obj} {G : Heap → Prop} (B : Begins v o G) :
    Meets (Builtin.«enumerate.__new__» ⟨[.type "enumerate", v], []⟩) (fun _ R s => G s.heap ∧
      R (.ok (.ret (.ref (s.heap.push o).objs.size))) { s with heap := (s.heap.push o).push { cls := .type "enumerate", data := .fields #[.none, .bool false, .ref s.heap.objs.size, rawInt 0, .none, .none] } }) :=
  .of_wp fun prog w A R s h => by
    obtain ⟨hp, g, d, tk, os⟩ := s
    obtain ⟨h1, h⟩ := h
    have hsub := sub_enumerate
    have it1 : ∀ {A' : Around} {E : Value → Shared → Prop} {Q : Value → Shared → Prop}, Q (.ref hp.objs.size) ⟨hp.push o, g, d, tk, os⟩ → wpAny (model prog w) A' (pyIter v) Q E ⟨hp, g, d, tk, os⟩ :=
      fun q => B.iter prog w _ _ ⟨hp, g, d, tk, os⟩ _ h1 q
    wp_walk using it1
    refine wpAny_stack_any fun st => wpAny_pure ?_
    split
    · rename_i c _ _ _ _ _
      cases (c == Value.type "enumerate") <;> (wp_walk using it1; exact ⟨_, rfl, h⟩)
    · wp_walk using it1
      exact ⟨_, rfl, h⟩
theorem enum1 {prog : Program} {w : World} {A : Around} {E : Value → Shared → Prop} {s : Shared} {v : Value} {o : Obj} {G : Heap → Prop} {Q : Value → Shared → Prop} (B : Begins v o G) (h1 : G s.heap)
    (h : ∀ h', IsEnum h' (s.heap.objs.size + 1) s.heap.objs.size 0 .none → h'.get? s.heap.objs.size = some o →
      (∀ b o, s.heap.get? b = some o → h'.get? b = some o) → Q (.ref (s.heap.objs.size + 1)) { s with heap := h' }) :
    wpAny (model prog w) A (call (.type "enumerate") [v]) Q E s := by
  refine callType_new F.called_enumerate (by decide) (F.typeCall_enumerate_1 _) (F.newCall_enumerate_1 _) (fun obj => F.args_object_init_2 obj _) F.entry_enumerate_new (meets_enum1 B) ⟨h1, ?_⟩
  have hz : (s.heap.push o).objs.size = s.heap.objs.size + 1 := Heap.size_push ..
  show _ ∧ _
  rw [hz]
  have he := Heap.get?_push_size (s.heap.push o) (o := { cls := .type "enumerate", data := .fields #[.none, .bool false, .ref s.heap.objs.size, rawInt 0, .none, .none] }) rfl
  rw [hz] at he
  exact ⟨⟨_, he, rfl⟩, h _ he (Heap.get?_push_of_some _ (Heap.get?_push_size _ B.free)) fun b o x => Heap.get?_push_of_some _ (Heap.get?_push_of_some _ x)⟩
/-- the tuple at a, each item in a new pair -/
def IteT (K : PySem.W.Frag) (a : Addr) : It :=
  ⟨fun i H => ∃ (xs : List V) (x : V), SqT K H a xs ∧ xs[i]? = some x,
   fun i H v H' => ∃ T x, v = .ref T ∧ H T = none ∧ H' = upd H T (.tup [.int (i : Nat), x]) ∧ ∀ xs, SqT K H a xs → xs[i]? = some x,
   fun i H => ∃ xs : List V, SqT K H a xs ∧ xs.length = i⟩
theorem turn_enumT {P : Program} {w : World} {K : PySem.W.Frag} {elts : List Expr} {kk : Nat} {tpos : Pos} (a e it : Addr) :
    Turn P w K (.Tuple elts kk tpos) (IteT K a) [e, it] e (fun i h => (∃ old, IsEnum h e it ((i : Nat) : Int) old) ∧ h.IsTupleIter it a i ∧ e ≠ it ∧ e ≠ a ∧ a ≠ it) where
  mem := by simp
  obj := fun i h st b hb => by
    obtain ⟨⟨old, he⟩, ⟨o, ho, hc, hd⟩, _⟩ := st
    rcases List.mem_cons.mp hb with z | z
    · rw [z]
      exact ⟨_, he, fun v q => nomatch q⟩
    · rw [List.mem_singleton.mp z]
      exact ⟨o, ho, fun v q => by rw [hd] at q; cases q⟩
  keep := fun i h h' st k => let ⟨⟨old, he⟩, hi, hne⟩ := st; ⟨⟨old, k e (by simp) _ he⟩, hi.at fun o q => k it (by simp) o q, hne⟩
  item := by
    intro X hP hw hK hc i pins s σ H E I hf st hg
    subst hP hw hK
    obtain ⟨⟨old, he⟩, hit, hne, hea, hai⟩ := st
    obtain ⟨xs, x, hq, hx⟩ := hg
    obtain ⟨its, rv, p, hz⟩ := I.tuple hq
    obtain ⟨u, hu, ru⟩ := rv.get hx
    have hel : e < s.heap.objs.size := Heap.lt_size he
    have hil : it < s.heap.objs.size := by obtain ⟨_, q, _⟩ := hit; exact Heap.lt_size q
    have hT0 : s.heap.IsTuple a its.toArray := p
    have hlt : i < its.toArray.size := by
      have := (List.getElem?_eq_some_iff.mp hu).1
      simpa using this
    have D := Draws.tuple (prog := X.prog) (w := X.w) (A := X.A.in1) (I.ok.hd hc) it a hai its.toArray
    refine wpAny_pyNext_enum_itemD D he ⟨hit, hT0⟩ hlt hne (by simp [hne, hea]) fun x' h' tk hP' ho hst' hT hsz hk => ?_
    have ex : x' = u := by
      have h2 : its.toArray[i]? = some u := by simpa using hu
      exact Option.some.inj (hP'.symm.trans h2)
    subst ex
    refine ⟨_, rfl, wpAny_letOwnedTupleGo_enum (s := { s with heap := h', toks := tk + 1 }) ho fun h'' he' sb => ?_⟩
    have hT2 : h''.get? s.heap.objs.size = some { cls := .type "tuple", data := .seq #[.int i tk, x'] } := (sb.2 _ (Nat.ne_of_gt hel)).trans hT
    have new : ObjOk X.prog X.w (upd H s.heap.objs.size (.tup [.int (i : Nat), x])) h'' s.heap.objs.size (.tup [.int (i : Nat), x]) :=
      ⟨by show 2 ≤ sizeLine; decide, [.int i tk, x'], .cons ⟨_, rfl⟩ (.cons ru .nil), ⟨_, hT2, rfl, _, rfl⟩⟩
    have I1 : Inv X pins σ (upd H s.heap.objs.size (.tup [.int (i : Nat), x])) { s with heap := h'', toks := tk + 1 } :=
      I.turnedNew (ch := [e, it]) (fun b ob hb q => (sb.2 b (fun z => hb (by simp [z]))).trans (hk b ob (fun z => hb (by simp [z])) (fun z => hb (by simp [z])) q)) hf (Nat.le_refl _) new
    refine ⟨.ref s.heap.objs.size, _, I1, rfl, ⟨_, x, rfl, I.hok.fresh (Nat.le_refl _), rfl, fun ys hy => by rw [I.tuple_inj hy hq]; exact hx⟩, ⟨⟨x', ?_⟩, hst'.1.at fun o q => (sb.2 it (Ne.symm hne)).trans q, hne, hea, hai⟩, fun b hb => ?_⟩
    · have e1 : ((i + 1 : Nat) : Int) = (i : Int) + 1 := by omega
      rw [e1]
      exact he'
    · have hb' : b < s.heap.objs.size := by
        rcases List.mem_cons.mp hb with z | z
        · rw [z]; exact hel
        · rw [List.mem_singleton.mp z]; exact hil
      rw [upd_ne (Nat.ne_of_lt hb')]
      exact (hf b hb).1
  done := by
    intro X hP hw hK hc i pins s σ H E I hf st hg
    subst hP hw hK
    obtain ⟨⟨old, he⟩, hit, hne, hea, hai⟩ := st
    obtain ⟨xs, hq, hx⟩ := hg
    obtain ⟨its, rv, p, hz⟩ := I.tuple hq
    obtain ⟨f0, f1, f2, f3, f4, f5⟩ := hf it (by simp)
    have hl := rv.length
    have D := Draws.tuple (prog := X.prog) (w := X.w) (A := X.A.in1) (I.ok.hd hc) it a hai its.toArray
    have en : i = its.toArray.size := by simp; omega
    subst en
    exact wpAny_pyNext_enum_endD D he ⟨hit, p⟩ fun h' eb => ⟨rfl, I.turned (t' := s.toks) (fun b o hb q => eb b o hb q) f0 f1 f3 f4 f5⟩
  self := fun A i s Q E st h => let ⟨⟨_, he⟩, _⟩ := st; wpAny_pyIter_enum he h
def iEnumT (K : PySem.W.Frag) (ta : TA) : TI := fun σ H R => ta σ H fun vs H1 => ∃ a xs, vs = [.ref a] ∧ SqT K H1 a xs ∧ R (IteT K a) H1
theorem pi_enumT {X : Cx} {e : Expr} {ta : TA} {p pos tpos : Pos} {elts : List Expr} {kk : Nat} (hg : Gl X "enumerate") (hm : X.mg "enumerate" = none) (ha : PA X [e] ta) (hs : starEach [e] X.env = [(false, eval e X.env)] := by rfl) :
    PI X (.Tuple elts kk tpos) (.Call (.Name "enumerate" p) [e] [] pos) (iEnumT X.K ta) := by
  refine ⟨fun pins s σ H R I h => ?_⟩
  refine Call_ (ld_blt I hg hm boot_enumerate (PyProof.Rows.callWith_type1 (thn (ha.run pos pins s σ H _ I h) fun us s1 ⟨vs, H1, I1, r1, q1⟩ => ?_) hs rfl))
  obtain ⟨a, xs, ex, hq, q⟩ := q1
  subst ex
  cases r1 with
  | cons r rr =>
    cases rr
    cases r
    obtain ⟨its, rv, p', hz⟩ := I1.tuple hq
    have hT0 : s1.heap.IsTuple a its.toArray := p'
    have hal : a < s1.heap.objs.size := by obtain ⟨_, q, _⟩ := hT0; exact Heap.lt_size q
    refine enum1 (begins_tuple a its.toArray) hT0 fun h' he hit hk => wpAny_pyIter_enum he ?_
    have I2 : Inv X pins σ H1 { s1 with heap := h' } := I1.kept (t' := s1.toks) hk
    refine ⟨s1.heap.objs.size + 1, [s1.heap.objs.size + 1, s1.heap.objs.size], _, _, H1, rfl, I2, turn_enumT a (s1.heap.objs.size + 1) s1.heap.objs.size, ⟨⟨.none, he⟩, ⟨_, hit, rfl, rfl⟩, Nat.succ_ne_self _, Nat.ne_of_gt (Nat.lt_succ_of_lt hal), Nat.ne_of_lt hal⟩, fun b hb => ?_, q⟩
    have hle : s1.heap.objs.size ≤ b := by
      rcases List.mem_cons.mp hb with z | z
      · rw [z]; exact Nat.le_add_right _ _
      · rw [List.mem_singleton.mp z]; exact Nat.le_refl _
    exact I1.fpOk hle (I1.hok.fresh hle)
theorem walk_enumT {K : PySem.W.Frag} {a : Addr} {xs : List V} : Walk (IteT K a) xs.length (fun H => SqT K H a xs) (YPair (fun i => some (.int (i : Nat))) (fun i => xs[i]?)) :=
  ⟨fun i H hi q => ⟨xs, xs[i], q, by simp [hi]⟩, fun H q => ⟨xs, q, rfl⟩, fun i H v H' hi q ⟨T, x, e1, e2, e3, e4⟩ => ⟨T, .int (i : Nat), x, e1, e2, e3, rfl, e4 xs q⟩⟩
end Jo

set_option Elab.async false
set_option linter.all false
set_option maxRecDepth 100000
/-! Defs, methods and classes of the program, wherever they are called. -/
namespace Jo
open PySem PySem.Spec PyProof.Rows L2
/-- the name x of the module holds a def that keeps the promise sp, wherever it is called -/
structure CalF (P : Program) (w : World) (K : PySem.W.Frag) (mg : Str → Option Value) (base : Heap) (k : Nat) (x : Str) (ps : List Str) (sp : Sp) : Prop where
  ex : ∃ (f : Addr) (fd : FuncData), FnOk P w K mg base CX0 k f fd ps sp ∧ mg x = some (.ref f) ∧ PySem.W.keepIn K (.ref f) = true ∧ Binds K fd ps [] ∧
    ∀ (s : Shared) (us : List Value), us.length = ps.length → BindsTo s fd ⟨[], ps.zip us⟩ (ps.zip us)
/-- the def st is the method m of the class at C -/
structure Mth (K : PySem.W.Frag) (C : Addr) (m qual : Str) (st : Stmt) (ps : List Str) : Prop where
  ex : ∃ (f : Addr) (fd : FuncData), Fun K m qual st f fd ∧ Meth K C m f ∧ Binds K fd ps [] ∧
    ∀ (s : Shared) (u : Value) (us : List Value), (u :: us).length = ps.length → BindsTo s fd ⟨[u], (ps.drop 1).reverse.zip us.reverse⟩ (ps.zip (u :: us))
/-- .. and keeps the promise sp -/
structure MtF (P : Program) (w : World) (K : PySem.W.Frag) (mg : Str → Option Value) (base : Heap) (k : Nat) (C : Addr) (m : Str) (ps : List Str) (sp : Sp) : Prop where
  ex : ∃ (f : Addr) (fd : FuncData), FnOk P w K mg base CX0 k f fd ps sp ∧ Meth K C m f ∧ Binds K fd ps [] ∧
    ∀ (s : Shared) (u : Value) (us : List Value), (u :: us).length = ps.length → BindsTo s fd ⟨[u], (ps.drop 1).reverse.zip us.reverse⟩ (ps.zip (u :: us))
section
variable {P : Program} {w : World} {K : PySem.W.Frag} {mg : Str → Option Value} {base : Heap} {x m qual : Str} {st : Stmt} {N ps : List Str} {sp : Sp} {k : Nat} {C : Addr}
theorem CalF.g (c : CalF P w K mg base k x ps sp) : CalG P w K mg base k x ps sp := by
  obtain ⟨f, fd, F, r⟩ := c.ex
  exact ⟨f, fd, FnG.of F, r⟩
theorem Dfn.okF (D : Dfn K mg x st ps) (S : FnScope N ps (defScope st)) (len : ∀ vs H Q E, sp vs H Q E → vs.length = ps.length)
    (body : ∀ (f : Addr) (cdv : Value) (A : Around) (fr : List Env) (s : Shared) (H : Hp) (vs : List V) (Q : VK) (E : XK),
      Room k (A.deeper (envOfC x (defScope st) s.heap.objs.size f cdv)) → sp vs H Q E →
      ∃ t, PSs (cxOf CX0 P w K mg base N x (defScope st) f cdv A fr s H E).nox (defBody st) t ∧ t { nx := fun _ H' => Q .non H', rt := Q } (start N vs) H) :
    CalF P w K mg base (k + 1) x ps sp := by
  obtain ⟨f, fd, F, hm, hb, hk⟩ := D.ex
  exact ⟨f, fd, F.ok S len (body f), hm, F.kp, hb, hk⟩
theorem Mth.okF (D : Mth K C m qual st ps) (S : FnScope N ps (defScope st)) (len : ∀ vs H Q E, sp vs H Q E → vs.length = ps.length)
    (body : ∀ (f : Addr) (cdv : Value) (A : Around) (fr : List Env) (s : Shared) (H : Hp) (vs : List V) (Q : VK) (E : XK),
      Room k (A.deeper (envOfC qual (defScope st) s.heap.objs.size f cdv)) → sp vs H Q E →
      ∃ t, PSs (cxOf CX0 P w K mg base N qual (defScope st) f cdv A fr s H E).nox (defBody st) t ∧ t { nx := fun _ H' => Q .non H', rt := Q } (start N vs) H) :
    MtF P w K mg base (k + 1) C m ps sp := by
  obtain ⟨f, fd, F, hm, hb, hk⟩ := D.ex
  exact ⟨f, fd, F.ok S len (body f), hm, hb, hk⟩
theorem mth_mk {h : Heap} {fa : Addr} {od an : Option Addr} {sl : Array (Option Value)} {oc kV dc pm cd ct : Value}
    (a : PySem.W.findIn K (.ref C) m = some (some (.ref fa))) (i : PySem.W.isFn K (.ref fa) = true)
    (q : K.lookup fa = some ⟨oc, od, .func (PySem.W.fnOf m qual (defArgs st) (defBody st) (defScope st) .none kV dc pm an cd ct), sl⟩)
    (c : PySem.W.codeIn K cd qual = true) (kp : PySem.W.keepIn K (.ref fa) = true)
    (hb : ∀ us : List Value, us.length = ps.length → bindArgs (PySem.W.fnOf m qual (defArgs st) (defBody st) (defScope st) .none kV dc pm an cd ct) ⟨us, []⟩ = pure (ps.zip us))
    (hk : ∀ (u : Value) (us : List Value), (u :: us).length = ps.length → bindArgs (PySem.W.fnOf m qual (defArgs st) (defBody st) (defScope st) .none kV dc pm an cd ct) ⟨[u], (ps.drop 1).reverse.zip us.reverse⟩ = pure (ps.zip (u :: us))) :
    Mth K C m qual st ps := ⟨fa, _, fun_mk q c kp, ⟨a, i, kp⟩, .all hb, fun s u us hl => .of_eq (hk u us hl)⟩
end
section
variable {X : Cx} {j k : Nat} {ps : List Str} {sp : Sp} {x m : Str} {p pos apos : Pos} {e o : Expr} {es : List Expr} {kws : List Keyword} {t : TA} {ta : TE} {C : Addr}
theorem pe_cF (c : CalF X.prog X.w X.K X.mg X.base k x ps sp) (hr : Room j X.A) (hk : k ≤ j) (hg : Gl X x)
    (ha : PA X (e :: es) t) (hdb : (x == ("__debug__" : Str)) = false := by decide)
    (he : starEach (e :: es) X.env = (false, eval e X.env) :: starEach es X.env := by rfl)
    (hpl : (backTo pos (starEach es X.env)).any (·.1) = false := by rfl) :
    PE X (.Call (.Name x p) (e :: es) [] pos) (tCall sp [] E0 t) := by
  obtain ⟨f, fd, F, hm, kp, b, _⟩ := c.ex
  exact pe_call F (hr.mono hk) hg hm kp b .nil pass0 ha hdb he hpl
theorem pe_mF {pl : Sem Bool} (he : PE X o ta) (cl : Cls X.K C) (c : MtF X.prog X.w X.K X.mg X.base k C m ps sp) (hr : Room j X.A) (hk : k ≤ j) (ha : PA X (e :: es) t)
    (hst : starEach (e :: es) X.env = (false, eval e X.env) :: starEach es X.env := by rfl) (hpl : (backTo pos (starEach es X.env)).any (·.1) = false := by rfl)
    (ht : eval (.Call (.Attribute o m apos) (e :: es) [] pos) X.env = (do
      let ov ← eval o X.env
      standAt apos.atName
      let (f, first) ← holding [ov] (getMethod ov m pl)
      callWith pos f first (backTo pos (starEach (e :: es) X.env)) (backToKw pos (keywordEach [] X.env))) := by rfl) :
    PE X (.Call (.Attribute o m apos) (e :: es) [] pos) (tMeth C m sp [] E0 ta t) := by
  obtain ⟨f, fd, F, hm, b, _⟩ := c.ex
  exact pe_meth he cl hm F (hr.mono hk) b .nil pass0 ha hst hpl ht
/-- o.m(b=.., a=..): every parameter by name, the last ahead -/
def tMethK (C : Addr) (m : Str) (sp : Sp) (ta : TE) (t : TA) : TE := fun σ H Q => ta σ H fun x H1 => ∃ a dx fs, x = .ref a ∧ H1 a = some (.ins C dx fs) ∧ fs.lookup m = none ∧
  t σ H1 fun zs H2 => sp (x :: zs.reverse) H2 Q E0
theorem pe_mK {pl : Sem Bool} (he : PE X o ta) (cl : Cls X.K C) (c : MtF X.prog X.w X.K X.mg X.base k C m ps sp) (hr : Room j X.A) (hk : k ≤ j) (hkw : PK X kws t)
    (hall : (backToKw pos (keywordEach kws X.env)).all (·.1.isSome) = true := by rfl)
    (hks : (backToKw pos (keywordEach kws X.env)).filterMap (·.1) = (ps.drop 1).reverse := by rfl)
    (hpl : ((backTo pos (starEach [] X.env)).any (·.1) || (backToKw pos (keywordEach kws X.env)).any (·.1.isNone)) = false := by rfl)
    (ht : eval (.Call (.Attribute o m apos) [] kws pos) X.env = (do
      let ov ← eval o X.env
      standAt apos.atName
      let (f, first) ← holding [ov] (getMethod ov m pl)
      callWith pos f first (backTo pos (starEach [] X.env)) (backToKw pos (keywordEach kws X.env))) := by rfl) :
    PE X (.Call (.Attribute o m apos) [] kws pos) (tMethK C m sp ta t) := by
  obtain ⟨f, fd, F, hm, _, b⟩ := c.ex
  refine ⟨fun pins s σ H Q I h => ?_⟩
  refine PySem.W.methodCall_KW (pl := pl) (thn (he.run pins s σ H _ I h) fun u s1 ⟨x, H1, I1, rx, a, dx, fs, ex, ea, l, q⟩ => ?_) ht
  subst ex
  obtain rfl : u = Value.ref a := rx
  refine getmeth_ok I1 ea cl hm l ?_
  refine PySem.W.callWith_KW0 (first := [.ref a]) (h₀ := X.base) I.ok.mod.kin hm.kp hall (thn (hkw.run pos pins s1 σ H1 _ I1 q) fun ws s2 ⟨zs, H2, I2, rz, q2⟩ => ⟨I2.kIn, ?_⟩) hpl
  rw [hks]
  have r2 : Vals (V.ref a :: zs.reverse) (Value.ref a :: ws.reverse) := .cons rfl rz.reverse
  have hl : (Value.ref a :: ws.reverse).length = ps.length := r2.length.symm.trans (F.len _ _ _ _ q2)
  have bb := b s2 (.ref a) ws.reverse hl
  rw [List.reverse_reverse] at bb
  have run := F.run X.A X.stack s2 H2 ⟨[.ref a], (ps.drop 1).reverse.zip ws⟩ _ _ Q E0 (hr.mono hk) I2.env0 bb r2 q2
  refine wpAny_call (codeAny_mono run fun r s' hq => ?_)
  match r, hq with
  | .error e, hq => exact (pass0 : Passes CX0 X E0) pins σ H2 s2 e s' I2 hq
  | .ok (.ret u), hq => exact I2.after hq
  | .ok .next, hq => exact (show False from hq).elim
  | .ok .brk, hq => exact (show False from hq).elim
  | .ok .cont, hq => exact (show False from hq).elim
/-- C(a, b) -/
theorem pe_mkF {fi : Addr} (M : Mk X.K C fi) (c : MtF X.prog X.w X.K X.mg X.base k C "__init__" ps sp) (hr : Room j X.A) (hk : k + 1 ≤ j) (hg : Gl X x) (hm : X.mg x = some (.ref C))
    (ha : PA X (e :: es) t) (hdb : (x == ("__debug__" : Str)) = false := by decide)
    (he : starEach (e :: es) X.env = (false, eval e X.env) :: starEach es X.env := by rfl) (hpl : (backTo pos (starEach es X.env)).any (·.1) = false := by rfl) :
    PE X (.Call (.Name x p) (e :: es) [] pos) (tMake C sp [] E0 t) := by
  obtain ⟨f, fd, F, mt, b, _⟩ := c.ex
  have ef : fi = f := by
    have e1 := M.init.symm.trans mt.at_
    cases e1
    rfl
  subst ef
  exact pe_make M F (hr.mono hk) hg hm b .nil pass0 ha hdb he hpl
/-- C(b=.., a=..): the parameters by name, the last ahead -/
theorem pe_mkK {fi : Addr} (M : Mk X.K C fi) (c : MtF X.prog X.w X.K X.mg X.base k C "__init__" ps sp) (hr : Room j X.A) (hk : k + 1 ≤ j) (hg : Gl X x) (hm : X.mg x = some (.ref C)) {n : Nat} (hn : ps.length = n + 1)
    (hkw : PK X kws t) (hall : (backToKw pos (keywordEach kws X.env)).all (·.1.isSome) = true := by rfl)
    (hks : (backToKw pos (keywordEach kws X.env)).filterMap (·.1) = (ps.drop 1).reverse := by rfl)
    (hdb : (x == ("__debug__" : Str)) = false := by decide)
    (hpl : ((backTo pos (starEach [] X.env)).any (·.1) || (backToKw pos (keywordEach kws X.env)).any (·.1.isNone)) = false := by rfl) :
    PE X (.Call (.Name x p) [] kws pos) (tMakeK C 0 (ps.drop 1).reverse.length sp (fun vs zs => vs ++ zs.reverse) E0 tNil t) := by
  obtain ⟨f, fd, F, mt, _, b⟩ := c.ex
  have ef : fi = f := by
    have e1 := M.init.symm.trans mt.at_
    cases e1
    rfl
  subst ef
  refine pe_makeK0 (g := fun us ws => us ++ ws.reverse) M F (hr.mono hk) hg hm ⟨fun s us ws X l1 l2 => ?_, fun r1 r2 => r1.append r2.reverse⟩ pass0 hkw hall hks hdb hpl
  match us, l1 with
  | [u], _ =>
    have h3 : (u :: ws.reverse).length = ps.length := by
      rw [List.length_reverse, List.length_drop] at l2
      rw [List.length_cons, List.length_reverse]
      omega
    have bb := b s u ws.reverse h3
    rw [List.reverse_reverse] at bb
    exact bb
end
end Jo

set_option Elab.async false
set_option linter.all false
set_option maxRecDepth 100000
set_option maxHeartbeats 400000
namespace Jo
open PySem PySem.Spec PyProof.Rows L2
def top (i : Nat) : Stmt := PySem.Challenge.pw_reentry_k25_rules_led.main.body.getD i (.Pass ⟨0, 0, 0, 0⟩)
abbrev s_is_name : Stmt := top 11
abbrev s_is_integer : Stmt := top 12
abbrev s_check_steps : Stmt := top 17
abbrev s_check_bad : Stmt := top 18
abbrev s_is_step : Stmt := top 19
abbrev s_is_state : Stmt := top 20
abbrev s_is_event : Stmt := top 21
abbrev s_is_full_event : Stmt := top 22
abbrev s_fits : Stmt := top 23

/-! ### a comprehension whose items are reckoned from the turn, the heap staying -/
theorem lc_fun {J : It} {n : Nat} {Y : Nat → Hp → V → Hp → Prop} (w : Walk J n (fun _ => True) Y) {g : TG} {te : TE} {vs : List Nat} {σ : L2.St}
    {H1 : Hp} {D : Addr} {Qd : Hp → Prop} (f : Nat → V) (hn : n < sizeLine)
    (hs : ∀ (i : Nat) (x : V) (H H' : Hp) (Q : VK), i < n → Y i H x H' → Q (f i) H →
      g x (wipe σ vs) H' fun σ2 H2 => wipe σ2 vs = wipe σ vs ∧ te σ2 H2 Q)
    (hd : Qd (upd H1 D (.lst ((List.range n).map f)))) :
    ∃ W : Nat → Nat → Hp → Prop, (∃ m, W 0 m (upd H1 D (.lst []))) ∧ ∀ i m H, W i m H →
      (J.stop i H ∧ Qd H) ∨ (J.go i H ∧ ∃ Nx : Hp → Prop, (∀ H', Nx H' → ∃ m', m' < m ∧ W (i + 1) m' H') ∧
        ∀ x H', J.yld i H x H' → g x (wipe σ vs) H' fun σ2 H2 => wipe σ2 vs = wipe σ vs ∧ tYes σ2 H2 fun b H3 =>
          if b = true then te σ2 H3 fun y H4 => ∃ acc, H4 D = some (.lst acc) ∧ acc.length < sizeLine ∧ Nx (upd H4 D (.lst (acc ++ [y]))) else Nx H3) := by
  refine lc_it w (fun i H => i ≤ n ∧ H = upd H1 D (.lst ((List.range i).map f))) ⟨Nat.zero_le _, rfl⟩ (fun _ _ _ _ => trivial) (fun i x H H' hi hp hy => ?_) (fun H hp => ?_)
  · obtain ⟨_, rfl⟩ := hp
    refine hs i x _ H' (fun y H4 => ∃ acc, H4 D = some (.lst acc) ∧ acc.length < sizeLine ∧ (i + 1 ≤ n ∧ upd H4 D (.lst (acc ++ [y])) = upd H1 D (.lst ((List.range (i + 1)).map f)))) hi hy ?_
    refine ⟨_, upd_same, ?_, hi, ?_⟩
    · rw [List.length_map, List.length_range]
      exact Nat.lt_trans hi hn
    · rw [List.range_succ, List.map_append]
      funext b
      by_cases hb : b = D
      · subst hb
        rw [upd_same, upd_same]
        rfl
      · rw [upd_ne hb, upd_ne hb, upd_ne hb]
  · rw [hp.2]
    exact hd

/-! ### what a value is -/
def isI : V → Bool | .int _ => true | _ => false
def isS : V → Bool | .str _ => true | _ => false
def stB : V → Bool | .int n => decide (0 ≤ n) && decide (n ≤ 99) | _ => false
def letters : Str := Str.ofString "abcdefghijklmnopqrstuvwxyz"
def signs : Str := Str.ofString "abcdefghijklmnopqrstuvwxyz0123456789"
def nmS (z : Str) : Bool := (decide (1 ≤ (z.length : Int)) && decide ((z.length : Int) ≤ 8)) &&
  (decide (z.cps.getD 0 0 ∈ letters.cps.toList) && ((List.range z.cps.size).map fun i => decide (z.cps.getD i 0 ∈ signs.cps.toList)).all id)
def isNm : V → Bool | .str z => nmS z | _ => false
/-- a value of any of the built-in kinds, as isinstance sees it -/
def AnyV (K : PySem.W.Frag) (H : Hp) (x : V) : Prop := ∃ (t : Value) (i b s : Bool), TyX K H x t ∧ PySem.W.kitOne K t (.type "int") = some i ∧
  PySem.W.kitOne K t (.type "bool") = some b ∧ PySem.W.kitOne K t (.type "str") = some s ∧ (i && !b) = isI x ∧ s = isS x
section
variable {K : PySem.W.Frag} {H : Hp}
theorem any_int (n : Int) : AnyV K H (.int n) := ⟨_, true, false, false, .base (.int n), kit_ty (by decide +kernel), kit_ty (by decide +kernel), kit_ty (by decide +kernel), rfl, rfl⟩
theorem any_str (z : Str) : AnyV K H (.str z) := ⟨_, false, false, true, .base (.str z), kit_ty (by decide +kernel), kit_ty (by decide +kernel), kit_ty (by decide +kernel), rfl, rfl⟩
theorem any_bl (z : Bool) : AnyV K H (.bl z) := ⟨_, true, true, false, .base (.bl z), kit_ty (by decide +kernel), kit_ty (by decide +kernel), kit_ty (by decide +kernel), rfl, rfl⟩
theorem any_non : AnyV K H .non := ⟨_, false, false, false, .base .non, kit_ty (by decide +kernel), kit_ty (by decide +kernel), kit_ty (by decide +kernel), rfl, rfl⟩
theorem any_lst {a : Addr} {xs : List V} (e : H a = some (.lst xs)) : AnyV K H (.ref a) := ⟨_, false, false, false, .base (.lst e), kit_ty (by decide +kernel), kit_ty (by decide +kernel), kit_ty (by decide +kernel), rfl, rfl⟩
theorem any_tup {a : Addr} {xs : List V} (e : H a = some (.tup xs)) : AnyV K H (.ref a) := ⟨_, false, false, false, .base (.tup e), kit_ty (by decide +kernel), kit_ty (by decide +kernel), kit_ty (by decide +kernel), rfl, rfl⟩
theorem any_dK {a : Addr} {kvs : List (Key × V)} (e : H a = some (.dK kvs)) : AnyV K H (.ref a) := ⟨_, false, false, false, .base (.dK e), kit_ty (by decide +kernel), kit_ty (by decide +kernel), kit_ty (by decide +kernel), rfl, rfl⟩
end

def wordsE : List Str := ["call", "answer", "out", "back"]
def hangE : Str := Str.ofString "hang"
/-- the module's own and the built-in names -/
structure Txt (K : PySem.W.Frag) (mg : Str → Option Value) : Prop where
  g_MAX_STATE : ∃ u, mg "MAX_STATE" = some u ∧ RelV (.int 99) u
  g_LETTERS : ∃ u, mg "LETTERS" = some u ∧ RelV (.str letters) u
  g_SIGNS : ∃ u, mg "SIGNS" = some u ∧ RelV (.str signs) u
  g_LONGEST_NAME : ∃ u, mg "LONGEST_NAME" = some u ∧ RelV (.int 8) u
  g_WORDS : ∃ a, (∃ u, mg "WORDS" = some u ∧ RelV (.ref a) u) ∧ ∀ H, SqT K H a (wordsE.map V.str)
  g_HANG_EVENT : ∃ a, (∃ u, mg "HANG_EVENT" = some u ∧ RelV (.ref a) u) ∧ ∀ H, SqT K H a [.str hangE]
  b_isinstance : mg "isinstance" = none
  b_str : mg "str" = none
  b_int : mg "int" = none
  b_bool : mg "bool" = none
  b_tuple : mg "tuple" = none
  b_len : mg "len" = none
  b_all : mg "all" = none
  b_range : mg "range" = none
  b_repr : mg "repr" = none
  b_enumerate : mg "enumerate" = none
  b_divmod : mg "divmod" = none
  b_max : mg "max" = none
  b_min : mg "min" = none

section
variable {P : Program} {w : World} {K : PySem.W.Frag} {mg : Str → Option Value} {base : Heap}
/-! ### is_integer, is_size, is_name -/
def n_is_integer : List Str := ["value"]
theorem sc_is_integer : FnScope n_is_integer ["value"] (defScope s_is_integer) := ⟨rfl, rfl, rfl, by decide +kernel, rfl, by decide +kernel, by decide +kernel⟩
def spIsInt (K : PySem.W.Frag) : Sp := fun vs H Q _ => ∃ x, vs = [x] ∧ AnyV K H x ∧ Q (.bl (isI x)) H
theorem ok_is_integer (T : Txt K mg) (D : Dfn K mg "is_integer" s_is_integer ["value"]) : CalF P w K mg base 1 "is_integer" ["value"] (spIsInt K) := by
  refine D.okF sc_is_integer (fun vs H Q E h => ?_) (fun f cdv A fr s H vs Q E hr h => ?_)
  · obtain ⟨x, rfl, _⟩ := h
    rfl
  · obtain ⟨x, rfl, ⟨t, i, b, z, ht, hi, hb, _, e, _⟩, q⟩ := h
    refine ⟨_, pss_one (ps_ret (pe_and (pe_callB call_isi rfl T.b_isinstance (by decide +kernel) (pa_cons (pv 0) (pa_cons (pe_bltn (v := .ty "int") (u := .type "int") rfl T.b_int (by decide +kernel) rfl) pa_nil))) (pe_one (pe_not (pe_callB call_isi rfl T.b_isinstance (by decide +kernel) (pa_cons (pv 0) (pa_cons (pe_bltn (v := .ty "bool") (u := .type "bool") rfl T.b_bool (by decide +kernel) rfl) pa_nil))))))), ?_⟩
    refine ⟨x, rfl, x, _, t, _, i, rfl, .ty "int", ht, hi, i, rfl, ?_⟩
    cases i with
    | false =>
      refine iteF ?_
      rw [← e] at q
      exact q
    | true =>
      refine iteT ⟨x, rfl, x, _, t, _, b, rfl, .ty "bool", ht, hb, b, rfl, ?_⟩
      rw [← e] at q
      exact q
def n_is_name : List Str := ["value", "sign"]
theorem sc_is_name : FnScope n_is_name ["value"] (defScope s_is_name) := ⟨rfl, rfl, rfl, by decide +kernel, rfl, by decide +kernel, by decide +kernel⟩
def spIsName (K : PySem.W.Frag) : Sp := fun vs H Q _ => ∃ x, vs = [x] ∧ AnyV K H x ∧ (∀ z, x = .str z → z.length ≤ 1000) ∧ ∀ H', Same H H' → Q (.bl (isNm x)) H'
theorem same_new {H : Hp} {p : Addr} {o : HO} (h : H p = none) : Same H (upd H p o) := fun b x e => by
  rw [upd_ne (ne_of_none e h)]
  exact e
theorem len_cps (z : Str) : z.length = z.cps.size := by simp [Str.length]
theorem cps_get {z : Str} {i c : Nat} (h : z.cps[i]? = some c) : z.cps.getD i 0 = c := by simp [Array.getD_eq_getD_getElem?, h]
theorem ok_is_name (T : Txt K mg) (D : Dfn K mg "is_name" s_is_name ["value"]) : CalF P w K mg base 1 "is_name" ["value"] (spIsName K) := by
  refine D.okF sc_is_name (fun vs H Q E h => ?_) (fun f cdv A fr s H vs Q E hr h => ?_)
  · obtain ⟨x, rfl, _⟩ := h
    rfl
  · obtain ⟨x, rfl, ⟨t, i, b, z, ht, _, _, hz, _, e⟩, hlen, q⟩ := h
    refine ⟨_, pss_cons (ps_if (PW.pt (pw_or (pt_not (pt_val (pe_callB call_isi rfl T.b_isinstance (by decide +kernel) (pa_cons (pv 0) (pa_cons (pe_bltn (v := .ty "str") (u := .type "str") rfl T.b_str (by decide +kernel) rfl) pa_nil))))) (pw_or1 (pt_not (pt_chain op_le op_le pe_int (pe_callB call_len rfl T.b_len (by decide +kernel) (pa_cons (pv 0) pa_nil)) (C8.pe_gc rfl T.g_LONGEST_NAME))))))
        (pss_one (ps_ret pe_bl))
        (pss_nil))
      (pss_one (ps_ret (pe_and (pe_cmpR op_in_sign (pe_item_str (pv 0) pe_int (fun _ _ => rfl)) (C8.pe_gc rfl T.g_LETTERS) rfl) (pe_one (pe_callB (cr_all rfl) rfl T.b_all (by decide +kernel) (pa_cons (pe_lc (own := [("sign", 1)]) (g := gName 1) (tt := tYes) rfl sc_is_name.nd (pi_str (pv 0)) (blkOk_by (N := n_is_name) (sc := defScope s_is_name) (by decide +kernel)) (fun _ _ _ _ _ => pg_name (i := 1) sc_is_name.nd rfl (Or.inl rfl)) (fun _ _ _ _ _ => pts_nil) (fun _ _ _ _ _ => (pe_cmpR op_in_sign (pv 1) (C8.pe_gc rfl T.g_SIGNS) rfl))) pa_nil)))))), ?_⟩
    refine ⟨x, rfl, x, _, t, _, z, rfl, .ty "str", ht, hz, z, rfl, ?_⟩
    subst e
    cases x with
    | str y =>
      have hl := hlen y rfl
      have q' : ∀ H', Same H H' → Q (.bl (nmS y)) H' := q
      refine iteF ⟨_, rfl, .str y, y.length, rfl, ⟨Nat.le_trans hl (by decide), rfl⟩, _, _, rfl, rfl, _, rfl, ?_⟩
      by_cases h1 : (1 : Int) ≤ (y.length : Int)
      · rw [decide_eq_true h1]
        refine iteT ⟨_, _, rfl, rfl, _, rfl, ?_⟩
        by_cases h2 : (y.length : Int) ≤ 8
        · rw [decide_eq_true h2]
          refine iteF ?_
          have h0 : 0 < y.cps.size := by rw [← len_cps]; omega
          have c0 : y.cps[0]? = some (y.cps.getD 0 0) := by simp [Array.getD_eq_getD_getElem?, h0]
          refine ⟨_, rfl, y, 0, y.cps.getD 0 0, rfl, rfl, by decide, by decide, by omega, c0, _, letters, rfl, rfl, _, rfl, ?_⟩
          by_cases h3 : y.cps.getD 0 0 ∈ letters.cps.toList
          · rw [decide_eq_true h3]
            refine iteT ⟨_, rfl, y, rfl, fun Dl hD => lc_fun walk_str (fun i => .bl (decide (y.cps.getD i 0 ∈ signs.cps.toList))) (by rw [← len_cps]; exact Nat.lt_of_le_of_lt hl (by decide)) (fun i x H0 H0' Q0 hi hy hq => ?_) ?_⟩
            · obtain ⟨rfl, c, hc, rfl⟩ := hy
              refine ⟨rfl, _, rfl, c, signs, rfl, rfl, ?_⟩
              rw [← cps_get hc]
              exact hq
            · refine ⟨Dl, (List.range y.cps.size).map fun i => decide (y.cps.getD i 0 ∈ signs.cps.toList), rfl, .of (by rw [upd_same, List.map_map]; rfl), ?_⟩
              have en : nmS y = ((List.range y.cps.size).map fun i => decide (y.cps.getD i 0 ∈ signs.cps.toList)).all id := by
                unfold nmS
                rw [decide_eq_true h1, decide_eq_true h2, decide_eq_true h3]
                rfl
              rw [← en]
              exact q' _ (same_new hD)
          · rw [decide_eq_false h3]
            have en : nmS y = false := by
              unfold nmS
              rw [decide_eq_false h3, Bool.false_and, Bool.and_false]
            refine iteF ?_
            rw [← en]
            exact q' _ (Same.refl _)
        · rw [decide_eq_false h2]
          have en : nmS y = false := by
            unfold nmS
            rw [decide_eq_false h2, Bool.and_false, Bool.false_and]
          refine iteT ?_
          show Q (.bl false) H
          rw [← en]
          exact q' _ (Same.refl _)
      · rw [decide_eq_false h1]
        have en : nmS y = false := by
          unfold nmS
          rw [decide_eq_false h1, Bool.false_and, Bool.false_and]
        refine iteF ⟨_, rfl, ?_⟩
        refine iteT ?_
        show Q (.bl false) H
        rw [← en]
        exact q' _ (Same.refl _)
    | _ => exact iteT (q _ (Same.refl _))
end

/-! ### events, steps, bad states as they stand -/
/-- the parts of a good event -/
inductive EvS : List V → Prop where
  | hang : EvS [.str hangE]
  | two {w n : Str} (hw : w ∈ wordsE) (hn : nmS n = true) (hl : n.length ≤ 8) : EvS [.str w, .str n]
  | three {w n : Str} {v : Int} (hw : w ∈ wordsE) (hn : nmS n = true) (hl : n.length ≤ 8) (hv : v.natAbs < 2 ^ 250) : EvS [.str w, .str n, .int v]
theorem same_seqT {K : PySem.W.Frag} {H H' : Hp} {a : Addr} {xs : List V} (s : Same H H') (h : SqT K H a xs) : SqT K H' a xs := by
  rcases h with (h | ⟨o, h⟩) | h
  · exact .inl (.inl (s _ _ h))
  · exact .inl (.inr ⟨o, s _ _ h⟩)
  · exact .inr h
/-- a step: its place, its state, its event's place and parts, its next state -/
structure Row where
  t : Addr
  b : Int
  e : Addr
  vs : List V
  l : Int
structure RowAt (H : Hp) (r : Row) : Prop where
  row : H r.t = some (.tup [.int r.b, .ref r.e, .int r.l])
  ev : H r.e = some (.tup r.vs)
  ok : EvS r.vs
  b0 : 0 ≤ r.b
  b1 : r.b ≤ 99
  l0 : 0 ≤ r.l
  l1 : r.l ≤ 99
theorem RowAt.same {H H' : Hp} {r : Row} (h : RowAt H r) (s : Same H H') : RowAt H' r := ⟨s _ _ h.row, s _ _ h.ev, h.ok, h.b0, h.b1, h.l0, h.l1⟩
theorem any_tuple {K : PySem.W.Frag} {H : Hp} {a : Addr} {xs : List V} (e : H a = some (.tup xs)) : ∃ t, TyX K H (.ref a) t ∧ PySem.W.kitOne K t (.type "tuple") = some true := ⟨_, .base (.tup e), kit_ty (by decide +kernel)⟩
section
variable {P : Program} {w : World} {K : PySem.W.Frag} {mg : Str → Option Value} {base : Heap}
def n_is_state : List Str := ["value"]
theorem sc_is_state : FnScope n_is_state ["value"] (defScope s_is_state) := ⟨rfl, rfl, rfl, by decide +kernel, rfl, by decide +kernel, by decide +kernel⟩
def spIsState (K : PySem.W.Frag) : Sp := fun vs H Q _ => ∃ x, vs = [x] ∧ AnyV K H x ∧ Q (.bl (stB x)) H
theorem ok_is_state (T : Txt K mg) (D : Dfn K mg "is_state" s_is_state ["value"]) (c_is_integer : CalF P w K mg base 1 "is_integer" ["value"] (spIsInt K)) :
    CalF P w K mg base 2 "is_state" ["value"] (spIsState K) := by
  refine D.okF sc_is_state (fun vs H Q E h => ?_) (fun f cdv A fr s H vs Q E hr h => ?_)
  · obtain ⟨x, rfl, _⟩ := h
    rfl
  · obtain ⟨x, rfl, ha, q⟩ := h
    refine ⟨_, pss_one (ps_ret (pe_and (pe_cF c_is_integer hr (by decide) rfl (pa_cons (pv 0) pa_nil)) (pe_one (pe_chain op_le op_le pe_int (pv 0) (C8.pe_gc rfl T.g_MAX_STATE))))), ?_⟩
    refine ⟨x, rfl, x, rfl, ha, isI x, rfl, ?_⟩
    cases x with
    | int n =>
      refine iteT ⟨_, rfl, _, _, rfl, rfl, _, rfl, ?_⟩
      by_cases h1 : 0 ≤ n
      · rw [decide_eq_true h1]
        refine iteT ⟨_, _, rfl, rfl, ?_⟩
        have e : stB (.int n) = decide (n ≤ 99) := by show (decide (0 ≤ n) && decide (n ≤ 99)) = _; rw [decide_eq_true h1]; rfl
        rw [e] at q
        exact q
      · rw [decide_eq_false h1]
        have e : stB (.int n) = false := by show (decide (0 ≤ n) && decide (n ≤ 99)) = _; rw [decide_eq_false h1]; rfl
        rw [e] at q
        exact iteF q
    | _ => exact iteF q
theorem stB_ok {n : Int} (h0 : 0 ≤ n) (h1 : n ≤ 99) : stB (.int n) = true := by
  show (decide (0 ≤ n) && decide (n ≤ 99)) = true
  rw [decide_eq_true h0, decide_eq_true h1]
  rfl
def n_is_event : List Str := ["value"]
theorem sc_is_event : FnScope n_is_event ["value"] (defScope s_is_event) := ⟨rfl, rfl, rfl, by decide +kernel, rfl, by decide +kernel, by decide +kernel⟩
def spIsEvent : Sp := fun vs H Q _ => ∃ (e : Addr) (xs : List V), vs = [.ref e] ∧ H e = some (.tup xs) ∧ EvS xs ∧ ∀ H', Same H H' → Q (.bl true) H'
theorem words_in {w : Str} (h : w ∈ wordsE) : inV (.str w) (wordsE.map V.str) = true := by
  unfold inV
  rw [List.any_eq_true]
  exact ⟨_, List.mem_map.mpr ⟨w, h, rfl⟩, by show (w == w) = true; exact beq_self_eq_true w⟩
theorem ok_is_event (T : Txt K mg) (D : Dfn K mg "is_event" s_is_event ["value"]) (c_is_integer : CalF P w K mg base 1 "is_integer" ["value"] (spIsInt K))
    (c_is_name : CalF P w K mg base 1 "is_name" ["value"] (spIsName K)) : CalF P w K mg base 2 "is_event" ["value"] spIsEvent := by
  refine D.okF sc_is_event (fun vs H Q E h => ?_) (fun f cdv A fr s H vs Q E hr h => ?_)
  · obtain ⟨e, xs, rfl, _⟩ := h
    rfl
  · obtain ⟨e, xs, rfl, he, ok, q⟩ := h
    obtain ⟨aW, gW, sW⟩ := T.g_WORDS
    obtain ⟨aH, gH, sH⟩ := T.g_HANG_EVENT
    obtain ⟨ty, ht, hk⟩ := any_tuple (K := K) he
    refine ⟨_, pss_cons (ps_if (PW.pt (pw_or (pt_not (pt_val (pe_callB call_isi rfl T.b_isinstance (by decide +kernel) (pa_cons (pv 0) (pa_cons (pe_bltn (v := .ty "tuple") (u := .type "tuple") rfl T.b_tuple (by decide +kernel) rfl) pa_nil))))) (pw_or1 (pt_not (pt_chain op_le op_le pe_int (pe_callB call_len rfl T.b_len (by decide +kernel) (pa_cons (pv 0) pa_nil)) pe_int)))))
        (pss_one (ps_ret pe_bl))
        (pss_nil))
      (pss_cons (ps_if (pt_not (pt_val (pe_callB call_isi rfl T.b_isinstance (by decide +kernel) (pa_cons (pe_ix ix_tup (pv 0) pe_int (fun _ _ => rfl)) (pa_cons (pe_bltn (v := .ty "str") (u := .type "str") rfl T.b_str (by decide +kernel) rfl) pa_nil)))))
        (pss_one (ps_ret pe_bl))
        (pss_nil))
      (pss_cons (ps_if (pt_cmpR op_eq (pe_callB call_len rfl T.b_len (by decide +kernel) (pa_cons (pv 0) pa_nil)) pe_int (nomark _))
        (pss_one (ps_ret (pe_cmpR (op_eqD hr.units) (pv 0) (C8.pe_gc rfl gH) (nomark _))))
        (pss_nil))
      (pss_cons (ps_if (PW.pt (pw_or (pt_cmpR op_notIn_seq (pe_ix ix_tup (pv 0) pe_int (fun _ _ => rfl)) (C8.pe_gc rfl gW) rfl) (pw_or1 (pt_not (pt_val (pe_cF c_is_name hr (by decide) rfl (pa_cons (pe_ix ix_tup (pv 0) pe_int (fun _ _ => rfl)) pa_nil)))))))
        (pss_one (ps_ret pe_bl))
        (pss_nil))
      (pss_one (ps_ret (pe_or (pe_cmpR op_eq (pe_callB call_len rfl T.b_len (by decide +kernel) (pa_cons (pv 0) pa_nil)) pe_int (nomark _)) (pe_one (pe_cF c_is_integer hr (by decide) rfl (pa_cons (pe_ix ix_tup (pv 0) pe_int (fun _ _ => rfl)) pa_nil))))))))), ?_⟩
    have sE : SqT K H e xs := .inl (.inl he)
    have kS : ∀ z : Str, PySem.W.kitOne K (.type "str") (.type "str") = some true := fun _ => kit_ty (by decide +kernel)
    refine ⟨_, rfl, _, _, ty, _, true, rfl, .ty "tuple", ht, hk, true, rfl, iteF ?_⟩
    cases ok with
    | hang =>
      refine ⟨_, rfl, _, 1, rfl, .inr ⟨_, sE, rfl⟩, _, _, rfl, rfl, true, rfl, iteT ⟨_, _, rfl, rfl, true, rfl, iteF ?_⟩⟩
      refine ⟨_, rfl, e, _, 0, _, rfl, rfl, sE, atI_nat (j := 0) rfl, _, _, _, _, true, rfl, .ty "str", .base (.str _), kS hangE, true, rfl, iteF ?_⟩
      refine ⟨_, rfl, _, 1, rfl, .inr ⟨_, sE, rfl⟩, rfl, true, rfl, iteT ?_⟩
      refine ⟨_, rfl, .tuple [.str hangE], .tuple [.str hangE], .tup sE (.cons (.str _) .nil), .tup (sH H) (.cons (.str _) .nil), by decide +kernel, by decide +kernel, ?_⟩
      exact q H (Same.refl _)
    | @two wd nm hw hn hl =>
      refine ⟨_, rfl, _, 2, rfl, .inr ⟨_, sE, rfl⟩, _, _, rfl, rfl, true, rfl, iteT ⟨_, _, rfl, rfl, true, rfl, iteF ?_⟩⟩
      refine ⟨_, rfl, e, _, 0, _, rfl, rfl, sE, atI_nat (j := 0) rfl, _, _, _, _, true, rfl, .ty "str", .base (.str _), kS wd, true, rfl, iteF ?_⟩
      refine ⟨_, rfl, _, 2, rfl, .inr ⟨_, sE, rfl⟩, rfl, false, rfl, iteF ?_⟩
      refine ⟨_, rfl, e, _, 0, _, rfl, rfl, sE, atI_nat (j := 0) rfl, aW, _, rfl, .inr (sW H), rfl, rfl, false, (by show V.bl (!inV (.str wd) (wordsE.map V.str)) = _; rw [words_in hw]; rfl), iteF ?_⟩
      refine ⟨_, rfl, e, _, 1, _, rfl, rfl, sE, atI_nat (j := 1) rfl, .str nm, rfl, any_str nm, (fun z ez => by cases ez; omega), fun H1 s1 => ?_⟩
      refine ⟨true, (by show V.bl (nmS nm) = _; rw [hn]), iteF ?_⟩
      refine ⟨_, rfl, _, 2, rfl, .inr ⟨_, same_seqT s1 sE, rfl⟩, rfl, true, rfl, iteT ?_⟩
      exact q H1 s1
    | @three wd nm v hw hn hl hv =>
      refine ⟨_, rfl, _, 3, rfl, .inr ⟨_, sE, rfl⟩, _, _, rfl, rfl, true, rfl, iteT ⟨_, _, rfl, rfl, true, rfl, iteF ?_⟩⟩
      refine ⟨_, rfl, e, _, 0, _, rfl, rfl, sE, atI_nat (j := 0) rfl, _, _, _, _, true, rfl, .ty "str", .base (.str _), kS wd, true, rfl, iteF ?_⟩
      refine ⟨_, rfl, _, 3, rfl, .inr ⟨_, sE, rfl⟩, rfl, false, rfl, iteF ?_⟩
      refine ⟨_, rfl, e, _, 0, _, rfl, rfl, sE, atI_nat (j := 0) rfl, aW, _, rfl, .inr (sW H), rfl, rfl, false, (by show V.bl (!inV (.str wd) (wordsE.map V.str)) = _; rw [words_in hw]; rfl), iteF ?_⟩
      refine ⟨_, rfl, e, _, 1, _, rfl, rfl, sE, atI_nat (j := 1) rfl, .str nm, rfl, any_str nm, (fun z ez => by cases ez; omega), fun H1 s1 => ?_⟩
      refine ⟨true, (by show V.bl (nmS nm) = _; rw [hn]), iteF ?_⟩
      refine ⟨_, rfl, _, 3, rfl, .inr ⟨_, same_seqT s1 sE, rfl⟩, rfl, false, rfl, iteF ?_⟩
      refine ⟨_, rfl, e, _, 2, _, rfl, rfl, same_seqT s1 sE, atI_nat (j := 2) rfl, .int v, rfl, any_int v, ?_⟩
      exact q H1 s1
end
end Jo

set_option Elab.async false
set_option linter.all false
set_option maxRecDepth 100000
set_option maxHeartbeats 400000
namespace Jo
open PySem PySem.Spec PyProof.Rows L2
abbrev s_init : Stmt := inClass (top 16) 0
abbrev s_rafter : Stmt := inClass (top 16) 1
abbrev s_next_state : Stmt := inClass (top 16) 2
abbrev s_eq : Stmt := inClass (top 16) 3
/-! ### the mathematics -/
/-- the pattern is the event's beginning -/
def fitsB (p h : List V) : Bool := decide (h.take p.length = p)
def nextS (L : List Row) (ms : List Int) (st : Int) (h : List V) : Int :=
  if st ∈ ms then st else match L.find? fun r => decide (r.b = st) && fitsB r.vs h with | some r => r.l | none => st
/-- flat values as data -/
def toD : V → PyData | .str z => .str z | .int i => .int i | _ => .none
def fl : V → Bool | .str z => PyData.strOk z | .int _ => true | _ => false
theorem eqv_toD {x y : V} (hx : fl x = true) (hy : fl y = true) : PyData.eqv (toD x) (toD y) = decide (x = y) := by
  cases x <;> cases y <;> first
    | (exfalso; cases hx; done)
    | (exfalso; cases hy; done)
    | (rename_i i j; show (i == j) = _; rw [Bool.eq_iff_iff]; simp; done)
    | (rename_i i j; show false = _; simp; done)
theorem eqvAll_toD : ∀ {xs ys : List V}, xs.all fl = true → ys.all fl = true → PyData.eqvAll (xs.map toD) (ys.map toD) = decide (xs = ys)
  | [], [], _, _ => by simp [PyData.eqvAll]
  | [], y :: ys, _, _ => by simp [PyData.eqvAll]
  | x :: xs, [], _, _ => by simp [PyData.eqvAll]
  | x :: xs, y :: ys, h1, h2 => by
    rw [List.all_cons, Bool.and_eq_true] at h1 h2
    show (PyData.eqv (toD x) (toD y) && PyData.eqvAll (xs.map toD) (ys.map toD)) = _
    rw [eqv_toD h1.1 h2.1, eqvAll_toD h1.2 h2.2, Bool.eq_iff_iff]
    simp
theorem dpAll_toD {K : PySem.W.Frag} {H : Hp} : ∀ {xs : List V}, xs.all fl = true → DpAll K H xs (xs.map toD)
  | [], _ => .nil
  | x :: xs, h => by
    rw [List.all_cons, Bool.and_eq_true] at h
    refine .cons ?_ (dpAll_toD h.2)
    cases x <;> first | (cases h.1; done) | exact .int _ | exact .str _
theorem depth_toD : ∀ xs : List V, PyData.depthAll (xs.map toD) = 0
  | [] => rfl
  | x :: xs => by
    show max (PyData.depth (toD x)) (PyData.depthAll (xs.map toD)) = 0
    rw [depth_toD xs]
    cases x <;> rfl
theorem lay_toD : ∀ {xs : List V}, xs.all fl = true → PyData.canLayAll0 (xs.map toD) = true
  | [], _ => rfl
  | x :: xs, h => by
    rw [List.all_cons, Bool.and_eq_true] at h
    show (PyData.canLay0 (toD x) && PyData.canLayAll0 (xs.map toD)) = true
    rw [lay_toD h.2, Bool.and_true]
    cases x <;> first | (cases h.1; done) | rfl | exact h.1
theorem shaped_toD {xs : List V} (h : xs.all fl = true) : SeqAt.shaped (.tuple (xs.map toD)) = true := by
  show (PyData.canLayAll0 (xs.map toD) && decide (PyData.depthAll (xs.map toD) + 1 ≤ 64)) = true
  rw [lay_toD h, depth_toD]
  rfl
theorem all_take {xs : List V} {n : Nat} (h : xs.all fl = true) : (xs.take n).all fl = true := by
  rw [List.all_eq_true] at h ⊢
  exact fun x hx => h x (List.mem_of_mem_take hx)
theorem PyData.strOk_nm {z : Str} (h : nmS z = true) : PyData.strOk z = true := by
  unfold nmS at h
  rw [Bool.and_eq_true, Bool.and_eq_true (b := (List.map _ _).all id)] at h
  have h2 := h.2.2
  rw [List.all_eq_true] at h2
  unfold PyData.strOk
  rw [Array.all_eq_true]
  intro i hi
  have h3 := h2 (decide (z.cps.getD i 0 ∈ signs.cps.toList)) (List.mem_map.mpr ⟨i, List.mem_range.mpr hi, rfl⟩)
  have h4 : z.cps.getD i 0 ∈ signs.cps.toList := of_decide_eq_true h3
  have h5 : z.cps.getD i 0 = z.cps[i] := by simp [Array.getD_eq_getD_getElem?, hi]
  rw [h5] at h4
  have h6 : ∀ c ∈ signs.cps.toList, c < 0x110000 := by decide +kernel
  exact decide_eq_true (h6 _ h4)
theorem EvS.fl {xs : List V} (h : EvS xs) : xs.all fl = true := by
  have hw : ∀ w ∈ wordsE, PyData.strOk w = true := by decide +kernel
  cases h with
  | hang => decide +kernel
  | two h1 h2 h3 => simp [Jo.fl, hw _ h1, PyData.strOk_nm h2]
  | three h1 h2 h3 h4 => simp [Jo.fl, hw _ h1, PyData.strOk_nm h2]
theorem EvS.len {xs : List V} (h : EvS xs) : xs.length ≤ 3 := by cases h <;> simp
theorem cut_take (xs : List V) (n : Nat) : cutV xs none (some (n : Int)) = xs.take n := by
  unfold cutV
  rw [HT.sIx_none, HT.sIx_nat, List.drop_zero, Nat.sub_zero]
  by_cases h : n ≤ xs.length
  · rw [Nat.min_eq_left h]
  · rw [Nat.min_eq_right (by omega), List.take_of_length_le (Nat.le_refl _), List.take_of_length_le (by omega)]
/-- a rule as it stands -/
structure RuleAt (C : Addr) (H : Hp) (o S M : Addr) (L : List Row) (ms : List Int) : Prop where
  ob : ∃ dx, H o = some (.ins C dx (putF "bad" (.ref M) (putF "steps" (.ref S) [])))
  st : H S = some (.tup (L.map fun r => .ref r.t))
  bd : H M = some (.tup (ms.map V.int))
  rows : ∀ r ∈ L, RowAt H r
theorem RuleAt.same {C : Addr} {H H' : Hp} {o S M : Addr} {L : List Row} {ms : List Int} (h : RuleAt C H o S M L ms) (s : Same H H') : RuleAt C H' o S M L ms :=
  ⟨let ⟨dx, e⟩ := h.ob; ⟨dx, s _ _ e⟩, s _ _ h.st, s _ _ h.bd, fun r hr => (h.rows r hr).same s⟩
theorem kSB : ¬ (("steps" : Str) = "bad") := by decide +kernel
theorem fld_steps (S M : Addr) : (putF "bad" (.ref M) (putF "steps" (.ref S) []) : List (Str × V)).lookup ("steps" : Str) = some (.ref S) := by
  rw [lookup_putF, if_neg kSB, lookup_putF, if_pos rfl]
theorem fld_bad (S M : Addr) : (putF "bad" (.ref M) (putF "steps" (.ref S) []) : List (Str × V)).lookup ("bad" : Str) = some (.ref M) := by
  rw [lookup_putF, if_pos rfl]
theorem fld_no (S M : Addr) {m : Str} (h1 : ¬ m = "bad") (h2 : ¬ m = "steps") : (putF "bad" (.ref M) (putF "steps" (.ref S) []) : List (Str × V)).lookup m = none := by
  rw [lookup_putF, if_neg h1, lookup_putF, if_neg h2]
  all_goals rfl
section
variable {P : Program} {w : World} {K : PySem.W.Frag} {mg : Str → Option Value} {base : Heap}
def n_is_full_event : List Str := ["value"]
theorem sc_is_full_event : FnScope n_is_full_event ["value"] (defScope s_is_full_event) := ⟨rfl, rfl, rfl, by decide +kernel, rfl, by decide +kernel, by decide +kernel⟩
def spIsFull : Sp := fun vs H Q _ => ∃ (e : Addr) (xs : List V), vs = [.ref e] ∧ H e = some (.tup xs) ∧ EvS xs ∧ xs.length ≠ 2 ∧ ∀ H', Same H H' → Q (.bl true) H'
theorem ok_is_full_event (T : Txt K mg) (D : Dfn K mg "is_full_event" s_is_full_event ["value"]) (c_is_event : CalF P w K mg base 2 "is_event" ["value"] spIsEvent) :
    CalF P w K mg base 3 "is_full_event" ["value"] spIsFull := by
  refine D.okF sc_is_full_event (fun vs H Q E h => ?_) (fun f cdv A fr s H vs Q E hr h => ?_)
  · obtain ⟨e, xs, rfl, _⟩ := h
    rfl
  · obtain ⟨e, xs, rfl, he, ok, hne, q⟩ := h
    refine ⟨_, pss_one (ps_ret (pe_and (pe_cF c_is_event hr (by decide) rfl (pa_cons (pv 0) pa_nil)) (pe_one (pe_cmpR op_ne (pe_callB call_len rfl T.b_len (by decide +kernel) (pa_cons (pv 0) pa_nil)) pe_int (nomark _))))), ?_⟩
    refine ⟨_, rfl, e, xs, rfl, he, ok, fun H1 s1 => ⟨true, rfl, iteT ?_⟩⟩
    refine ⟨_, rfl, _, xs.length, rfl, .inr ⟨_, .inl (.inl (s1 _ _ he)), rfl⟩, rfl, ?_⟩
    have hn : decide (V.int (xs.length : Int) = V.int 2) = false := decide_eq_false fun z => hne (by have := V.int.inj z; omega)
    rw [hn]
    exact q H1 s1
def n_is_step : List Str := ["value", "before", "event", "behind"]
theorem sc_is_step : FnScope n_is_step ["value"] (defScope s_is_step) := ⟨rfl, rfl, rfl, by decide +kernel, rfl, by decide +kernel, by decide +kernel⟩
def spIsStep : Sp := fun vs H Q _ => ∃ r : Row, vs = [.ref r.t] ∧ RowAt H r ∧ ∀ H', Same H H' → Q (.bl true) H'
theorem ok_is_step (T : Txt K mg) (D : Dfn K mg "is_step" s_is_step ["value"]) (c_is_event : CalF P w K mg base 2 "is_event" ["value"] spIsEvent) (c_is_state : CalF P w K mg base 2 "is_state" ["value"] (spIsState K)) :
    CalF P w K mg base 3 "is_step" ["value"] spIsStep := by
  refine D.okF sc_is_step (fun vs H Q E h => ?_) (fun f cdv A fr s H vs Q E hr h => ?_)
  · obtain ⟨r, rfl, _⟩ := h
    rfl
  · obtain ⟨r, rfl, R, q⟩ := h
    obtain ⟨ty, ht, hk⟩ := any_tuple (K := K) R.row
    have sT : SqT K H r.t [.int r.b, .ref r.e, .int r.l] := .inl (.inl R.row)
    refine ⟨_, pss_cons (ps_if (PW.pt (pw_or (pt_not (pt_val (pe_callB call_isi rfl T.b_isinstance (by decide +kernel) (pa_cons (pv 0) (pa_cons (pe_bltn (v := .ty "tuple") (u := .type "tuple") rfl T.b_tuple (by decide +kernel) rfl) pa_nil))))) (pw_or1 (pt_cmpR op_ne (pe_callB call_len rfl T.b_len (by decide +kernel) (pa_cons (pv 0) pa_nil)) pe_int (nomark _)))))
        (pss_one (ps_ret pe_bl))
        (pss_nil))
      (pss_cons (ps_asg (pv 0) (pg_tup rfl (pgs_cons (pg_name (i := 1) sc_is_step.nd rfl (.inl rfl)) (pgs_cons (pg_name (i := 2) sc_is_step.nd rfl (.inl rfl)) (pgs_cons (pg_name (i := 3) sc_is_step.nd rfl (.inl rfl)) pgs_nil)))))
      (pss_one (ps_ret (pe_and (pe_cF c_is_state hr (by decide) rfl (pa_cons (pv 1) pa_nil)) (pe_and (pe_cF c_is_event hr (by decide) rfl (pa_cons (pv 2) pa_nil)) (pe_one (pe_cF c_is_state hr (by decide) rfl (pa_cons (pv 3) pa_nil)))))))), ?_⟩
    refine ⟨_, rfl, _, _, ty, _, true, rfl, .ty "tuple", ht, hk, true, rfl, iteF ?_⟩
    refine ⟨_, rfl, _, 3, rfl, .inr ⟨_, sT, rfl⟩, rfl, false, rfl, iteF ?_⟩
    refine ⟨_, rfl, r.t, _, rfl, sT, rfl, _, _, rfl, _, _, rfl, _, _, rfl, rfl, ?_⟩
    refine ⟨_, rfl, .int r.b, rfl, any_int _, true, (by rw [stB_ok R.b0 R.b1]), iteT ?_⟩
    refine ⟨_, rfl, r.e, r.vs, rfl, R.ev, R.ok, fun H1 s1 => ⟨true, rfl, iteT ?_⟩⟩
    refine ⟨_, rfl, .int r.l, rfl, any_int _, ?_⟩
    rw [stB_ok R.l0 R.l1]
    exact q H1 s1
def n_check_steps : List Str := ["steps", "index", "step"]
theorem sc_check_steps : FnScope n_check_steps ["steps"] (defScope s_check_steps) := ⟨rfl, rfl, rfl, by decide +kernel, rfl, by decide +kernel, by decide +kernel⟩
def spCheckSteps : Sp := fun vs H Q _ => ∃ (S : Addr) (L : List Row), vs = [.ref S] ∧ H S = some (.tup (L.map fun r => .ref r.t)) ∧ (∀ r ∈ L, RowAt H r) ∧ ∀ H', Same H H' → Q .non H'
theorem ok_check_steps (T : Txt K mg) (D : Dfn K mg "check_steps" s_check_steps ["steps"]) (c_is_step : CalF P w K mg base 3 "is_step" ["value"] spIsStep) :
    CalF P w K mg base 4 "check_steps" ["steps"] spCheckSteps := by
  refine D.okF sc_check_steps (fun vs H Q E h => ?_) (fun f cdv A fr s H vs Q E hr h => ?_)
  · obtain ⟨S, L, rfl, _⟩ := h
    rfl
  · obtain ⟨S, L, rfl, hS, hL, q⟩ := h
    obtain ⟨ty, ht, hk⟩ := any_tuple (K := K) hS
    have sT : SqT K H S (L.map fun r => V.ref r.t) := .inl (.inl hS)
    refine ⟨_, pss_cons (ps_if (pt_not (pt_val (pe_callB call_isi rfl T.b_isinstance (by decide +kernel) (pa_cons (pv 0) (pa_cons (pe_bltn (v := .ty "tuple") (u := .type "tuple") rfl T.b_tuple (by decide +kernel) rfl) pa_nil)))))
        (pss_one ps_never)
        (pss_nil))
      (pss_one (ps_for PassesOwn.never rfl (pi_enumT rfl T.b_enumerate (pa_cons (pv 0) pa_nil)) (pg_tup rfl (pgs_cons (pg_name (i := 1) sc_check_steps.nd rfl (.inl rfl)) (pgs_cons (pg_name (i := 2) sc_check_steps.nd rfl (.inl rfl)) pgs_nil)))
        (pss_one (ps_if (pt_not (pt_val (pe_cF c_is_step hr (by decide) rfl (pa_cons (pv 2) pa_nil))))
            (pss_one ps_never)
            (pss_nil))))), ?_⟩
    refine ⟨_, rfl, _, _, ty, _, true, rfl, .ty "tuple", ht, hk, true, rfl, iteF ?_⟩
    refine ⟨_, rfl, S, _, rfl, sT, for_it walk_enumT (fun i σ H1 => Same H H1 ∧ ∃ y1 y2 : Option V, σ = [some (.ref S), y1, y2]) ⟨Same.refl _, _, _, rfl⟩ (fun i σ H1 _ hp => same_seqT hp.1 sT) (fun i x σ H1 H1' hi hp hy => ?_) (fun σ H1 hp => ?_)⟩
    · obtain ⟨s1, y1, y2, rfl⟩ := hp
      obtain ⟨Tp, a, b, rfl, hT, rfl, ea, eb⟩ := hy
      have eb2 : (L.map fun r => V.ref r.t)[i]? = some b := eb
      rw [List.getElem?_map] at eb2
      obtain ⟨r, hr2, rfl⟩ := Option.map_eq_some_iff.mp eb2
      have s2 := s1.trans (same_new (o := .tup [a, V.ref r.t]) hT)
      refine ⟨Tp, _, rfl, .inl (.inl upd_same), rfl, _, _, rfl, _, _, rfl, rfl, ?_⟩
      refine ⟨_, rfl, r, rfl, (hL r (List.mem_of_getElem? hr2)).same s2, fun H3 s3 => ⟨true, rfl, iteF ?_⟩⟩
      exact ⟨s2.trans s3, _, _, rfl⟩
    · obtain ⟨s1, y1, y2, rfl⟩ := hp
      exact q H1 s1
def n_check_bad : List Str := ["bad", "index", "state"]
theorem sc_check_bad : FnScope n_check_bad ["bad"] (defScope s_check_bad) := ⟨rfl, rfl, rfl, by decide +kernel, rfl, by decide +kernel, by decide +kernel⟩
/-- good bad states -/
structure MsOk (ms : List Int) : Prop where
  nd : ms.Nodup
  in_ : ∀ m ∈ ms, 0 ≤ m ∧ m ≤ 99
def spCheckBad : Sp := fun vs H Q _ => ∃ (M : Addr) (ms : List Int), vs = [.ref M] ∧ H M = some (.tup (ms.map V.int)) ∧ MsOk ms ∧ ∀ H', Same H H' → Q .non H'
theorem notin_take : ∀ {ms : List Int} {i : Nat} {m : Int}, ms.Nodup → ms[i]? = some m → inV (.int m) ((ms.take i).map V.int) = false := by
  intro ms i m hn hm
  unfold inV
  rw [List.any_eq_false]
  intro x hx
  obtain ⟨k, hk, rfl⟩ := List.mem_map.mp hx
  show ¬ (k == m) = true
  intro e
  have e2 : k = m := by simpa using e
  subst e2
  obtain ⟨j, hj, hjk⟩ := List.mem_take_iff_getElem.mp hk
  obtain ⟨hi, hik⟩ := List.getElem?_eq_some_iff.mp hm
  have := (List.getElem_inj hn).mp (hjk.trans hik.symm)
  omega
theorem ok_check_bad (T : Txt K mg) (D : Dfn K mg "check_bad" s_check_bad ["bad"]) (c_is_state : CalF P w K mg base 2 "is_state" ["value"] (spIsState K)) :
    CalF P w K mg base 4 "check_bad" ["bad"] spCheckBad := by
  refine D.okF sc_check_bad (fun vs H Q E h => ?_) (fun f cdv A fr s H vs Q E hr h => ?_)
  · obtain ⟨M, ms, rfl, _⟩ := h
    rfl
  · obtain ⟨M, ms, rfl, hM, ok, q⟩ := h
    obtain ⟨ty, ht, hk⟩ := any_tuple (K := K) hM
    have sT : SqT K H M (ms.map V.int) := .inl (.inl hM)
    refine ⟨_, pss_cons (ps_if (pt_not (pt_val (pe_callB call_isi rfl T.b_isinstance (by decide +kernel) (pa_cons (pv 0) (pa_cons (pe_bltn (v := .ty "tuple") (u := .type "tuple") rfl T.b_tuple (by decide +kernel) rfl) pa_nil)))))
        (pss_one ps_never)
        (pss_nil))
      (pss_one (ps_for PassesOwn.never rfl (pi_enumT rfl T.b_enumerate (pa_cons (pv 0) pa_nil)) (pg_tup rfl (pgs_cons (pg_name (i := 1) sc_check_bad.nd rfl (.inl rfl)) (pgs_cons (pg_name (i := 2) sc_check_bad.nd rfl (.inl rfl)) pgs_nil)))
        (pss_one (ps_if (PW.pt (pw_or (pt_not (pt_val (pe_cF c_is_state hr (by decide) rfl (pa_cons (pv 2) pa_nil)))) (pw_or1 (pt_cmpR op_in_seq (pv 2) (pe_slice sl_tupA (pv 0) po_none (po_some (pv 1))) rfl))))
            (pss_one ps_never)
            (pss_nil))))), ?_⟩
    refine ⟨_, rfl, _, _, ty, _, true, rfl, .ty "tuple", ht, hk, true, rfl, iteF ?_⟩
    refine ⟨_, rfl, M, _, rfl, sT, for_it walk_enumT (fun i σ H1 => Same H H1 ∧ ∃ y1 y2 : Option V, σ = [some (.ref M), y1, y2]) ⟨Same.refl _, _, _, rfl⟩ (fun i σ H1 _ hp => same_seqT hp.1 sT) (fun i x σ H1 H1' hi hp hy => ?_) (fun σ H1 hp => ?_)⟩
    · obtain ⟨s1, y1, y2, rfl⟩ := hp
      obtain ⟨Tp, a, b, rfl, hT, rfl, ea, eb⟩ := hy
      have eb2 : (ms.map V.int)[i]? = some b := eb
      rw [List.getElem?_map] at eb2
      obtain ⟨m, hm, rfl⟩ := Option.map_eq_some_iff.mp eb2
      have ea2 : a = V.int (i : Int) := (Option.some.inj ea).symm
      subst ea2
      have s2 := s1.trans (same_new (o := .tup [V.int (i : Int), V.int m]) hT)
      have hm2 := ok.in_ m (List.mem_of_getElem? hm)
      have flat : ∀ ks : List Int, (ks.map V.int).all flatV = true := fun ks => by
        rw [List.all_eq_true]
        intro x hx
        obtain ⟨k, _, rfl⟩ := List.mem_map.mp hx
        rfl
      have cut : cutV (ms.map V.int) none (some (i : Int)) = (ms.take i).map V.int := by rw [cut_take, List.map_take]
      refine ⟨Tp, _, rfl, .inl (.inl upd_same), rfl, _, _, rfl, _, _, rfl, rfl, ?_⟩
      refine ⟨_, rfl, .int m, rfl, any_int m, true, (by rw [stB_ok hm2.1 hm2.2]), iteF ?_⟩
      refine ⟨_, rfl, _, rfl, _, rfl, (i : Int), rfl, M, _, rfl, same_seqT s2 sT, fun hw => ?_, fun hw p hp => ?_⟩
      · refine absurd hw.2 ?_
        rw [HT.sIx_nat]
        rw [List.length_map] at hi ⊢
        omega
      · rw [cut]
        refine ⟨p, _, rfl, .inr (.inl (.inl upd_same)), rfl, flat _, false, (by rw [notin_take ok.nd hm]; rfl), iteF ?_⟩
        exact ⟨s2.trans (same_new hp), _, _, rfl⟩
    · obtain ⟨s1, y1, y2, rfl⟩ := hp
      exact q H1 s1
def n_fits : List Str := ["pattern", "event"]
theorem sc_fits : FnScope n_fits ["pattern", "event"] (defScope s_fits) := ⟨rfl, rfl, rfl, by decide +kernel, rfl, by decide +kernel, by decide +kernel⟩
def spFits : Sp := fun vs H Q _ => ∃ (p e : Addr) (ps es : List V), vs = [.ref p, .ref e] ∧ H p = some (.tup ps) ∧ H e = some (.tup es) ∧ ps.all fl = true ∧ es.all fl = true ∧ ∀ H', Same H H' → Q (.bl (fitsB ps es)) H'
theorem ok_fits (T : Txt K mg) (D : Dfn K mg "fits" s_fits ["pattern", "event"]) : CalF P w K mg base 1 "fits" ["pattern", "event"] spFits := by
  refine D.okF sc_fits (fun vs H Q E h => ?_) (fun f cdv A fr s H vs Q E hr h => ?_)
  · obtain ⟨p, e, ps, es, rfl, _⟩ := h
    rfl
  · obtain ⟨p, e, ps, es, rfl, hp, he, fp, fe, q⟩ := h
    have sP : SqT K H p ps := .inl (.inl hp)
    have sE : SqT K H e es := .inl (.inl he)
    refine ⟨_, pss_one (ps_ret (pe_cmpR (op_eqD hr.units) (pe_slice sl_tupA (pv 1) po_none (po_some (pe_callB call_len rfl T.b_len (by decide +kernel) (pa_cons (pv 0) pa_nil)))) (pv 0) (nomark _))), ?_⟩
    have fin : ∀ (a : Addr) (H1 : Hp), Same H H1 → SqT K H1 a (es.take ps.length) → ∃ v, some (some (V.ref p)) = some (some v) ∧ rEqD K (.ref a) v H1 Q := fun a H1 s1 ha => by
      refine ⟨_, rfl, _, _, .tup ha (dpAll_toD (all_take fe)), .tup (same_seqT s1 sP) (dpAll_toD fp), shaped_toD (all_take fe), shaped_toD fp, ?_⟩
      show Q (.bl (PyData.eqvAll ((es.take ps.length).map toD) (ps.map toD))) H1
      rw [eqvAll_toD (all_take fe) fp]
      exact q H1 s1
    refine ⟨_, rfl, _, rfl, _, ps.length, rfl, .inr ⟨_, sP, rfl⟩, _, rfl, e, es, rfl, sE, fun hw => ?_, fun hw a ha => ?_⟩
    · refine fin e H (Same.refl _) ?_
      have h2 := hw.2
      rw [HT.sIx_nat] at h2
      rw [List.take_of_length_le (by omega)]
      exact sE
    · rw [cut_take]
      exact fin a _ (same_new ha) (.inl (.inl upd_same))
end
end Jo

set_option Elab.async false
set_option linter.all false
set_option maxRecDepth 100000
set_option maxHeartbeats 400000
namespace Jo
open PySem PySem.Spec PyProof.Rows L2
/-! ### data of rules -/
def rowD (r : Row) : PyData := .tuple [.int r.b, .tuple (r.vs.map toD), .int r.l]
def stepsD (L : List Row) : PyData := .tuple (L.map rowD)
def marksD (ms : List Int) : PyData := .tuple ((ms.map V.int).map toD)
theorem fl_ints (ms : List Int) : (ms.map V.int).all fl = true := by
  rw [List.all_eq_true]
  intro x hx
  obtain ⟨k, _, rfl⟩ := List.mem_map.mp hx
  rfl
theorem rowD_ok {vs : List V} (h : vs.all fl = true) (b l : Int) : PyData.canLay0 (.tuple [.int b, .tuple (vs.map toD), .int l]) = true ∧ PyData.depth (.tuple [.int b, .tuple (vs.map toD), .int l]) = 2 := by
  constructor
  · show (true && (PyData.canLayAll0 (vs.map toD) && (true && true))) = true
    rw [lay_toD h]
    rfl
  · show max 0 (max (PyData.depthAll (vs.map toD) + 1) (max 0 0)) + 1 = 2
    rw [depth_toD]
    rfl
theorem rowsD_ok : ∀ {L : List Row}, (∀ r ∈ L, r.vs.all fl = true) → PyData.canLayAll0 (L.map rowD) = true ∧ PyData.depthAll (L.map rowD) ≤ 2
  | [], _ => ⟨rfl, Nat.zero_le _⟩
  | r :: L, h => by
    obtain ⟨a1, a2⟩ := rowsD_ok (L := L) fun q hq => h q (List.mem_cons_of_mem _ hq)
    obtain ⟨b1, b2⟩ := rowD_ok (h r List.mem_cons_self) r.b r.l
    constructor
    · show (PyData.canLay0 (rowD r) && PyData.canLayAll0 (L.map rowD)) = true
      rw [a1, Bool.and_true]
      exact b1
    · show max (PyData.depth (rowD r)) (PyData.depthAll (L.map rowD)) ≤ 2
      exact Nat.max_le.mpr ⟨Nat.le_of_eq b2, a2⟩
theorem shaped_steps {L : List Row} (h : ∀ r ∈ L, r.vs.all fl = true) : SeqAt.shaped (stepsD L) = true := by
  obtain ⟨a1, a2⟩ := rowsD_ok h
  show (PyData.canLayAll0 (L.map rowD) && decide (PyData.depthAll (L.map rowD) + 1 ≤ 64)) = true
  rw [a1, decide_eq_true (by omega)]
  rfl
theorem shaped_marks (ms : List Int) : SeqAt.shaped (marksD ms) = true := shaped_toD (fl_ints ms)
theorem dp_rows {K : PySem.W.Frag} {H : Hp} : ∀ {L : List Row}, (∀ r ∈ L, RowAt H r) → DpAll K H (L.map fun r => .ref r.t) (L.map rowD)
  | [], _ => .nil
  | r :: L, h => by
    have R := h r List.mem_cons_self
    exact .cons (.tup (.inl (.inl R.row)) (.cons (.int _) (.cons (.tup (.inl (.inl R.ev)) (dpAll_toD R.ok.fl)) (.cons (.int _) .nil)))) (dp_rows fun q hq => h q (List.mem_cons_of_mem _ hq))
theorem rows_fl {H : Hp} {L : List Row} (h : ∀ r ∈ L, RowAt H r) : ∀ r ∈ L, r.vs.all fl = true := fun r hr => (h r hr).ok.fl
/-- what the class is, as the top has made it -/
structure RTxt (K : PySem.W.Frag) (mg : Str → Option Value) (C : Addr) : Prop where
  cl : Cls K C
  nS : NoAttr K C "steps"
  nB : NoAttr K C "bad"
  mgC : mg "Rule" = some (.ref C)
  c1 : PySem.W.findIn K (.ref C) "__class__" = some (some (.builtin "object.__class__"))
  c2 : PySem.W.specialIn K (.builtin "object.__class__") "__get__" = some (some (.builtin "getset_descriptor.__get__"))
  c3 : PySem.W.takesIn K (.builtin "object.__class__") = some true
  c4 : PySem.W.mroIn K C (.type "object") = some true
  k1 : PySem.W.kitOne K (.type "tuple") (.ref C) = some false
  k2 : PySem.W.kitOne K (.type "NoneType") (.ref C) = some false
  k3 : PySem.W.kitOne K (.type "bool") (.ref C) = some false
  k4 : PySem.W.kitOne K (.type "int") (.ref C) = some false
  k5 : PySem.W.kitOne K (.type "str") (.ref C) = some false
theorem RTxt.ty {K : PySem.W.Frag} {mg : Str → Option Value} {C : Addr} (T : RTxt K mg C) {H : Hp} {o S M : Addr} {L : List Row} {ms : List Int} (R : RuleAt C H o S M L ms) : TyX K H (.ref o) (.ref C) :=
  let ⟨_, e⟩ := R.ob; .base (.ins e T.cl T.c1 T.c2 T.c3 T.c4)
section
variable {P : Program} {w : World} {K : PySem.W.Frag} {mg : Str → Option Value} {base : Heap} {C : Addr}
def n_init : List Str := ["self", "steps", "bad"]
theorem sc_init : FnScope n_init ["self", "steps", "bad"] (defScope s_init) := ⟨rfl, rfl, rfl, by decide +kernel, rfl, by decide +kernel, by decide +kernel⟩
def spInit (C : Addr) : Sp := fun vs H Q _ => ∃ (o dx S M : Addr) (L : List Row) (ms : List Int), vs = [.ref o, .ref S, .ref M] ∧ H o = some (.ins C dx []) ∧
  H S = some (.tup (L.map fun r => .ref r.t)) ∧ H M = some (.tup (ms.map V.int)) ∧ (∀ r ∈ L, RowAt H r) ∧ MsOk ms ∧
  ∀ H', RuleAt C H' o S M L ms → (∀ b x, H b = some x → b ≠ o → H' b = some x) → Q .non H'
theorem ok_init (T : Txt K mg) (R : RTxt K mg C) (D : Mth K C "__init__" "Rule.__init__" s_init ["self", "steps", "bad"])
    (c_check_steps : CalF P w K mg base 4 "check_steps" ["steps"] spCheckSteps) (c_check_bad : CalF P w K mg base 4 "check_bad" ["bad"] spCheckBad) :
    MtF P w K mg base 5 C "__init__" ["self", "steps", "bad"] (spInit C) := by
  refine D.okF sc_init (fun vs H Q E h => ?_) (fun f cdv A fr s H vs Q E hr h => ?_)
  · obtain ⟨o, dx, S, M, L, ms, rfl, _⟩ := h
    rfl
  · obtain ⟨o, dx, S, M, L, ms, rfl, ho, hS, hM, hL, okM, q⟩ := h
    refine ⟨_, pss_cons (ps_expr (pe_cF c_check_steps hr (by decide) rfl (pa_cons (pv 1) pa_nil)))
      (pss_cons (ps_expr (pe_cF c_check_bad hr (by decide) rfl (pa_cons (pv 2) pa_nil)))
      (pss_cons (ps_fld (pv 0) (pv 1) rfl)
      (pss_one (ps_fld (pv 0) (pv 2) rfl)))), ?_⟩
    refine ⟨_, rfl, S, L, rfl, hS, hL, fun H1 s1 => ?_⟩
    refine ⟨_, rfl, M, ms, rfl, s1 _ _ hM, okM, fun H2 s2 => ?_⟩
    have s3 := s1.trans s2
    have noS : S ≠ o := ne_of hS ho (by intro z; cases z)
    have noM : M ≠ o := ne_of hM ho (by intro z; cases z)
    refine ⟨_, rfl, _, rfl, o, C, dx, [], rfl, s3 _ _ ho, R.cl, R.nS, (by show 0 < 1000; decide), _, rfl, _, rfl, o, C, dx, _, rfl, upd_same, R.cl, R.nB, (by show 1 < 1000; decide), ?_⟩
    have keep : ∀ (v1 v2 : HO) b x, H b = some x → b ≠ o → (upd (upd H2 o v1) o v2) b = some x := fun v1 v2 b x e n => by
      rw [upd_ne n, upd_ne n]
      exact s3 _ _ e
    refine q _ ⟨⟨dx, upd_same⟩, keep _ _ _ _ hS noS, keep _ _ _ _ hM noM, fun r hr2 => ?_⟩ (keep _ _)
    have Rr := hL r hr2
    exact ⟨keep _ _ _ _ Rr.row (ne_of Rr.row ho (by intro z; cases z)), keep _ _ _ _ Rr.ev (ne_of Rr.ev ho (by intro z; cases z)), Rr.ok, Rr.b0, Rr.b1, Rr.l0, Rr.l1⟩
def n_next_state : List Str := ["self", "state", "event", "before", "pattern", "behind"]
theorem sc_next_state : FnScope n_next_state ["self", "state", "event"] (defScope s_next_state) := ⟨rfl, rfl, rfl, by decide +kernel, rfl, by decide +kernel, by decide +kernel⟩
def spNext (C : Addr) : Sp := fun vs H Q _ => ∃ (o S M e : Addr) (L : List Row) (ms : List Int) (st : Int) (es : List V), vs = [.ref o, .int st, .ref e] ∧ RuleAt C H o S M L ms ∧ H e = some (.tup es) ∧ es.all fl = true ∧
  ∀ H', Same H H' → Q (.int (nextS L ms st es)) H'
theorem in_ints (st : Int) (ms : List Int) : inV (.int st) (ms.map V.int) = decide (st ∈ ms) := by
  unfold inV
  rw [List.any_map, Bool.eq_iff_iff, List.any_eq_true, decide_eq_true_iff]
  constructor
  · rintro ⟨x, hx, h⟩
    have h2 : (x == st) = true := h
    have h3 : x = st := by simpa using h2
    rw [← h3]
    exact hx
  · intro h
    exact ⟨st, h, by show (st == st) = true; simp⟩
theorem flat_ints (ks : List Int) : (ks.map V.int).all flatV = true := by
  rw [List.all_eq_true]
  intro x hx
  obtain ⟨k, _, rfl⟩ := List.mem_map.mp hx
  rfl
theorem ok_next_state (T : Txt K mg) (R : RTxt K mg C) (D : Mth K C "next_state" "Rule.next_state" s_next_state ["self", "state", "event"]) (c_fits : CalF P w K mg base 1 "fits" ["pattern", "event"] spFits) :
    MtF P w K mg base 2 C "next_state" ["self", "state", "event"] (spNext C) := by
  refine D.okF sc_next_state (fun vs H Q E h => ?_) (fun f cdv A fr s H vs Q E hr h => ?_)
  · obtain ⟨o, S, M, e, L, ms, st, es, rfl, _⟩ := h
    rfl
  · obtain ⟨o, S, M, e, L, ms, st, es, rfl, RA, he, fe, q⟩ := h
    obtain ⟨dx, ho⟩ := RA.ob
    refine ⟨_, pss_cons (ps_if (pt_cmpR op_in_seq (pv 1) (pe_fld (pv 0) rfl) rfl)
        (pss_one (ps_ret (pv 1)))
        (pss_nil))
      (pss_cons (ps_for PassesOwn.never rfl (pi_tup (pe_fld (pv 0) rfl)) (pg_tup rfl (pgs_cons (pg_name (i := 3) sc_next_state.nd rfl (.inl rfl)) (pgs_cons (pg_name (i := 4) sc_next_state.nd rfl (.inl rfl)) (pgs_cons (pg_name (i := 5) sc_next_state.nd rfl (.inl rfl)) pgs_nil))))
        (pss_one (ps_if (PW.pt (pw_and (pt_cmpR op_eq (pv 3) (pv 1) (nomark _)) (pw_and1 (pt_val (pe_cF c_fits hr (by decide) rfl (pa_cons (pv 4) (pa_cons (pv 2) pa_nil)))))))
            (pss_one (ps_ret (pv 5)))
            (pss_nil))))
      (pss_one (ps_ret (pv 1)))), ?_⟩
    refine ⟨_, rfl, _, rfl, o, C, dx, _, _, rfl, ho, R.cl, R.nB, fld_bad _ _, M, _, rfl, .inr (.inl (.inl RA.bd)), rfl, flat_ints ms, ?_⟩
    rw [in_ints]
    refine ⟨_, rfl, ite2 (fun hm => ?_) (fun hm => ?_)⟩
    · have e1 : nextS L ms st es = st := by
        unfold nextS
        rw [if_pos (of_decide_eq_true hm)]
      rw [e1] at q
      exact ⟨_, rfl, q H (Same.refl _)⟩
    · have hm2 : st ∉ ms := fun z => hm (decide_eq_true z)
      have sS : SqT K H S (L.map fun r => .ref r.t) := .inl (.inl RA.st)
      refine ⟨_, rfl, o, C, dx, _, _, rfl, ho, R.cl, R.nS, fld_steps _ _, S, rfl, ⟨_, sS⟩, for_it walk_tup (fun i σ H1 => Same H H1 ∧ (∀ r ∈ L.take i, (decide (r.b = st) && fitsB r.vs es) = false) ∧ ∃ y1 y2 y3 : Option V, σ = [some (.ref o), some (.int st), some (.ref e), y1, y2, y3])
        ⟨Same.refl _, (fun r hr2 => by simp at hr2), _, _, _, rfl⟩ (fun i σ H1 _ hp => same_seqT hp.1 sS) (fun i x σ H1 H1' hi hp hy => ?_) (fun σ H1 hp => ?_)⟩
      · obtain ⟨s1, no, y1, y2, y3, rfl⟩ := hp
        obtain ⟨rfl, eb⟩ := hy
        have eb2 : (L.map fun r => V.ref r.t)[i]? = some x := eb
        rw [List.getElem?_map] at eb2
        obtain ⟨r, hr2, rfl⟩ := Option.map_eq_some_iff.mp eb2
        have Rr := (RA.rows r (List.mem_of_getElem? hr2)).same s1
        have tk : L.take (i + 1) = L.take i ++ [r] := by rw [List.take_add_one, hr2]; rfl
        have next : ∀ H2, Same H1' H2 → (decide (r.b = st) && fitsB r.vs es) = false → Same H H2 ∧ (∀ q ∈ L.take (i + 1), (decide (q.b = st) && fitsB q.vs es) = false) := fun H2 s2 hf => by
          refine ⟨s1.trans s2, fun q hq => ?_⟩
          rw [tk] at hq
          rcases List.mem_append.mp hq with hq | hq
          · exact no q hq
          · rw [List.mem_singleton.mp hq]; exact hf
        refine ⟨r.t, _, rfl, .inl (.inl Rr.row), rfl, _, _, rfl, _, _, rfl, _, _, rfl, rfl, ?_⟩
        refine ⟨_, rfl, _, rfl, rfl, _, rfl, ?_⟩
        by_cases hb : r.b = st
        · rw [decide_eq_true (show V.int r.b = V.int st by rw [hb])]
          refine iteT ⟨_, rfl, _, rfl, r.e, e, r.vs, es, rfl, Rr.ev, s1 _ _ he, Rr.ok.fl, fe, fun H2 s2 => ⟨_, rfl, ite2 (fun hf => ?_) (fun hf => ?_)⟩⟩
          · have found : nextS L ms st es = r.l := by
              unfold nextS
              rw [if_neg hm2]
              have hfind : (L.find? fun q => decide (q.b = st) && fitsB q.vs es) = some r := by
                have hsplit : L = L.take i ++ r :: L.drop (i + 1) := by
                  have h1 := (List.take_append_drop (i + 1) L).symm
                  rw [tk, List.append_assoc] at h1
                  exact h1
                rw [hsplit, List.find?_append]
                have hn : (L.take i).find? (fun q => decide (q.b = st) && fitsB q.vs es) = none := by
                  rw [List.find?_eq_none]
                  intro q hq
                  rw [no q hq]
                  exact Bool.false_ne_true
                rw [hn, List.find?_cons]
                have hy2 : (decide (r.b = st) && fitsB r.vs es) = true := by rw [decide_eq_true hb, hf]; rfl
                rw [hy2]
                rfl
              rw [hfind]
            rw [found] at q
            exact ⟨_, rfl, q H2 (s1.trans s2)⟩
          · have hf2 : fitsB r.vs es = false := by simpa using hf
            obtain ⟨a1, a2⟩ := next H2 s2 (by rw [hf2, Bool.and_false])
            exact ⟨a1, a2, _, _, _, rfl⟩
        · rw [decide_eq_false (fun z => hb (V.int.inj z))]
          obtain ⟨a1, a2⟩ := next H1' (Same.refl _) (by rw [decide_eq_false hb, Bool.false_and])
          exact iteF ⟨a1, a2, _, _, _, rfl⟩
      · obtain ⟨s1, no, y1, y2, y3, rfl⟩ := hp
        have e1 : nextS L ms st es = st := by
          unfold nextS
          rw [if_neg hm2]
          have hn : (L.find? fun q => decide (q.b = st) && fitsB q.vs es) = none := by
            rw [List.find?_eq_none]
            intro q hq
            rw [List.length_map, List.take_length] at no
            rw [no q hq]
            exact Bool.false_ne_true
          rw [hn]
        rw [e1] at q
        exact ⟨_, rfl, q H1 s1⟩
def n_rafter : List Str := ["self", "state", "event"]
theorem sc_rafter : FnScope n_rafter ["self", "state", "event"] (defScope s_rafter) := ⟨rfl, rfl, rfl, by decide +kernel, rfl, by decide +kernel, by decide +kernel⟩
def spRAfter (C : Addr) : Sp := fun vs H Q _ => ∃ (o S M e : Addr) (L : List Row) (ms : List Int) (st : Int) (es : List V), vs = [.ref o, .int st, .ref e] ∧ RuleAt C H o S M L ms ∧ H e = some (.tup es) ∧ EvS es ∧ es.length ≠ 2 ∧
  0 ≤ st ∧ st ≤ 99 ∧ ∀ H', Same H H' → Q (.int (nextS L ms st es)) H'
theorem ok_rafter (T : Txt K mg) (R : RTxt K mg C) (D : Mth K C "after" "Rule.after" s_rafter ["self", "state", "event"]) (c_is_state : CalF P w K mg base 2 "is_state" ["value"] (spIsState K))
    (c_is_full_event : CalF P w K mg base 3 "is_full_event" ["value"] spIsFull) (m_next : MtF P w K mg base 2 C "next_state" ["self", "state", "event"] (spNext C)) :
    MtF P w K mg base 4 C "after" ["self", "state", "event"] (spRAfter C) := by
  refine D.okF sc_rafter (fun vs H Q E h => ?_) (fun f cdv A fr s H vs Q E hr h => ?_)
  · obtain ⟨o, S, M, e, L, ms, st, es, rfl, _⟩ := h
    rfl
  · obtain ⟨o, S, M, e, L, ms, st, es, rfl, RA, he, ev, hne, h0, h1, q⟩ := h
    refine ⟨_, pss_cons (ps_if (pt_not (pt_val (pe_cF c_is_state hr (by decide) rfl (pa_cons (pv 1) pa_nil))))
        (pss_one ps_never)
        (pss_nil))
      (pss_cons (ps_if (pt_not (pt_val (pe_cF c_is_full_event hr (by decide) rfl (pa_cons (pv 2) pa_nil))))
        (pss_one ps_never)
        (pss_nil))
      (pss_one (ps_ret (pe_mF (pv 0) R.cl m_next hr (by decide) (pa_cons (pv 1) (pa_cons (pv 2) pa_nil)))))), ?_⟩
    refine ⟨_, rfl, .int st, rfl, any_int _, true, (by rw [stB_ok h0 h1]), iteF ?_⟩
    refine ⟨_, rfl, e, es, rfl, he, ev, hne, fun H1 s1 => ⟨true, rfl, iteF ?_⟩⟩
    obtain ⟨dx, ho⟩ := (RA.same s1).ob
    exact ⟨_, rfl, o, dx, _, rfl, ho, fld_no _ _ (by decide +kernel) (by decide +kernel), _, rfl, _, rfl, o, S, M, e, L, ms, st, es, rfl, RA.same s1, s1 _ _ he, ev.fl, fun H2 s2 => q H2 (s1.trans s2)⟩
def n_eq : List Str := ["self", "other"]
theorem sc_eq : FnScope n_eq ["self", "other"] (defScope s_eq) := ⟨rfl, rfl, rfl, by decide +kernel, rfl, by decide +kernel, by decide +kernel⟩
/-- whether the rule is equal to y -/
def EqT (K : PySem.W.Frag) (C : Addr) (H : Hp) (L : List Row) (ms : List Int) (y : V) (b : Bool) : Prop :=
  (∃ (o S M : Addr) (L2 : List Row) (ms2 : List Int), y = .ref o ∧ RuleAt C H o S M L2 ms2 ∧ b = (PyData.eqv (stepsD L) (stepsD L2) && PyData.eqv (marksD ms) (marksD ms2))) ∨
  (∃ t, TyX K H y t ∧ PySem.W.kitOne K t (.ref C) = some false ∧ b = false)
def spEqR (K : PySem.W.Frag) (C : Addr) : Sp := fun vs H Q _ => ∃ (o S M : Addr) (L : List Row) (ms : List Int) (y : V) (b : Bool), vs = [.ref o, y] ∧ RuleAt C H o S M L ms ∧ EqT K C H L ms y b ∧ Q (.bl b) H
theorem ok_eq (T : Txt K mg) (R : RTxt K mg C) (D : Mth K C "__eq__" "Rule.__eq__" s_eq ["self", "other"]) :
    MtF P w K mg base 1 C "__eq__" ["self", "other"] (spEqR K C) := by
  refine D.okF sc_eq (fun vs H Q E h => ?_) (fun f cdv A fr s H vs Q E hr h => ?_)
  · obtain ⟨o, S, M, L, ms, y, b, rfl, _⟩ := h
    rfl
  · obtain ⟨o, S, M, L, ms, y, b, rfl, RA, hy, q⟩ := h
    obtain ⟨dx, ho⟩ := RA.ob
    refine ⟨_, pss_one (ps_ret (pe_and (pe_callB call_isi rfl T.b_isinstance (by decide +kernel) (pa_cons (pv 1) (pa_cons (C8.pe_gc (v := .ref C) rfl ⟨_, R.mgC, rfl⟩) pa_nil))) (pe_and (pe_cmpR (op_eqD hr.units) (pe_fld (pv 0) rfl) (pe_fld (pv 1) rfl) (nomark _)) (pe_one (pe_cmpR (op_eqD hr.units) (pe_fld (pv 0) rfl) (pe_fld (pv 1) rfl) (nomark _)))))), ?_⟩
    rcases hy with ⟨o2, S2, M2, L2, ms2, rfl, RB, rfl⟩ | ⟨t, ht, hk, rfl⟩
    · obtain ⟨dx2, ho2⟩ := RB.ob
      have kC : PySem.W.kitOne K (.ref C) (.ref C) = some true := by
        unfold PySem.W.kitOne
        rw [if_pos (by simp)]
      refine ⟨_, rfl, _, _, _, _, true, rfl, .own C, R.ty RB, kC, true, rfl, iteT ?_⟩
      refine ⟨_, rfl, o, C, dx, _, _, rfl, ho, R.cl, R.nS, fld_steps _ _, _, rfl, o2, C, dx2, _, _, rfl, ho2, R.cl, R.nS, fld_steps _ _, stepsD L, stepsD L2, .tup (.inl (.inl RA.st)) (dp_rows RA.rows), .tup (.inl (.inl RB.st)) (dp_rows RB.rows), shaped_steps (rows_fl RA.rows), shaped_steps (rows_fl RB.rows), _, rfl, ?_⟩
      cases hv : PyData.eqv (stepsD L) (stepsD L2) with
      | false =>
        rw [hv, Bool.false_and] at q
        exact iteF q
      | true =>
        rw [hv, Bool.true_and] at q
        refine iteT ⟨_, rfl, o, C, dx, _, _, rfl, ho, R.cl, R.nB, fld_bad _ _, _, rfl, o2, C, dx2, _, _, rfl, ho2, R.cl, R.nB, fld_bad _ _, marksD ms, marksD ms2, .tup (.inl (.inl RA.bd)) (dpAll_toD (fl_ints ms)), .tup (.inl (.inl RB.bd)) (dpAll_toD (fl_ints ms2)), shaped_marks ms, shaped_marks ms2, ?_⟩
        exact q
    · exact ⟨_, rfl, _, _, t, _, false, rfl, .own C, ht, hk, false, rfl, iteF q⟩
end
end Jo

set_option Elab.async false
set_option linter.all false
set_option maxRecDepth 100000
set_option maxHeartbeats 400000
namespace Jo
open PySem PySem.Spec PyProof.Rows L2
abbrev s_bag : Stmt := top 25
abbrev s_pick : Stmt := top 26
abbrev s_name : Stmt := top 27
abbrev s_state : Stmt := top 28
abbrev s_number : Stmt := top 29
abbrev s_event : Stmt := top 30
abbrev s_after : Stmt := top 31
/-! ### == and != of a rule and anything -/
def rEqR (K : PySem.W.Frag) (C : Addr) (neg : Bool) : R2 := fun x y H Q => ∃ (o S M : Addr) (L : List Row) (ms : List Int) (b : Bool) (t : Value), x = .ref o ∧ RuleAt C H o S M L ms ∧ EqT K C H L ms y b ∧ TyX K H y t ∧
  PySem.W.notFirst K C t = true ∧ Q (.bl (if neg then !b else b)) H
section
variable {X : Cx} {k j : Nat} {C : Addr}
theorem eq_run {pins : List (Addr × Obj)} {σ : L2.St} {H : Hp} {s : Shared} {A : Around} {o S M : Addr} {L : List Row} {ms : List Int} {b : Bool} {y : V} {u : Value} {Q : Value → Shared → Prop} {E : Value → Shared → Prop}
    (c : MtF X.prog X.w X.K X.mg X.base k C "__eq__" ["self", "other"] (spEqR X.K C)) {f : Addr} (hs : PySem.W.findIn X.K (.ref C) "__eq__" = some (some (.ref f))) (hr : Room k A) (e0 : Env0 X.prog X.w X.K X.mg X.base A X.stack s H) (I : Inv X pins σ H s) (RA : RuleAt C H o S M L ms) (hy : EqT X.K C H L ms y b) (ry : RelV y u)
    (q : ∀ s', Inv X pins σ H s' → Q (.bool b) s') : wpAny (model X.prog X.w) A (call (.ref f) [.ref o, u]) Q E s := by
  obtain ⟨f', fd, F, mt, hb, _⟩ := c.ex
  have ef : f = f' := by
    have e1 := hs.symm.trans mt.at_
    cases e1
    rfl
  subst ef
  have hsp : spEqR X.K C [.ref o, y] H (fun v H' => v = .bl b ∧ H' = H) E0 := ⟨o, S, M, L, ms, y, b, rfl, RA, hy, rfl, rfl⟩
  have r2 : Vals [V.ref o, y] [Value.ref o, u] := .cons rfl (.cons ry .nil)
  have bb := hb s [.ref o, u] I.kIn (by simp)
  refine wpAny_call (codeAny_mono (F.run A X.stack s H ⟨[.ref o, u], []⟩ [.ref o, u] [.ref o, y] _ E0 hr e0 (by simpa using bb) r2 hsp) fun r s' hq => ?_)
  match r, hq with
  | .error e, hq => exact ((pass0 : Passes CX0 { X with xe := fun _ _ => False } E0) pins σ H s e s' (I.wish _) hq).elim
  | .ok (.ret w), hq =>
    obtain ⟨z, H', I', rz, ez, eh⟩ := I.after hq
    subst ez
    subst eh
    cases rz
    exact q s' I'
  | .ok .next, hq => exact (show False from hq).elim
  | .ok .brk, hq => exact (show False from hq).elim
  | .ok .cont, hq => exact (show False from hq).elim
theorem op_eqR (c : MtF X.prog X.w X.K X.mg X.base k C "__eq__" ["self", "other"] (spEqR X.K C)) (hr : Room j X.A) (hk : k ≤ j) : OpR X (compareOp .Eq) (rEqR X.K C false) := by
  intro pins s σ H x y v u Q I rx ry h
  obtain ⟨o, S, M, L, ms, b, t, rfl, RA, hy, ht, hn, q⟩ := h
  cases rx
  obtain ⟨dx, ho⟩ := RA.ob
  obtain ⟨mA, J, _⟩ := ins_get I.hok ho
  obtain ⟨od, J, _⟩ := J.look
  obtain ⟨m, hF⟩ := I.fr
  obtain ⟨Pz, Z, pz, _⟩ := kit_of I ry ht
  obtain ⟨f, fd, F, mt, hb, hb2⟩ := id c.ex
  show wpAny (model X.prog X.w) X.A (richCompare .Eq (.ref o) u) (EP X pins σ Q) X.xe s
  refine PySem.W.cmp_K (op := .Eq) (tb := t) hr.units0 hF I.ok.mod.kin J (Z.ty _ _ I.kIn pz) hn mt.at_ mt.fn ?_
  exact eq_run c mt.at_ (hr.mono hk) I.env0 I RA hy ry fun s' I' => ⟨.bl b, H, I', rfl, q⟩
theorem op_neR (c : MtF X.prog X.w X.K X.mg X.base k C "__eq__" ["self", "other"] (spEqR X.K C)) (hne : PySem.W.findIn X.K (.ref C) "__ne__" = some (some (.builtin "object.__ne__"))) (hsub : PySem.W.subIn X.K (.ref C) (.type "object") = some true)
    (hr : Room j X.A) (hk : k + 1 ≤ j) : OpR X (compareOp .NotEq) (rEqR X.K C true) := by
  intro pins s σ H x y v u Q I rx ry h
  obtain ⟨o, S, M, L, ms, b, t, rfl, RA, hy, ht, hn, q⟩ := h
  cases rx
  obtain ⟨dx, ho⟩ := RA.ob
  obtain ⟨mA, J, _⟩ := ins_get I.hok ho
  obtain ⟨od, J, _⟩ := J.look
  obtain ⟨Pz, Z, pz, _⟩ := kit_of I ry ht
  obtain ⟨f, fd, F, mt, hb, hb2⟩ := id c.ex
  show wpAny (model X.prog X.w) X.A (richCompare .NotEq (.ref o) u) (EP X pins σ Q) X.xe s
  refine ne_own (tb := t) (by have := hr.units; omega) I.kIn J (Z.ty _ _ I.kIn pz) hn hne hsub mt.at_ mt.fn ?_
  exact eq_run c mt.at_ ((hr.mono hk).in1) I.env0.in1 I RA hy ry fun s' I' => ⟨b, rfl, .bl (!b), H, I', rfl, q⟩
end
/-! ### the bag: a list of three ints -/
theorem ixN_nat {n j : Nat} (h : j < n) : ixN n (j : Int) = some j := by
  unfold ixN
  rw [if_pos (by omega), if_pos (by omega)]
  simp
def Kp (p : Addr) (H H' : Hp) : Prop := ∀ b o, H b = some o → b ≠ p → H' b = some o
theorem Kp.refl (p : Addr) (H : Hp) : Kp p H H := fun _ _ e _ => e
theorem Kp.trans {p : Addr} {H H1 H2 : Hp} (a : Kp p H H1) (b : Kp p H1 H2) : Kp p H H2 := fun c o e n => b c o (a c o e n) n
theorem kp_of {p : Addr} {H H' : Hp} (a : Same H H') : Kp p H H' := fun c o e _ => a c o e
theorem Kp.put {p : Addr} {H : Hp} {o : HO} : Kp p H (upd H p o) := fun b x e n => by rw [upd_ne n]; exact e
def BagAt (H : Hp) (p : Addr) : Prop := ∃ a b c : Int, H p = some (.lst [.int a, .int b, .int c])
theorem BagAt.same {H H' : Hp} {p : Addr} (h : BagAt H p) (s : Same H H') : BagAt H' p := let ⟨a, b, c, e⟩ := h; ⟨a, b, c, s _ _ e⟩
theorem item_ok {z : Str} {d : Int} (h0 : 0 ≤ d) (h1 : d < z.length) (hl : z.length ≤ 1000) : d < 2 ^ 63 ∧ z.cps[d.toNat]? = some (z.cps.getD d.toNat 0) := by
  have h2 : d.toNat < z.cps.size := by rw [← len_cps]; omega
  exact ⟨by omega, by simp [Array.getD_eq_getD_getElem?, h2]⟩
theorem atI_int {α : Type} {xs : List α} {d : Int} {v : α} (h0 : 0 ≤ d) (h : xs[d.toNat]? = some v) : atI xs d = some v := by
  have e : d = (d.toNat : Int) := by omega
  rw [e]
  exact atI_nat h
section
variable {P : Program} {w : World} {K : PySem.W.Frag} {mg : Str → Option Value} {base : Heap}
def n_bag : List Str := ["_law_script", "_law_k", "_law_cell", "_law_part", "_law_figures"]
theorem sc_bag : FnScope n_bag ["_law_script", "_law_k"] (defScope s_bag) := ⟨rfl, rfl, rfl, by decide +kernel, rfl, by decide +kernel, by decide +kernel⟩
def spBag (K : PySem.W.Frag) : Sp := fun vs H Q _ => ∃ (a : Addr) (ns : List Int) (k : Nat), vs = [.ref a, .int (k : Int)] ∧ SqL K H a (ns.map V.int) ∧ ns.length ≤ 63 ∧ k ≤ 63 ∧
  ∀ (p : Addr) (H' : Hp), Same H H' → H p = none → BagAt H' p → Q (.ref p) H'
theorem ok_bag (T : Txt K mg) (D : Dfn K mg "_law_bag" s_bag ["_law_script", "_law_k"]) : CalG P w K mg base 1 "_law_bag" ["_law_script", "_law_k"] (spBag K) := by
  refine D.ok sc_bag (fun vs H Q E h => ?_) (fun f cdv A fr s H vs Q E hr hgd h => ?_)
  · obtain ⟨a, ns, k, rfl, _⟩ := h
    rfl
  · obtain ⟨a, ns, k, rfl, hS, hl, hk, q⟩ := h
    refine ⟨_, pss_cons (ps_set (i := 2) sc_bag.nd rfl (.inl rfl) (pv 1))
      (pss_cons (ps_if (pt_cmpR op_lt (pv 1) (pe_callB call_len rfl T.b_len (by decide +kernel) (pa_cons (pv 0) pa_nil)) (nomark _))
        (pss_one (ps_set (i := 2) sc_bag.nd rfl (.inl rfl) (pe_callTy call_int1 rfl T.b_int (by decide +kernel) (pa_cons (pe_ix ix_list (pv 0) (pv 1) (fun _ _ => rfl)) pa_nil))))
        (pss_one (ps_for PassesOwn.never rfl (pi_list (pe_slice sl_list (pv 0) po_none (po_some pe_int))) (pg_name (i := 3) sc_bag.nd rfl (.inl rfl))
            (pss_one (ps_set (i := 2) sc_bag.nd rfl (.inl rfl) (pe_op op_mod (pe_callTy call_int1 rfl T.b_int (by decide +kernel) (pa_cons (pe_op op_add (pe_op op_add (pe_op op_mul (pv 2) pe_int) (pv 3)) pe_int) pa_nil)) pe_int))))))
      (pss_cons (ps_set (i := 4) sc_bag.nd rfl (.inl rfl) (pe_ifExp (pt_cmpR op_lt (pv 2) pe_int (nomark _)) (pe_op op_sub pe_int (pv 2)) (pe_ifExp (pt_cmpR op_ge (pv 2) (pe_op op_pow pe_int pe_int) (nomark _)) (pv 2) pe_int)))
      (pss_one (ps_ret (pe_lst (pa_cons (pe_op op_add (pe_op op_mod (pe_callTy call_int1 rfl T.b_int (by decide +kernel) (pa_cons (pv 2) pa_nil)) pe_int) (pe_op op_mul pe_int (pe_op op_add (pv 1) pe_int))) (pa_cons (pv 4) (pa_cons pe_int pa_nil)))))))), ?_⟩
    have cm : -(2 ^ 64) < (k : Int) + 1 ∧ (k : Int) + 1 < 2 ^ 64 := by omega
    -- what follows the cell
    have rest : ∀ (c : Int) (y : Option V) (H1 : Hp), Same H H1 →
        (tSeq (tAsg (tIf (tTest (tOp (rI0 fun i j => .bl (decide (i < j))) (tVar 2) (tC (.int 0)))) (tOp (rI0 fun i j => .int (i - j)) (tC (.int 0)) (tVar 2)) (tIf (tTest (tOp (rI0 fun i j => .bl (decide (j ≤ i))) (tVar 2) (tOp (rI CPow fun i j => .int (i ^ j.toNat)) (tC (.int 10)) (tC (.int 18))))) (tVar 2) (tC (.int 0)))) (gName 4))
          (tRet (tLst (tCons (tOp (rI0 fun i j => .int (i + j)) (tOp (rI (fun _ j => 0 < j) fun i j => .int (i % j)) (tCB (fun xs H Q => (∃ i, xs = [.int i] ∧ Q (.int i) H) ∨ ∃ k, xs = [.bl k] ∧ Q (.int (if k then 1 else 0)) H) (tCons (tVar 2) tNil)) (tC (.int 2305843009213693951)))
            (tOp (rI CMul fun i j => .int (i * j)) (tC (.int 40014)) (tOp (rI0 fun i j => .int (i + j)) (tVar 1) (tC (.int 1))))) (tCons (tVar 4) (tCons (tC (.int 0)) tNil))))))
        { nx := fun _ H' => Q .non H', rt := Q } [some (.ref a), some (.int (k : Int)), some (.int c), y, none] H1 := fun c y H1 s1 => by
      have fin : ∀ fg : Int, (tRet (tLst (tCons (tOp (rI0 fun i j => .int (i + j)) (tOp (rI (fun _ j => 0 < j) fun i j => .int (i % j)) (tCB (fun xs H Q => (∃ i, xs = [.int i] ∧ Q (.int i) H) ∨ ∃ k, xs = [.bl k] ∧ Q (.int (if k then 1 else 0)) H) (tCons (tVar 2) tNil)) (tC (.int 2305843009213693951)))
            (tOp (rI CMul fun i j => .int (i * j)) (tC (.int 40014)) (tOp (rI0 fun i j => .int (i + j)) (tVar 1) (tC (.int 1))))) (tCons (tVar 4) (tCons (tC (.int 0)) tNil)))))
            { nx := fun _ H' => Q .non H', rt := Q } [some (.ref a), some (.int (k : Int)), some (.int c), y, some (.int fg)] H1 := fun fg => by
        refine ⟨_, rfl, .inl ⟨_, rfl, _, _, rfl, rfl, (show (0 : Int) < 2305843009213693951 by decide), _, rfl, _, _, rfl, rfl, _, _, rfl, rfl, .inr cm, _, _, rfl, rfl, _, rfl, (show 3 ≤ sizeLine by decide), fun p hp => ?_⟩⟩
        refine q p _ (s1.trans (same_new hp)) ?_ ⟨_, _, _, upd_same⟩
        cases hH : H p with
        | none => rfl
        | some z => rw [s1 _ _ hH] at hp; cases hp
      refine ⟨_, rfl, _, _, rfl, rfl, _, rfl, ite2 (fun _ => ?_) (fun _ => ?_)⟩
      · exact ⟨_, rfl, _, _, rfl, rfl, fin _⟩
      · refine ⟨_, rfl, _, _, rfl, rfl, ⟨by decide, by decide, by decide⟩, _, _, rfl, rfl, _, rfl, ite2 (fun _ => ?_) (fun _ => ?_)⟩
        · exact ⟨_, rfl, fin _⟩
        · exact fin _
    refine ⟨_, rfl, _, rfl, _, rfl, _, _, rfl, .inl ⟨_, hS, rfl⟩, _, _, rfl, rfl, _, rfl, ite2 (fun e => ?_) (fun e => ?_)⟩
    · have hk2 : k < ns.length := by
        have e2 := of_decide_eq_true e
        rw [List.length_map] at e2
        omega
      refine ⟨_, rfl, _, rfl, a, _, (k : Int), .int ns[k], rfl, rfl, hS, atI_nat (by rw [List.getElem?_map, List.getElem?_eq_getElem hk2]; rfl), .inl ⟨_, rfl, ?_⟩⟩
      exact rest _ none H (Same.refl _)
    · refine ⟨_, rfl, _, rfl, a, _, rfl, hS, fun p hp => ?_⟩
      have s1 : Same H (upd H p (.lst (cutV (ns.map V.int) none (some 4)))) := same_new hp
      have allI : ∀ x ∈ cutV (ns.map V.int) none (some 4), ∃ n, x = V.int n := fun x hx => by
        have h1 : x ∈ ns.map V.int := by
          unfold cutV at hx
          exact List.mem_of_mem_drop (List.mem_of_mem_take hx)
        obtain ⟨n, _, e⟩ := List.mem_map.mp h1
        exact ⟨n, e.symm⟩
      refine ⟨p, rfl, ⟨_, SqL.of upd_same⟩, for_list (xs := cutV (ns.map V.int) none (some 4)) (fun i σ H3 => H3 = upd H p (.lst (cutV (ns.map V.int) none (some 4))) ∧ ∃ (m : Int) (y : Option V), σ = [some (.ref a), some (.int (k : Int)), some (.int m), y, none])
        ⟨rfl, _, _, rfl⟩ (fun i σ H3 hi hp3 => ?_) (fun i x σ H3 hx hp3 => ?_) (fun σ H3 hp3 => ?_)⟩
      · rw [hp3.1]
        exact SqL.of upd_same
      · obtain ⟨rfl, m, y, rfl⟩ := hp3
        obtain ⟨n, rfl⟩ := allI x (List.mem_of_getElem? hx)
        refine ⟨_, rfl, _, _, rfl, rfl, .inr (by decide), _, rfl, _, _, rfl, rfl, _, _, rfl, rfl, .inl ⟨_, rfl, _, _, rfl, rfl, (show (0 : Int) < 2305843009213693951 by decide), ?_⟩⟩
        exact ⟨rfl, _, _, rfl⟩
      · obtain ⟨rfl, m, y, rfl⟩ := hp3
        exact rest m y _ s1
def n_pick : List Str := ["_law_bag_here", "_law_many", "_law_prime", "_law_digit"]
theorem sc_pick : FnScope n_pick ["_law_bag_here", "_law_many"] (defScope s_pick) := ⟨rfl, rfl, rfl, by decide +kernel, rfl, by decide +kernel, by decide +kernel⟩
def spPick : Sp := fun vs H Q _ => ∃ (p : Addr) (m : Int), vs = [.ref p, .int m] ∧ BagAt H p ∧ 0 < m ∧ m < 1073741824 ∧
  ∀ (d : Int) (H' : Hp), 0 ≤ d → d < m → BagAt H' p → Kp p H H' → Q (.int d) H'
theorem ok_pick (T : Txt K mg) (D : Dfn K mg "_law_pick" s_pick ["_law_bag_here", "_law_many"]) : CalG P w K mg base 1 "_law_pick" ["_law_bag_here", "_law_many"] spPick := by
  refine D.ok sc_pick (fun vs H Q E h => ?_) (fun f cdv A fr s H vs Q E hr hgd h => ?_)
  · obtain ⟨p, m, rfl, _⟩ := h
    rfl
  · obtain ⟨p, m, rfl, ⟨a, b, c, hp⟩, hm, hm2, q⟩ := h
    refine ⟨_, pss_cons (ps_asg (pe_op op_add (pe_ix ix_list (pv 0) pe_int (fun _ _ => rfl)) pe_int) (pg_sub (pv 0) pe_int set_list))
      (pss_cons (ps_set (i := 2) sc_pick.nd rfl (.inl rfl) pe_int)
      (pss_cons (ps_asg (pe_op op_mod (pe_callTy call_int1 rfl T.b_int (by decide +kernel) (pa_cons (pe_op op_add (pe_op op_mul (pe_ix ix_list (pv 0) pe_int (fun _ _ => rfl)) pe_int) (pe_op op_mul pe_int (pe_ix ix_list (pv 0) pe_int (fun _ _ => rfl)))) pa_nil)) (pv 2)) (pg_sub (pv 0) pe_int set_list))
      (pss_cons (ps_if (pt_cmpR op_gt (pe_ix ix_list (pv 0) pe_int (fun _ _ => rfl)) pe_int (nomark _))
        (pss_cons (ps_asg (pe_callB call_divmod rfl T.b_divmod (by decide +kernel) (pa_cons (pe_ix ix_list (pv 0) pe_int (fun _ _ => rfl)) (pa_cons (pv 1) pa_nil))) (pg_tup rfl (pgs_cons (pg_sub (pv 0) pe_int set_list) (pgs_cons (pg_name (i := 3) sc_pick.nd rfl (.inl rfl)) pgs_nil))))
          (pss_one (ps_ret (pv 3))))
        (pss_nil))
      (pss_one (ps_ret (pe_op op_mod (pe_callTy call_int1 rfl T.b_int (by decide +kernel) (pa_cons (pe_op op_fdiv (pe_ix ix_list (pv 0) pe_int (fun _ _ => rfl)) pe_int) pa_nil)) (pv 1))))))), ?_⟩
    refine ⟨_, rfl, p, _, 2, _, rfl, rfl, SqL.of hp, atI_nat (j := 2) rfl, _, _, rfl, rfl, _, rfl, p, _, 2, 2, rfl, rfl, hp, ixN_nat (j := 2) (show 2 < 3 by decide), ?_⟩
    refine ⟨_, rfl, p, _, 0, _, rfl, rfl, SqL.of upd_same, atI_nat (j := 0) rfl, _, _, rfl, rfl, .inr (by decide), _, rfl, p, _, 2, _, rfl, rfl, SqL.of upd_same, atI_nat (j := 2) rfl, _, _, rfl, rfl, .inl (by decide), _, _, rfl, rfl, .inl ⟨_, rfl, _, rfl, _, _, rfl, rfl, (show (0 : Int) < 2305843009213693951 by decide), ?_⟩⟩
    refine ⟨_, rfl, p, _, 0, 0, rfl, rfl, upd_same, ixN_nat (j := 0) (show 0 < 3 by decide), ?_⟩
    refine ⟨_, rfl, p, _, 1, _, rfl, rfl, SqL.of upd_same, atI_nat (j := 1) rfl, _, _, rfl, rfl, _, rfl, ite2 (fun e => ?_) (fun e => ?_)⟩
    · refine ⟨_, rfl, p, _, 1, _, rfl, rfl, SqL.of upd_same, atI_nat (j := 1) rfl, _, rfl, _, _, rfl, ⟨hm, hm2⟩, fun t ht => ?_⟩
      have ntp : t ≠ p := fun e2 => by rw [e2, upd_same] at ht; cases ht
      refine ⟨t, _, rfl, .inl (.inl upd_same), rfl, _, _, rfl, ?_⟩
      refine ⟨_, rfl, p, _, 1, 1, rfl, rfl, (upd_ne ntp.symm).trans upd_same, ixN_nat (j := 1) (show 1 < 3 by decide), _, _, rfl, rfl, _, rfl, ?_⟩
      refine q _ _ (Int.emod_nonneg b (by omega)) (Int.emod_lt_of_pos b hm) ⟨_, _, _, upd_same⟩ fun z o ez nz => ?_
      refine (upd_ne nz).trans ?_
      by_cases e2 : z = t
      · subst e2
        exact absurd ht (by rw [upd_ne nz, upd_ne nz, ez]; intro q; cases q)
      · rw [upd_ne e2, upd_ne nz, upd_ne nz]
        exact ez
    · refine ⟨_, rfl, p, _, 0, _, rfl, rfl, SqL.of upd_same, atI_nat (j := 0) rfl, _, _, rfl, rfl, ⟨by decide, by decide⟩, .inl ⟨_, rfl, _, rfl, _, _, rfl, rfl, hm, ?_⟩⟩
      exact q _ _ (Int.emod_nonneg _ (by omega)) (Int.emod_lt_of_pos _ hm) ⟨_, _, _, upd_same⟩ ((Kp.put).trans Kp.put)
end
end Jo

set_option Elab.async false
set_option linter.all false
set_option maxRecDepth 100000
set_option maxHeartbeats 400000
namespace Jo
open PySem PySem.Spec PyProof.Rows L2
/-! ### names, sign by sign -/
structure Good (z : Str) : Prop where
  pos : 1 ≤ z.length
  first : z.cps.getD 0 0 ∈ letters.cps.toList
  all : ∀ c ∈ z.cps.toList, c ∈ signs.cps.toList
theorem let_sign : ∀ c ∈ letters.cps.toList, c ∈ signs.cps.toList := by decide +kernel
theorem one_len (c : Nat) : (⟨#[c]⟩ : Str).length = 1 := rfl
theorem cps_add (a b : Str) : (a ++ b).cps.toList = a.cps.toList ++ b.cps.toList := by
  rw [Str.cps_append, Array.toList_append]
theorem Good.add {z y : Str} (h : Good z) (hy : ∀ c ∈ y.cps.toList, c ∈ signs.cps.toList) : Good (z ++ y) := by
  refine ⟨by rw [Str.length_append]; have := h.pos; omega, ?_, fun c hc => ?_⟩
  · have h0 : 0 < z.cps.size := by rw [← len_cps]; exact h.pos
    have e : (z ++ y).cps.getD 0 0 = z.cps.getD 0 0 := by
      rw [Array.getD_eq_getD_getElem?, Array.getD_eq_getD_getElem?, Str.cps_append, Array.getElem?_append_left h0]
    rw [e]
    exact h.first
  · rw [cps_add] at hc
    rcases List.mem_append.mp hc with hc | hc
    · exact h.all c hc
    · exact hy c hc
theorem nm_of {z : Str} (h : Good z) (hl : z.length ≤ 8) : nmS z = true := by
  unfold nmS
  have hp := h.pos
  rw [decide_eq_true (show (1 : Int) ≤ (z.length : Int) by omega), decide_eq_true (show (z.length : Int) ≤ 8 by omega), decide_eq_true h.first]
  simp only [Bool.true_and]
  rw [List.all_eq_true]
  intro b hb
  obtain ⟨i, hi, rfl⟩ := List.mem_map.mp hb
  have hi2 : i < z.cps.size := List.mem_range.mp hi
  have e : z.cps.getD i 0 = z.cps[i] := by simp [Array.getD_eq_getD_getElem?, hi2]
  rw [e]
  exact decide_eq_true (h.all _ (by simp))
theorem letter_at {d : Nat} {c : Nat} (h : letters.cps[d]? = some c) : c ∈ letters.cps.toList := by
  have h2 : letters.cps.toList[d]? = some c := by simpa using h
  exact List.mem_of_getElem? h2
theorem only_one {c : Nat} : ∀ x ∈ (⟨#[c]⟩ : Str).cps.toList, x = c := by
  intro x hx
  simpa using hx
section
variable {P : Program} {w : World} {K : PySem.W.Frag} {mg : Str → Option Value} {base : Heap}
def wordsN : List Str := ["into", "plus", "fail", "if", "else", "while", "call", "return", "not", "slot"]
theorem wordsN_ok : ∀ z ∈ wordsN, nmS z = true ∧ z.length ≤ 8 := by decide +kernel
def n_name : List Str := ["_law_bag_here", "_law_k", "_law_letters", "_law_name_here", "_law_turn"]
theorem sc_name : FnScope n_name ["_law_bag_here", "_law_k"] (defScope s_name) := ⟨rfl, rfl, rfl, by decide +kernel, rfl, by decide +kernel, by decide +kernel⟩
def spName : Sp := fun vs H Q _ => ∃ (p : Addr) (k : Int), vs = [.ref p, .int k] ∧ (k = 0 ∨ k = 1) ∧ BagAt H p ∧ ∀ (z : Str) (H' : Hp), nmS z = true → z.length ≤ 8 → BagAt H' p → Kp p H H' → Q (.str z) H'
theorem ok_name (T : Txt K mg) (D : Dfn K mg "_law_name" s_name ["_law_bag_here", "_law_k"]) (c_pick : CalG P w K mg base 1 "_law_pick" ["_law_bag_here", "_law_many"] spPick) :
    CalG P w K mg base 2 "_law_name" ["_law_bag_here", "_law_k"] spName := by
  refine D.ok sc_name (fun vs H Q E h => ?_) (fun f cdv A fr s H vs Q E hr hgd h => ?_)
  · obtain ⟨p, k, rfl, _⟩ := h
    rfl
  · obtain ⟨p, k, rfl, hk, hp, q⟩ := h
    refine ⟨_, pss_cons (ps_if (pt_cmpR op_eq (pe_cG c_pick hr (by decide) hgd rfl (pa_cons (pv 0) (pa_cons pe_int pa_nil))) pe_int (nomark _))
        (pss_one (ps_ret (pe_ix ix_list (pe_lst (pa_cons pe_str (pa_cons pe_str (pa_cons pe_str (pa_cons pe_str (pa_cons pe_str (pa_cons pe_str (pa_cons pe_str (pa_cons pe_str (pa_cons pe_str (pa_cons pe_str pa_nil))))))))))) (pv 1) (fun _ _ => rfl))))
        (pss_nil))
      (pss_cons (ps_asg (pe_tup (pa_cons pe_str (pa_cons pe_str pa_nil))) (pg_tup rfl (pgs_cons (pg_name (i := 2) sc_name.nd rfl (.inl rfl)) (pgs_cons (pg_name (i := 3) sc_name.nd rfl (.inl rfl)) pgs_nil))))
      (pss_cons (ps_for PassesOwn.never rfl (pi_range1 rfl T.b_range (pa_cons (pe_op op_add pe_int (pe_cG c_pick hr (by decide) hgd rfl (pa_cons (pv 0) (pa_cons pe_int pa_nil)))) pa_nil)) (pg_name (i := 4) sc_name.nd rfl (.inl rfl))
        (pss_one (ps_set (i := 3) sc_name.nd rfl (.inl rfl) (pe_op op_add_str (pv 3) (pe_item_str (pv 2) (pe_cG c_pick hr (by decide) hgd rfl (pa_cons (pv 0) (pa_cons pe_int pa_nil))) (fun _ _ => rfl))))))
      (pss_cons (ps_set (i := 3) sc_name.nd rfl (.inl rfl) (pe_op op_add_str (pv 3) (pe_callTy call_str_int rfl T.b_str (by decide +kernel) (pa_cons (pv 1) pa_nil))))
      (pss_cons (ps_for PassesOwn.never rfl (pi_range1 rfl T.b_range (pa_cons (pe_cG c_pick hr (by decide) hgd rfl (pa_cons (pv 0) (pa_cons pe_int pa_nil))) pa_nil)) (pg_name (i := 4) sc_name.nd rfl (.inl rfl))
        (pss_one (ps_set (i := 3) sc_name.nd rfl (.inl rfl) (pe_op op_add_str (pv 3) (pe_item_str (pv 2) (pe_cG c_pick hr (by decide) hgd rfl (pa_cons (pv 0) (pa_cons pe_int pa_nil))) (fun _ _ => rfl))))))
      (pss_one (ps_ret (pv 3))))))), ?_⟩
    have dig : (Str.ofString (toString k)).length = 1 ∧ ∀ c ∈ (Str.ofString (toString k)).cps.toList, c ∈ signs.cps.toList := by
      rcases hk with rfl | rfl <;> decide +kernel
    have klog : k.natAbs.log2 < 1920 := by rcases hk with rfl | rfl <;> decide +kernel
    refine ⟨_, rfl, p, 6, rfl, hp, by decide, by decide, fun w0 H1 a0 a1 p1 k1 => ?_⟩
    refine ⟨rfl, _, rfl, ite2 (fun e => ?_) (fun e => ?_)⟩
    · refine ⟨(show 10 ≤ sizeLine by decide), fun l hl => ?_⟩
      have s1 : Same H1 (upd H1 l (.lst (wordsN.map V.str))) := same_new hl
      have hat : ∃ z, z ∈ wordsN ∧ atI (wordsN.map V.str) k = some (.str z) := by
        rcases hk with rfl | rfl
        · exact ⟨_, List.mem_cons_self, rfl⟩
        · exact ⟨_, List.mem_cons_of_mem _ List.mem_cons_self, rfl⟩
      obtain ⟨z, hz, hz2⟩ := hat
      exact ⟨_, rfl, l, _, k, _, rfl, rfl, SqL.of upd_same, hz2, q z _ (wordsN_ok z hz).1 (wordsN_ok z hz).2 (p1.same s1) (k1.trans (kp_of s1))⟩
    · refine ⟨(show 2 ≤ sizeLine by decide), fun t ht => ?_⟩
      have s1 : Same H1 (upd H1 t (.tup [V.str letters, V.str (Str.ofString "")])) := same_new ht
      refine ⟨t, _, rfl, .inl (.inl upd_same), rfl, _, _, rfl, _, _, rfl, rfl, ?_⟩
      refine ⟨_, rfl, p, 3, rfl, p1.same s1, by decide, by decide, fun n1 H2 b0 b1 p2 k2 => ?_⟩
      refine ⟨_, _, rfl, rfl, _, rfl, by omega, by omega, ?_⟩
      have kk2 := (k1.trans (kp_of s1)).trans k2
      refine for_range (lo := 0) (n := (1 + n1).toNat) (fun i σ H3 => BagAt H3 p ∧ Kp p H H3 ∧ ∃ (z : Str) (y : Option V), z.length = i ∧ (0 < i → Good z) ∧ σ = [some (.ref p), some (.int k), some (.str letters), some (.str z), y])
        ⟨p2, kk2, _, _, rfl, (fun z => absurd z (by decide)), rfl⟩ (fun i σ H3 hi hp3 => ?_) (fun σ H3 hp3 => ?_)
      · obtain ⟨p3, k3, z, y, hz, hg, rfl⟩ := hp3
        refine ⟨_, rfl, _, rfl, _, rfl, p, 26, rfl, p3, by decide, by decide, fun d H4 d0 d1 p4 k4 => ?_⟩
        obtain ⟨i1, i2⟩ := item_ok (z := letters) d0 d1 (by decide)
        have hc := letter_at i2
        refine ⟨letters, d, _, rfl, rfl, d0, i1, d1, i2, _, _, rfl, rfl, ?_, p4, k3.trans k4, _, _, (by rw [Str.length_append, hz, one_len]), (fun _ => ?_), rfl⟩
        · rw [hz, one_len]
          exact Nat.le_of_lt (small1000 (by omega))
        · by_cases h0 : 0 < i
          · exact (hg h0).add fun c hc2 => by rw [only_one c hc2]; exact let_sign _ hc
          · have ez : z.cps = #[] := by
              have : z.cps.size = 0 := by rw [← len_cps]; omega
              exact Array.eq_empty_of_size_eq_zero this
            have e1 : (z ++ (⟨#[letters.cps.getD d.toNat 0]⟩ : Str)).cps = #[letters.cps.getD d.toNat 0] := by rw [Str.cps_append, ez]; simp
            refine ⟨by rw [Str.length_append, one_len]; omega, by rw [e1]; exact hc, fun c hc2 => ?_⟩
            rw [e1] at hc2
            have : c = letters.cps.getD d.toNat 0 := by simpa using hc2
            rw [this]
            exact let_sign _ hc
      · obtain ⟨p3, k3, z, y, hz, hg, rfl⟩ := hp3
        have hg2 := (hg (by omega)).add dig.2
        have lz : (z ++ Str.ofString (toString k)).length ≤ 4 := by rw [Str.length_append, dig.1, hz]; omega
        refine ⟨_, rfl, _, rfl, k, rfl, klog, _, _, rfl, rfl, ?_, ?_⟩
        · rw [hz]
          have h9 : (1 + n1).toNat + (Str.ofString (toString k)).length ≤ 1000 := by rw [dig.1]; omega
          exact Nat.le_of_lt (small1000 h9)
        · refine ⟨_, rfl, p, 4, rfl, p3, by decide, by decide, fun n2 H5 c0 c1 p5 k5 => ?_⟩
          refine ⟨n2, rfl, by omega, by omega, ?_⟩
          refine for_range (lo := 0) (n := n2.toNat) (fun i σ H3 => BagAt H3 p ∧ Kp p H H3 ∧ ∃ (z : Str) (y : Option V), z.length ≤ 4 + i ∧ Good z ∧ σ = [some (.ref p), some (.int k), some (.str letters), some (.str z), y])
            ⟨p5, k3.trans k5, _, _, lz, hg2, rfl⟩ (fun i σ H6 hi hp6 => ?_) (fun σ H6 hp6 => ?_)
          · obtain ⟨p6, k6, z2, y2, hz2, hg3, rfl⟩ := hp6
            refine ⟨_, rfl, _, rfl, _, rfl, p, 26, rfl, p6, by decide, by decide, fun d H7 d0 d1 p7 k7 => ?_⟩
            obtain ⟨i1, i2⟩ := item_ok (z := letters) d0 d1 (by decide)
            have hc := letter_at i2
            refine ⟨letters, d, _, rfl, rfl, d0, i1, d1, i2, _, _, rfl, rfl, ?_, p7, k6.trans k7, _, _, (by rw [Str.length_append, one_len]; omega), hg3.add (fun c hc2 => by rw [only_one c hc2]; exact let_sign _ hc), rfl⟩
            rw [one_len]
            exact Nat.le_of_lt (small1000 (by omega))
          · obtain ⟨p6, k6, z2, y2, hz2, hg3, rfl⟩ := hp6
            have l8 : z2.length ≤ 8 := by omega
            exact ⟨_, rfl, q z2 H6 (nm_of hg3 l8) l8 p6 k6⟩
def n_state : List Str := ["_law_bag_here"]
theorem sc_state : FnScope n_state ["_law_bag_here"] (defScope s_state) := ⟨rfl, rfl, rfl, by decide +kernel, rfl, by decide +kernel, by decide +kernel⟩
def spState : Sp := fun vs H Q _ => ∃ p : Addr, vs = [.ref p] ∧ BagAt H p ∧ ∀ (n : Int) (H' : Hp), 0 ≤ n → n ≤ 99 → BagAt H' p → Kp p H H' → Q (.int n) H'
theorem eight {α : Type} {a b c d e f g h : α} {P : α → Prop} (h1 : P a) (h2 : P b) (h3 : P c) (h4 : P d) (h5 : P e) (h6 : P f) (h7 : P g) (h8 : P h) {i : Int} (i0 : 0 ≤ i) (i1 : i < 8) : ∃ x, atI [a, b, c, d, e, f, g, h] i = some x ∧ P x := by
  have hi : i = 0 ∨ i = 1 ∨ i = 2 ∨ i = 3 ∨ i = 4 ∨ i = 5 ∨ i = 6 ∨ i = 7 := by omega
  rcases hi with rfl | rfl | rfl | rfl | rfl | rfl | rfl | rfl
  · exact ⟨_, rfl, h1⟩
  · exact ⟨_, rfl, h2⟩
  · exact ⟨_, rfl, h3⟩
  · exact ⟨_, rfl, h4⟩
  · exact ⟨_, rfl, h5⟩
  · exact ⟨_, rfl, h6⟩
  · exact ⟨_, rfl, h7⟩
  · exact ⟨_, rfl, h8⟩
theorem ok_state (T : Txt K mg) (D : Dfn K mg "_law_state" s_state ["_law_bag_here"]) (c_pick : CalG P w K mg base 1 "_law_pick" ["_law_bag_here", "_law_many"] spPick) :
    CalG P w K mg base 2 "_law_state" ["_law_bag_here"] spState := by
  refine D.ok sc_state (fun vs H Q E h => ?_) (fun f cdv A fr s H vs Q E hr hgd h => ?_)
  · obtain ⟨p, rfl, _⟩ := h
    rfl
  · obtain ⟨p, rfl, hp, q⟩ := h
    refine ⟨_, pss_one (ps_ret (pe_ix ix_list (pe_lst (pa_cons pe_int (pa_cons pe_int (pa_cons pe_int (pa_cons pe_int (pa_cons pe_int (pa_cons pe_int (pa_cons pe_int (pa_cons (pe_cG c_pick hr (by decide) hgd rfl (pa_cons (pv 0) (pa_cons pe_int pa_nil))) pa_nil))))))))) (pe_cG c_pick hr (by decide) hgd rfl (pa_cons (pv 0) (pa_cons pe_int pa_nil))) (fun _ _ => rfl))), ?_⟩
    refine ⟨_, rfl, p, 100, rfl, hp, by decide, by decide, fun n H1 n0 n1 p1 k1 => ⟨(show 8 ≤ sizeLine by decide), fun l hl => ?_⟩⟩
    have s1 : Same H1 (upd H1 l (.lst [V.int 0, V.int 1, V.int 2, V.int 0, V.int 1, V.int 2, V.int 99, V.int n])) := same_new hl
    have nlp : l ≠ p := fun e => by
      obtain ⟨a, b, c, e2⟩ := p1
      rw [← e, hl] at e2
      cases e2
    refine ⟨_, rfl, p, 8, rfl, p1.same s1, by decide, by decide, fun i H2 i0 i1 p2 k2 => ?_⟩
    obtain ⟨x, hx, y, rfl, y0, y1⟩ := eight (P := fun v => ∃ y : Int, v = V.int y ∧ 0 ≤ y ∧ y ≤ 99) ⟨0, rfl, by decide, by decide⟩ ⟨1, rfl, by decide, by decide⟩ ⟨2, rfl, by decide, by decide⟩ ⟨0, rfl, by decide, by decide⟩ ⟨1, rfl, by decide, by decide⟩ ⟨2, rfl, by decide, by decide⟩ ⟨99, rfl, by decide, by decide⟩ ⟨n, rfl, n0, by omega⟩ i0 i1
    exact ⟨l, _, i, _, rfl, rfl, SqL.of (k2 _ _ upd_same nlp), hx, q y H2 y0 y1 p2 ((k1.trans (kp_of s1)).trans k2)⟩
def n_number : List Str := ["_law_bag_here"]
theorem sc_number : FnScope n_number ["_law_bag_here"] (defScope s_number) := ⟨rfl, rfl, rfl, by decide +kernel, rfl, by decide +kernel, by decide +kernel⟩
def spNumber : Sp := fun vs H Q _ => ∃ p : Addr, vs = [.ref p] ∧ BagAt H p ∧ ∀ (n : Int) (H' : Hp), n.natAbs < 2 ^ 250 → BagAt H' p → Kp p H H' → Q (.int n) H'
theorem ok_number (T : Txt K mg) (D : Dfn K mg "_law_number" s_number ["_law_bag_here"]) (c_pick : CalG P w K mg base 1 "_law_pick" ["_law_bag_here", "_law_many"] spPick) :
    CalG P w K mg base 2 "_law_number" ["_law_bag_here"] spNumber := by
  refine D.ok sc_number (fun vs H Q E h => ?_) (fun f cdv A fr s H vs Q E hr hgd h => ?_)
  · obtain ⟨p, rfl, _⟩ := h
    rfl
  · obtain ⟨p, rfl, hp, q⟩ := h
    refine ⟨_, pss_one (ps_ret (pe_ix ix_list (pe_lst (pa_cons pe_int (pa_cons pe_int (pa_cons (pe_un un_neg pe_int) (pa_cons pe_int (pa_cons pe_int (pa_cons pe_int (pa_cons (pe_op op_pow pe_int pe_int) (pa_cons (pe_op op_sub (pe_cG c_pick hr (by decide) hgd rfl (pa_cons (pv 0) (pa_cons (pe_op op_pow pe_int pe_int) pa_nil))) pe_int) pa_nil))))))))) (pe_cG c_pick hr (by decide) hgd rfl (pa_cons (pv 0) (pa_cons pe_int pa_nil))) (fun _ _ => rfl))), ?_⟩
    refine ⟨_, rfl, _, _, rfl, rfl, ⟨by decide, by decide, by decide⟩, _, rfl, _, _, rfl, rfl, ⟨by decide, by decide, by decide⟩, p, 10 ^ 6, rfl, hp, by decide, by decide, fun n H1 n0 n1 p1 k1 => ?_⟩
    refine ⟨_, _, rfl, rfl, (show 8 ≤ sizeLine by decide), fun l hl => ?_⟩
    have s1 : Same H1 (upd H1 l (.lst [V.int 0, V.int 1, V.int (-1), V.int 2, V.int 0, V.int 1, V.int (10 ^ 50), V.int (n - 1000)])) := same_new hl
    have nlp : l ≠ p := fun e => by
      obtain ⟨a, b, c, e2⟩ := p1
      rw [← e, hl] at e2
      cases e2
    refine ⟨_, rfl, p, 8, rfl, p1.same s1, by decide, by decide, fun i H2 i0 i1 p2 k2 => ?_⟩
    have nb : (n - 1000).natAbs < 2 ^ 250 := Nat.lt_of_lt_of_le (show (n - 1000).natAbs < 2 ^ 30 by omega) (by decide)
    obtain ⟨x, hx, y, rfl, y0⟩ := eight (a := V.int 0) (b := V.int 1) (c := V.int (-1)) (d := V.int 2) (e := V.int 0) (f := V.int 1) (g := V.int (10 ^ 50)) (h := V.int (n - 1000)) (P := fun v => ∃ y : Int, v = V.int y ∧ y.natAbs < 2 ^ 250)
      ⟨0, rfl, by decide +kernel⟩ ⟨1, rfl, by decide +kernel⟩ ⟨-1, rfl, by decide +kernel⟩ ⟨2, rfl, by decide +kernel⟩ ⟨0, rfl, by decide +kernel⟩ ⟨1, rfl, by decide +kernel⟩ ⟨10 ^ 50, rfl, by decide +kernel⟩ ⟨n - 1000, rfl, nb⟩ i0 i1
    exact ⟨l, _, i, _, rfl, rfl, SqL.of (k2 _ _ upd_same nlp), hx, q y H2 y0 p2 ((k1.trans (kp_of s1)).trans k2)⟩
end
end Jo

set_option Elab.async false
set_option linter.all false
set_option maxRecDepth 100000
set_option maxHeartbeats 400000
namespace Jo
open PySem PySem.Spec PyProof.Rows L2
theorem seqL_same {K : PySem.W.Frag} {H H' : Hp} {a : Addr} {xs : List V} (s : Same H H') (h : H a = some (.lst xs)) : SqL K H' a xs := .of (s _ _ h)
section
variable {P : Program} {w : World} {K : PySem.W.Frag} {mg : Str → Option Value} {base : Heap}
def n_event : List Str := ["_law_bag_here", "_law_names", "_law_whole", "_law_way", "_law_found"]
theorem sc_event : FnScope n_event ["_law_bag_here", "_law_names", "_law_whole"] (defScope s_event) := ⟨rfl, rfl, rfl, by decide +kernel, rfl, by decide +kernel, by decide +kernel⟩
def spEvent : Sp := fun vs H Q _ => ∃ (p N : Addr) (nl : List Str) (whole : Bool), vs = [.ref p, .ref N, .bl whole] ∧ BagAt H p ∧ N ≠ p ∧ H N = some (.lst (nl.map V.str)) ∧ 0 < nl.length ∧ nl.length ≤ 9 ∧ (∀ n ∈ nl, nmS n = true ∧ n.length ≤ 8) ∧
  ∀ (e : Addr) (es : List V) (H' : Hp), H' e = some (.tup es) → EvS es → (whole = true → es.length ≠ 2) → BagAt H' p → Kp p H H' → Q (.ref e) H'
theorem four {i : Int} (i0 : 0 ≤ i) (i1 : i < 4) : ∃ z, z ∈ wordsE ∧ atI (wordsE.map V.str) i = some (.str z) := by
  have hi : i = 0 ∨ i = 1 ∨ i = 2 ∨ i = 3 := by omega
  rcases hi with rfl | rfl | rfl | rfl
  · exact ⟨Str.ofString "call", by decide +kernel, rfl⟩
  · exact ⟨Str.ofString "answer", by decide +kernel, rfl⟩
  · exact ⟨Str.ofString "out", by decide +kernel, rfl⟩
  · exact ⟨Str.ofString "back", by decide +kernel, rfl⟩
theorem ok_event (T : Txt K mg) (D : Dfn K mg "_law_event" s_event ["_law_bag_here", "_law_names", "_law_whole"]) (c_pick : CalG P w K mg base 1 "_law_pick" ["_law_bag_here", "_law_many"] spPick)
    (c_number : CalG P w K mg base 2 "_law_number" ["_law_bag_here"] spNumber) : CalG P w K mg base 3 "_law_event" ["_law_bag_here", "_law_names", "_law_whole"] spEvent := by
  refine D.ok sc_event (fun vs H Q E h => ?_) (fun f cdv A fr s H vs Q E hr hgd h => ?_)
  · obtain ⟨p, N, nl, whole, rfl, _⟩ := h
    rfl
  · obtain ⟨p, N, nl, whole, rfl, hp, hNp, hN, n0, n9, nok, q⟩ := h
    refine ⟨_, pss_cons (ps_set (i := 3) sc_event.nd rfl (.inl rfl) (pe_cG c_pick hr (by decide) hgd rfl (pa_cons (pv 0) (pa_cons pe_int pa_nil))))
      (pss_cons (ps_if (pt_cmpR op_eq (pv 3) pe_int (nomark _))
        (pss_one (ps_ret (pe_tup (pa_cons pe_str pa_nil))))
        (pss_nil))
      (pss_cons (ps_set (i := 4) sc_event.nd rfl (.inl rfl) (pe_tup (pa_cons (pe_ix ix_list (pe_lst (pa_cons pe_str (pa_cons pe_str (pa_cons pe_str (pa_cons pe_str pa_nil))))) (pe_op op_fdiv (pv 3) pe_int) (fun _ _ => rfl)) (pa_cons (pe_ix ix_list (pv 1) (pe_cG c_pick hr (by decide) hgd rfl (pa_cons (pv 0) (pa_cons (pe_callB call_len rfl T.b_len (by decide +kernel) (pa_cons (pv 1) pa_nil)) pa_nil))) (fun _ _ => rfl)) pa_nil))))
      (pss_one (ps_ret (pe_ifExp (PW.pt (pw_or (pt_val (pv 2)) (pw_or1 (pt_cmpR op_eq (pe_cG c_pick hr (by decide) hgd rfl (pa_cons (pv 0) (pa_cons pe_int pa_nil))) pe_int (nomark _))))) (pe_op op_catA (pv 4) (pe_tup (pa_cons (pe_cG c_number hr (by decide) hgd rfl (pa_cons (pv 0) pa_nil)) pa_nil))) (pv 4)))))), ?_⟩
    refine ⟨_, rfl, p, 9, rfl, hp, by decide, by decide, fun way H1 w0 w1 p1 k1 => ?_⟩
    have hN1 := k1 _ _ hN hNp
    refine ⟨_, rfl, rfl, _, rfl, ite2 (fun e => ?_) (fun e => ?_)⟩
    · refine ⟨(show 1 ≤ sizeLine by decide), fun t ht => ?_⟩
      have s1 : Same H1 (upd H1 t (.tup [V.str hangE])) := same_new ht
      exact q t _ _ upd_same .hang (fun _ => (by decide)) (p1.same s1) (k1.trans (kp_of s1))
    · have hw8 : way ≠ 8 := fun z => e (decide_eq_true (by rw [z]))
      refine ⟨(show 4 ≤ sizeLine by decide), fun l hl => ?_⟩
      have s1 : Same H1 (upd H1 l (.lst (wordsE.map V.str))) := same_new hl
      obtain ⟨z, hz, hz2⟩ := four (i := way / 2) (by omega) (by omega)
      refine ⟨_, rfl, _, _, rfl, rfl, ⟨by decide, by decide⟩, l, _, way / 2, _, rfl, rfl, SqL.of upd_same, hz2, ?_⟩
      have hN2 := s1 _ _ hN1
      refine ⟨_, rfl, _, rfl, _, rfl, _, nl.length, rfl, .inl ⟨_, SqL.of hN2, by rw [List.length_map]⟩, p, (nl.length : Int), rfl, p1.same s1, by omega, by omega, fun d H2 d0 d1 p2 k2 => ?_⟩
      have hd : d.toNat < nl.length := by omega
      have hnm := nok _ (List.getElem_mem hd)
      refine ⟨N, _, d, .str nl[d.toNat], rfl, rfl, SqL.of (k2 _ _ hN2 hNp), atI_int d0 (by rw [List.getElem?_map, List.getElem?_eq_getElem hd]; rfl), (show 2 ≤ sizeLine by decide), fun t ht => ?_⟩
      generalize nl[d.toNat] = nm at hnm ⊢
      have s2 : Same H2 (upd H2 t (.tup [V.str z, V.str nm])) := same_new ht
      have p3 := p2.same s2
      have k3 : Kp p H (upd H2 t (.tup [V.str z, V.str nm])) := ((k1.trans (kp_of s1)).trans k2).trans (kp_of s2)
      have t3 : (upd H2 t (.tup [V.str z, V.str nm])) t = some (.tup [V.str z, V.str nm]) := upd_same
      have ntp : t ≠ p := fun e2 => by
        obtain ⟨a, b, c, e3⟩ := p2
        rw [← e2, ht] at e3
        cases e3
      have long : ∀ H4, BagAt H4 p → Kp p H H4 → H4 t = some (.tup [V.str z, V.str nm]) → ∃ v, (some (some (V.ref t)) : Option (Option V)) = some (some v) ∧ ∃ v2, (some (some (V.ref p)) : Option (Option V)) = some (some v2) ∧ spNumber [v2] H4 (fun y H5 => [y].length ≤ sizeLine ∧ ∀ p', H5 p' = none → rCatA K v (.ref p') (upd H5 p' (.tup [y])) Q) E0 := fun H4 p4 k4 t4 => by
        refine ⟨_, rfl, _, rfl, p, rfl, p4, fun n H5 hn p5 k5 => ⟨(show 1 ≤ sizeLine by decide), fun t2 ht2 => ?_⟩⟩
        have t5 := k5 _ _ t4 ntp
        have s5 : Same H5 (upd H5 t2 (.tup [V.int n])) := same_new ht2
        refine ⟨t, t2, _, _, rfl, rfl, .inl (.inl (s5 _ _ t5)), .inl (.inl upd_same), (show 3 ≤ sizeLine by decide), (fun z => by cases z), (fun _ z => by cases z), fun _ _ p6 hp6 => ?_⟩
        have s6 := same_new (o := .tup ([V.str z, V.str nm] ++ [V.int n])) hp6
        exact q p6 _ _ upd_same (.three hz hnm.1 hnm.2 hn) (fun _ => (show 3 ≠ 2 by decide)) ((p5.same s5).same s6) (((k4.trans k5).trans (kp_of s5)).trans (kp_of s6))
      refine ⟨_, rfl, whole, rfl, ?_⟩
      cases whole with
      | true => exact iteT (iteT (long _ p3 k3 t3))
      | false =>
        refine iteF ⟨_, rfl, p, 2, rfl, p3, by decide, by decide, fun d2 H4 _ _ p4 k4 => ?_⟩
        have t4 := k4 _ _ t3 ntp
        refine ⟨rfl, _, rfl, ite2 (fun _ => long H4 p4 (k3.trans k4) t4) (fun _ => ?_)⟩
        exact ⟨_, rfl, q t _ H4 t4 (.two hz hnm.1 hnm.2) (fun z => by cases z) p4 (k3.trans k4)⟩
/-! ### the law's own leading -/
theorem take_eq_iff {ps es : List V} : (∀ k < ps.length, k < es.length ∧ ps[k]? = es[k]?) ↔ es.take ps.length = ps := by
  constructor
  · intro h
    refine List.ext_getElem? fun k => ?_
    rw [List.getElem?_take]
    by_cases hk : k < ps.length
    · rw [if_pos hk]
      exact ((h k hk).2).symm
    · rw [if_neg hk, List.getElem?_eq_none (by omega)]
  · intro h k hk
    have h1 : (es.take ps.length)[k]? = ps[k]? := by rw [h]
    rw [List.getElem?_take, if_pos hk] at h1
    refine ⟨?_, h1.symm⟩
    rw [List.getElem?_eq_getElem hk] at h1
    exact (List.getElem?_eq_some_iff.mp h1).1
def hit (ps es : List V) (k : Nat) : Bool := decide (k < es.length) && decide (ps[k]? = es[k]?)
theorem cnt_fits (ps es : List V) : decide (V.int ((((List.range ps.length).filter (hit ps es)).length : Nat) : Int) = V.int (ps.length : Int)) = fitsB ps es := by
  unfold fitsB
  refine decide_eq_decide.mpr ?_
  rw [← take_eq_iff]
  constructor
  · intro h
    have h2 : ((List.range ps.length).filter (hit ps es)).length = (List.range ps.length).length := by
      have := V.int.inj h
      rw [List.length_range]
      omega
    rw [List.length_filter_eq_length_iff] at h2
    intro k hk
    have h3 := h2 k (List.mem_range.mpr hk)
    unfold hit at h3
    rw [Bool.and_eq_true, decide_eq_true_iff, decide_eq_true_iff] at h3
    exact h3
  · intro h
    have h2 : ((List.range ps.length).filter (hit ps es)).length = (List.range ps.length).length := by
      rw [List.length_filter_eq_length_iff]
      intro k hk
      have h3 := h k (List.mem_range.mp hk)
      unfold hit
      rw [decide_eq_true h3.1, decide_eq_true h3.2]
      rfl
    rw [h2, List.length_range]
/-- same kind at each place -/
theorem EvS.scal {ps es : List V} (hp : EvS ps) (he : EvS es) {k : Nat} {x y : V} (h1 : ps[k]? = some x) (h2 : es[k]? = some y) : scal x y = true := by
  cases hp <;> cases he <;> (match k, h1, h2 with
    | 0, h1, h2 => cases h1; cases h2; rfl
    | 1, h1, h2 => first | (cases h1; done) | (cases h2; done) | (cases h1; cases h2; rfl)
    | 2, h1, h2 => first | (cases h1; done) | (cases h2; done) | (cases h1; cases h2; rfl)
    | k + 3, h1, h2 => first | (cases h1; done) | (cases h2; done))
def n_after : List Str := ["_law_rows", "_law_marks", "_law_here", "_law_happens", "_law_begin", "_law_pattern", "_law_later", "_law_same", "_law_k"]
theorem sc_after : FnScope n_after ["_law_rows", "_law_marks", "_law_here", "_law_happens"] (defScope s_after) := ⟨rfl, rfl, rfl, by decide +kernel, rfl, by decide +kernel, by decide +kernel⟩
def spAfter : Sp := fun vs H Q _ => ∃ (R M e : Addr) (L : List Row) (ms : List Int) (st : Int) (es : List V), vs = [.ref R, .ref M, .int st, .ref e] ∧ H R = some (.lst (L.map fun r => .ref r.t)) ∧ H M = some (.tup (ms.map V.int)) ∧ (∀ r ∈ L, RowAt H r) ∧
  H e = some (.tup es) ∧ EvS es ∧ ∀ H', Same H H' → Q (.int (nextS L ms st es)) H'
theorem ok_after (T : Txt K mg) (D : Dfn K mg "_law_after" s_after ["_law_rows", "_law_marks", "_law_here", "_law_happens"]) :
    CalG P w K mg base 1 "_law_after" ["_law_rows", "_law_marks", "_law_here", "_law_happens"] spAfter := by
  refine D.ok sc_after (fun vs H Q E h => ?_) (fun f cdv A fr s H vs Q E hr hgd h => ?_)
  · obtain ⟨R, M, e, L, ms, st, es, rfl, _⟩ := h
    rfl
  · obtain ⟨R, M, e, L, ms, st, es, rfl, hR, hM, hL, he, eok, q⟩ := h
    refine ⟨_, pss_cons (ps_if (pt_cmpR op_in_seq (pv 2) (pv 1) rfl)
        (pss_one (ps_ret (pv 2)))
        (pss_nil))
      (pss_cons (ps_for PassesOwn.never rfl (pi_list (pv 0)) (pg_tup rfl (pgs_cons (pg_name (i := 4) sc_after.nd rfl (.inl rfl)) (pgs_cons (pg_name (i := 5) sc_after.nd rfl (.inr rfl)) (pgs_cons (pg_name (i := 6) sc_after.nd rfl (.inl rfl)) pgs_nil))))
        (pss_cons (ps_setLc (i := 7) (own := [("_law_k", 8)]) (g := gName 8) rfl sc_after.nd rfl rfl (sw_true rfl rfl rfl (by decide +kernel)) (pi_range1 rfl T.b_range (pa_cons (pe_callB call_len rfl T.b_len (by decide +kernel) (pa_cons (pv 5) pa_nil)) pa_nil)) (blkOk_by (N := n_after) (sc := defScope s_after) (by decide +kernel)) (fun _ _ _ _ _ => pg_name (i := 8) sc_after.nd rfl (Or.inl rfl)) (fun _ _ _ _ _ => (pts_one (PW.pt (pw_and (pt_cmpR op_lt (pv 8) (pe_callB (id := "len") (r := rLen K) call_len rfl T.b_len (by decide +kernel) (pa_cons (pv 3) pa_nil)) (nomark _)) (pw_and1 (pt_cmpR op_eq (pe_ix (r := rIxT K) ix_tup (pv 5) (pv 8) (fun _ _ => rfl)) (pe_ix (r := rIxT K) ix_tup (pv 3) (pv 8) (fun _ _ => rfl)) (nomark _))))))) (fun _ _ _ _ _ => (pv 8)))
          (pss_one (ps_if (PW.pt (pw_and (pt_cmpR op_eq (pv 4) (pv 2) (nomark _)) (pw_and1 (pt_cmpR op_eq (pe_callB call_len rfl T.b_len (by decide +kernel) (pa_cons (pv 7) pa_nil)) (pe_callB call_len rfl T.b_len (by decide +kernel) (pa_cons (pv 5) pa_nil)) (nomark _)))))
            (pss_one (ps_ret (pv 6)))
            (pss_nil)))))
      (pss_one (ps_ret (pv 2)))), ?_⟩
    refine ⟨_, rfl, _, rfl, M, _, rfl, .inr (.inl (.inl hM)), rfl, flat_ints ms, ?_⟩
    rw [in_ints]
    refine ⟨_, rfl, ite2 (fun hm => ?_) (fun hm => ?_)⟩
    · have e1 : nextS L ms st es = st := by
        unfold nextS
        rw [if_pos (of_decide_eq_true hm)]
      rw [e1] at q
      exact ⟨_, rfl, q H (Same.refl _)⟩
    · have hm2 : st ∉ ms := fun z => hm (decide_eq_true z)
      refine ⟨_, rfl, R, rfl, ⟨_, SqL.of hR⟩, for_list (xs := L.map fun r => .ref r.t) (fun i σ H1 => Same H H1 ∧ (∀ r ∈ L.take i, (decide (r.b = st) && fitsB r.vs es) = false) ∧ ∃ y4 y5 y6 y7 y8 : Option V, σ = [some (.ref R), some (.ref M), some (.int st), some (.ref e), y4, y5, y6, y7, y8])
        ⟨Same.refl _, (fun r hr2 => by simp at hr2), _, _, _, _, _, rfl⟩ (fun i σ H1 _ hp => seqL_same hp.1 hR) (fun i x σ H1 hx hp => ?_) (fun σ H1 hp => ?_)⟩
      · obtain ⟨s1, no, y4, y5, y6, y7, y8, rfl⟩ := hp
        rw [List.getElem?_map] at hx
        obtain ⟨r, hr2, rfl⟩ := Option.map_eq_some_iff.mp hx
        have Rr := (hL r (List.mem_of_getElem? hr2)).same s1
        have tk : L.take (i + 1) = L.take i ++ [r] := by rw [List.take_add_one, hr2]; rfl
        have next : ∀ H2, Same H1 H2 → (decide (r.b = st) && fitsB r.vs es) = false → Same H H2 ∧ (∀ q ∈ L.take (i + 1), (decide (q.b = st) && fitsB q.vs es) = false) := fun H2 s2 hf => by
          refine ⟨s1.trans s2, fun q hq => ?_⟩
          rw [tk] at hq
          rcases List.mem_append.mp hq with hq | hq
          · exact no q hq
          · rw [List.mem_singleton.mp hq]; exact hf
        have sP : SqT K H1 r.e r.vs := .inl (.inl Rr.ev)
        have sE : SqT K H1 e es := .inl (.inl (s1 _ _ he))
        have l3 := Rr.ok.len
        refine ⟨r.t, _, rfl, .inl (.inl Rr.row), rfl, _, _, rfl, _, _, rfl, _, _, rfl, rfl, ?_⟩
        refine ⟨_, rfl, _, r.vs.length, rfl, .inr ⟨_, sP, rfl⟩, (r.vs.length : Int), rfl, by omega, by omega, fun Dl hD => lc_it walk_range
          (fun i H2 => Same H1 H2 ∧ i ≤ r.vs.length ∧ ∃ acc : List V, H2 Dl = some (.lst acc) ∧ acc.length = ((List.range i).filter (hit r.vs es)).length) ⟨same_new hD, Nat.zero_le _, [], upd_same, rfl⟩ (fun _ _ _ _ => trivial) (fun j x H2 H2' hj hp2 hy => ?_) (fun H2 hp2 => ?_)⟩
        · obtain ⟨rfl, hx2⟩ := hy
          have hx3 : x = V.int (j : Int) := by
            rw [hx2]
            show V.int (0 + (j : Int)) = _
            rw [Int.zero_add]
          subst hx3
          obtain ⟨s2, _, acc, hacc, hlen⟩ := hp2
          have hj2 : j < r.vs.length := by simpa using hj
          have sub : ((List.range j).filter (hit r.vs es)).length ≤ j := Nat.le_trans (List.length_filter_le _ _) (by rw [List.length_range]; exact Nat.le_refl _)
          have stepF : hit r.vs es j = false → (Same H1 H2' ∧ j + 1 ≤ r.vs.length ∧ ∃ acc : List V, H2' Dl = some (.lst acc) ∧ acc.length = ((List.range (j + 1)).filter (hit r.vs es)).length) := fun hh =>
            ⟨s2, hj2, acc, hacc, by rw [List.range_succ, List.filter_append, List.filter_cons, hh, hlen]; simp⟩
          refine ⟨rfl, _, rfl, _, rfl, _, es.length, rfl, .inr ⟨_, same_seqT s2 sE, rfl⟩, _, _, rfl, rfl, _, rfl, ?_⟩
          by_cases hje : j < es.length
          · rw [decide_eq_true (show (j : Int) < (es.length : Int) by omega)]
            refine iteT ⟨_, rfl, _, rfl, r.e, _, (j : Int), r.vs[j], rfl, rfl, same_seqT s2 sP, atI_nat (List.getElem?_eq_getElem hj2), _, rfl, _, rfl, e, _, (j : Int), es[j], rfl, rfl, same_seqT s2 sE, atI_nat (List.getElem?_eq_getElem hje), Rr.ok.scal eok (List.getElem?_eq_getElem hj2) (List.getElem?_eq_getElem hje), _, rfl, ?_⟩
            by_cases hv : r.vs[j] = es[j]
            · rw [decide_eq_true hv]
              have hh : hit r.vs es j = true := by
                unfold hit
                rw [decide_eq_true hje, List.getElem?_eq_getElem hj2, List.getElem?_eq_getElem hje, hv]
                simp
              refine iteT ⟨_, rfl, acc, hacc, small1000 (by omega), fun b o eb => ?_, hj2, _, upd_same, ?_⟩
              · rw [upd_ne (ne_of_none eb hD)]
                exact s2 _ _ eb
              · rw [List.length_append, List.range_succ, List.filter_append, List.length_append, List.filter_cons, hh, hlen]
                simp
            · rw [decide_eq_false hv]
              refine iteF (stepF ?_)
              unfold hit
              rw [List.getElem?_eq_getElem hj2, List.getElem?_eq_getElem hje, decide_eq_false (fun z => hv (Option.some.inj z)), Bool.and_false]
          · rw [decide_eq_false (show ¬ (j : Int) < (es.length : Int) by omega)]
            refine iteF (stepF ?_)
            unfold hit
            rw [decide_eq_false hje, Bool.false_and]
        · obtain ⟨s2, _, acc, hacc, hlen⟩ := hp2
          have hlen2 : acc.length = ((List.range r.vs.length).filter (hit r.vs es)).length := by simpa using hlen
          refine ⟨_, rfl, _, rfl, rfl, _, rfl, ?_⟩
          by_cases hb : r.b = st
          · rw [decide_eq_true (show V.int r.b = V.int st by rw [hb])]
            refine iteT ⟨_, rfl, _, acc.length, rfl, .inl ⟨_, SqL.of hacc, rfl⟩, _, rfl, _, r.vs.length, rfl, .inr ⟨_, same_seqT s2 sP, rfl⟩, rfl, _, rfl, ?_⟩
            rw [hlen2, cnt_fits]
            refine ite2 (fun hf => ?_) (fun hf => ?_)
            · have found : nextS L ms st es = r.l := by
                unfold nextS
                rw [if_neg hm2]
                have hfind : (L.find? fun q => decide (q.b = st) && fitsB q.vs es) = some r := by
                  have hsplit : L = L.take i ++ r :: L.drop (i + 1) := by
                    have h1 := (List.take_append_drop (i + 1) L).symm
                    rw [tk, List.append_assoc] at h1
                    exact h1
                  rw [hsplit, List.find?_append]
                  have hn : (L.take i).find? (fun q => decide (q.b = st) && fitsB q.vs es) = none := by
                    rw [List.find?_eq_none]
                    intro q hq
                    rw [no q hq]
                    exact Bool.false_ne_true
                  rw [hn, List.find?_cons]
                  have hy2 : (decide (r.b = st) && fitsB r.vs es) = true := by rw [decide_eq_true hb, hf]; rfl
                  rw [hy2]
                  rfl
                rw [hfind]
              rw [found] at q
              exact ⟨_, rfl, q H2 (s1.trans s2)⟩
            · have hf2 : fitsB r.vs es = false := by simpa using hf
              obtain ⟨a1, a2⟩ := next H2 s2 (by rw [hf2, Bool.and_false])
              exact ⟨a1, a2, _, _, _, _, _, rfl⟩
          · rw [decide_eq_false (fun z => hb (V.int.inj z))]
            obtain ⟨a1, a2⟩ := next H2 s2 (by rw [decide_eq_false hb, Bool.false_and])
            exact iteF ⟨a1, a2, _, _, _, _, _, rfl⟩
      · obtain ⟨s1, no, y4, y5, y6, y7, y8, rfl⟩ := hp
        have e1 : nextS L ms st es = st := by
          unfold nextS
          rw [if_neg hm2]
          have hn : (L.find? fun q => decide (q.b = st) && fitsB q.vs es) = none := by
            rw [List.find?_eq_none]
            intro q hq
            rw [List.length_map, List.take_length] at no
            rw [no q hq]
            exact Bool.false_ne_true
          rw [hn]
        rw [e1] at q
        exact ⟨_, rfl, q H1 s1⟩
end
end Jo

set_option Elab.async false
set_option linter.all false
set_option maxRecDepth 100000
set_option maxHeartbeats 400000
namespace Jo
open PySem PySem.Spec PyProof.Rows L2
abbrev s_others : Stmt := top 32
/-! ### tuples joined and cut, tracked -/
theorem catA_tr {K : PySem.W.Frag} {H : Hp} {a b : Addr} {xs ys : List V} {Q : VK} (ha : H a = some (.tup xs)) (hb : H b = some (.tup ys)) (hl : xs.length + ys.length ≤ sizeLine)
    (q : ∀ p H', Same H H' → H' p = some (.tup (xs ++ ys)) → Q (.ref p) H') : rCatA K (.ref a) (.ref b) H Q := by
  refine ⟨a, b, xs, ys, rfl, rfl, .inl (.inl ha), .inl (.inl hb), hl, fun e => ?_, fun _ e => ?_, fun _ _ p hp => q p _ (same_new hp) upd_same⟩
  · subst e
    exact q b H (Same.refl _) hb
  · subst e
    exact q a H (Same.refl _) (by rw [List.append_nil]; exact ha)
theorem slA_tr {K : PySem.W.Frag} {H : Hp} {a : Addr} {xs : List V} {Q : VK} (ha : H a = some (.tup xs)) (q : ∀ p H', Same H H' → H' p = some (.tup (xs.drop 1)) → Q (.ref p) H') : rSlA K (.ref a) (some 1) none H Q := by
  have cut : cutV xs (some 1) none = xs.drop 1 := by
    unfold cutV
    rw [show HT.sIx xs.length 0 (some 1) = min 1 xs.length from HT.sIx_nat xs.length 0 1, HT.sIx_none]
    by_cases h : 1 ≤ xs.length
    · rw [Nat.min_eq_left h, List.take_of_length_le (by rw [List.length_drop]; omega)]
    · have e : xs = [] := List.eq_nil_of_length_eq_zero (by omega)
      subst e
      rfl
  refine ⟨a, xs, rfl, .inl (.inl ha), fun hw => ?_, fun _ p hp => q p _ (same_new hp) (by rw [upd_same, cut])⟩
  have h1 := hw.1
  rw [show HT.sIx xs.length 0 (some 1) = min 1 xs.length from HT.sIx_nat xs.length 0 1] at h1
  have e : xs = [] := List.eq_nil_of_length_eq_zero (by omega)
  subst e
  exact q a H (Same.refl _) ha
theorem eqvAll_len : ∀ {xs ys : List PyData}, xs.length ≠ ys.length → PyData.eqvAll xs ys = false
  | [], [], h => absurd rfl h
  | [], y :: ys, _ => rfl
  | x :: xs, [], _ => rfl
  | x :: xs, y :: ys, h => by
    show (PyData.eqv x y && PyData.eqvAll xs ys) = false
    rw [eqvAll_len (xs := xs) (ys := ys) (by intro e; exact h (by rw [List.length_cons, List.length_cons, e])), Bool.and_false]
theorem steps_len {L L2 : List Row} (h : L.length ≠ L2.length) : PyData.eqv (stepsD L) (stepsD L2) = false := by
  show PyData.eqvAll (L.map rowD) (L2.map rowD) = false
  exact eqvAll_len (by rw [List.length_map, List.length_map]; exact h)
theorem marks_eqv (ms ms2 : List Int) : PyData.eqv (marksD ms) (marksD ms2) = decide (ms = ms2) := by
  show PyData.eqvAll ((ms.map V.int).map toD) ((ms2.map V.int).map toD) = _
  rw [eqvAll_toD (fl_ints ms) (fl_ints ms2)]
  refine decide_eq_decide.mpr ⟨fun h => ?_, fun h => by rw [h]⟩
  exact List.map_inj_right (fun x y h => V.int.inj h) |>.mp h
/-- y differs from the rule of L and ms -/
def Diff (C : Addr) (H : Hp) (L : List Row) (ms : List Int) (y : V) : Prop :=
  (∃ (o S M : Addr) (L2 : List Row) (ms2 : List Int), y = .ref o ∧ RuleAt C H o S M L2 ms2 ∧ (L.length ≠ L2.length ∨ ms ≠ ms2)) ∨ (∃ a xs, y = .ref a ∧ H a = some (.tup xs)) ∨ y = .non ∨ (∃ b, y = .bl b) ∨ (∃ i, y = .int i) ∨ ∃ z, y = .str z
theorem Diff.same {C : Addr} {H H' : Hp} {L : List Row} {ms : List Int} {y : V} (d : Diff C H L ms y) (s : Same H H') : Diff C H' L ms y := by
  rcases d with ⟨o, S, M, L2, ms2, e, R, h⟩ | ⟨a, xs, e, h⟩ | d
  · exact .inl ⟨o, S, M, L2, ms2, e, R.same s, h⟩
  · exact .inr (.inl ⟨a, xs, e, s _ _ h⟩)
  · exact .inr (.inr d)
/-- the marks that the law draws -/
structure Mk4 (ms : List Int) : Prop where
  ok : MsOk ms
  two : ms.length ≤ 2
section
variable {P : Program} {w : World} {K : PySem.W.Frag} {mg : Str → Option Value} {base : Heap} {C fi : Addr}
def n_others : List Str := ["_law_rows", "_law_marks", "_law_found"]
theorem sc_others : FnScope n_others ["_law_rows", "_law_marks"] (defScope s_others) := ⟨rfl, rfl, rfl, by decide +kernel, rfl, by decide +kernel, by decide +kernel⟩
def spOthers (C : Addr) : Sp := fun vs H Q _ => ∃ (S M : Addr) (L : List Row) (ms : List Int), vs = [.ref S, .ref M] ∧ H S = some (.tup (L.map fun r => .ref r.t)) ∧ H M = some (.tup (ms.map V.int)) ∧ (∀ r ∈ L, RowAt H r) ∧ L.length ≤ 20 ∧ Mk4 ms ∧
  ∀ (R : Addr) (ys : List V) (H' : Hp), Same H H' → H' R = some (.lst ys) → (∀ y ∈ ys, Diff C H' L ms y) → Q (.ref R) H'
/-- what a new rule leads to -/
theorem init_of {Q2 : VK} {H : Hp} {S M x dx : Addr} {L : List Row} {ms : List Int} (hx : H x = none) (hdx : H dx = none) (hS : H S = some (.tup (L.map fun r => .ref r.t))) (hM : H M = some (.tup (ms.map V.int))) (hL : ∀ r ∈ L, RowAt H r) (ok : MsOk ms)
    (q : ∀ H', Same H H' → RuleAt C H' x S M L ms → Q2 .non H') : spInit C (.ref x :: ([.ref S, .ref M] ++ [])) (upd (upd H dx (.own x)) x (.ins C dx [])) Q2 E0 := by
  have s1 : Same H (upd (upd H dx (.own x)) x (.ins C dx [])) := fun b o e => by
    rw [upd_ne (ne_of_none e hx), upd_ne (ne_of_none e hdx)]
    exact e
  exact ⟨x, dx, S, M, L, ms, rfl, upd_same, s1 _ _ hS, s1 _ _ hM, fun r hr => (hL r hr).same s1, ok, fun H' R kp => q H' (fun b o e => kp _ _ (s1 _ _ e) (ne_of_none e hx)) R⟩
theorem MsOk.drop {ms : List Int} (h : MsOk ms) : MsOk (ms.drop 1) := ⟨h.nd.sublist (List.drop_sublist _ _), fun m hm => h.in_ m (List.mem_of_mem_drop hm)⟩
def altM (ms : List Int) : List Int := if ms = [] then [7] else ms.drop 1
theorem altM_ok {ms : List Int} (h : MsOk ms) : MsOk (altM ms) := by
  unfold altM
  by_cases e : ms = []
  · rw [if_pos e]
    exact ⟨by decide, by decide⟩
  · rw [if_neg e]
    exact h.drop
theorem altM_ne (ms : List Int) : ms ≠ altM ms := by
  unfold altM
  by_cases e : ms = []
  · rw [if_pos e, e]
    decide
  · rw [if_neg e]
    intro h
    have h2 := congrArg List.length h
    rw [List.length_drop] at h2
    have := List.length_pos_iff.mpr e
    omega
/-- marks[1:] if marks != () else (7,) -/
theorem marks_alt {σ : L2.St} {H : Hp} {M : Addr} {ms : List Int} {Q : VK} (h0 : σ[1]? = some (some (.ref M))) (hM : H M = some (.tup (ms.map V.int)))
    (q : ∀ Mx H', Same H H' → H' Mx = some (.tup ((altM ms).map V.int)) → Q (.ref Mx) H') :
    tIf (tTest (tOp (rNeD K) (tVar 1) (tTup tNil))) (tSl (rSlA K) (tVar 1) (tPart (tC (.int 1))) tNoPart) (tTup (tCons (tC (.int 7)) tNil)) σ H Q := by
  refine ⟨_, h0, (show 0 ≤ sizeLine by decide), fun t ht => ?_⟩
  have s1 := same_new (o := .tup []) ht
  have hM1 := s1 _ _ hM
  refine ⟨marksD ms, .tuple [], .tup (.inl (.inl hM1)) (dpAll_toD (fl_ints ms)), .tup (.inl (.inl upd_same)) .nil, shaped_marks ms, by decide +kernel, _, rfl, ?_⟩
  have ev : PyData.eqv (marksD ms) (.tuple []) = decide (ms = []) := marks_eqv ms []
  rw [ev]
  by_cases e : ms = []
  · rw [decide_eq_true e]
    refine iteF ⟨(show 1 ≤ sizeLine by decide), fun p hp => ?_⟩
    refine q p _ (s1.trans (same_new hp)) ?_
    rw [upd_same]
    unfold altM
    rw [if_pos e]
    rfl
  · rw [decide_eq_false e]
    refine iteT ⟨_, h0, 1, rfl, slA_tr hM1 fun p H' s2 hp => ?_⟩
    refine q p _ (s1.trans s2) ?_
    rw [hp]
    unfold altM
    rw [if_neg e, List.map_drop]
theorem ok_others (T : Txt K mg) (RT : RTxt K mg C) (M0 : Mk K C fi) (D : Dfn K mg "_law_others" s_others ["_law_rows", "_law_marks"])
    (m_init : MtF P w K mg base 5 C "__init__" ["self", "steps", "bad"] (spInit C)) : CalG P w K mg base 7 "_law_others" ["_law_rows", "_law_marks"] (spOthers C) := by
  refine D.ok sc_others (fun vs H Q E h => ?_) (fun f cdv A fr s H vs Q E hr hgd h => ?_)
  · obtain ⟨S, M, L, ms, rfl, _⟩ := h
    rfl
  · obtain ⟨S, M, L, ms, rfl, hS, hM, hL, l20, mk, q⟩ := h
    refine ⟨_, pss_cons (ps_set (i := 2) sc_others.nd rfl (.inl rfl) (pe_lst (pa_cons (pe_mkF M0 m_init hr (by decide) rfl RT.mgC (pa_cons (pe_op op_catA (pv 0) (pe_tup (pa_cons (pe_tup (pa_cons pe_int (pa_cons (pe_tup (pa_cons pe_str pa_nil)) (pa_cons pe_int pa_nil)))) pa_nil))) (pa_cons (pv 1) pa_nil))) (pa_cons (pe_mkF M0 m_init hr (by decide) rfl RT.mgC (pa_cons (pv 0) (pa_cons (pe_ifExp (pt_cmpR (op_neD hr.units) (pv 1) (pe_tup pa_nil) (nomark _)) (pe_slice sl_tupA (pv 1) (po_some pe_int) po_none) (pe_tup (pa_cons pe_int pa_nil))) pa_nil))) pa_nil))))
      (C8.pss_cut (ps_if (pt_cmpR op_eq (pe_callB call_len rfl T.b_len (by decide +kernel) (pa_cons (pv 1) pa_nil)) pe_int (nomark _))
        (pss_one (ps_expr (pe_bm PySem.F.plainAttrs_list PySem.F.slot_list_append PySem.F.type_list_append mt_append (pv 2) (pa_cons (pe_mkF M0 m_init hr (by decide) rfl RT.mgC (pa_cons (pv 0) (pa_cons (pe_tup (pa_cons (pe_ix ix_tup (pv 1) pe_int (fun _ _ => rfl)) (pa_cons (pe_ix ix_tup (pv 1) pe_int (fun _ _ => rfl)) pa_nil))) pa_nil))) pa_nil))))
        (pss_nil))
      (C8.pss_cut (ps_if (pt_cmpR (op_neD hr.units) (pv 0) (pe_tup pa_nil) (nomark _))
        (pss_one (ps_expr (pe_bm PySem.F.plainAttrs_list PySem.F.slot_list_append PySem.F.type_list_append mt_append (pv 2) (pa_cons (pe_mkF M0 m_init hr (by decide) rfl RT.mgC (pa_cons (pe_slice sl_tupA (pv 0) (po_some pe_int) po_none) (pa_cons (pv 1) pa_nil))) pa_nil))))
        (pss_nil))
      (pss_one (ps_ret (pe_op op_cat (pv 2) (pe_lst (pa_cons (pv 0) (pa_cons (pe_tup (pa_cons (pv 0) (pa_cons (pv 1) pa_nil))) (pa_cons pe_non (pa_cons pe_bl (pa_cons pe_int (pa_cons pe_str pa_nil)))))))))))), ?_⟩
    have okM := mk.ok
    -- the first rule: a step more
    refine ⟨_, rfl, (show 1 ≤ sizeLine by decide), fun t1 ht1 => ⟨(show 3 ≤ sizeLine by decide), fun t2 ht2 => ⟨(show 1 ≤ sizeLine by decide), fun t3 ht3 => ?_⟩⟩⟩
    have s1 := same_new (o := .tup [V.str hangE]) ht1
    have s2 := same_new (o := .tup [V.int 0, V.ref t1, V.int 5]) ht2
    have s3 := same_new (o := .tup [V.ref t2]) ht3
    have s13 := (s1.trans s2).trans s3
    let rw0 : Row := ⟨t2, 0, t1, [V.str hangE], 5⟩
    have hrw : RowAt _ rw0 := ⟨s3 _ _ upd_same, (s2.trans s3) _ _ upd_same, .hang, (show (0 : Int) ≤ 0 by decide), (show (0 : Int) ≤ 99 by decide), (show (0 : Int) ≤ 5 by decide), (show (5 : Int) ≤ 99 by decide)⟩
    have hlen : (L.map fun r => V.ref r.t).length + 1 ≤ sizeLine := by rw [List.length_map]; exact Nat.le_of_lt (small1000 (by omega))
    refine catA_tr (s13 _ _ hS) upd_same hlen fun S1 H1 u1 hS1 => ?_
    have w1 := s13.trans u1
    have hS1' : H1 S1 = some (.tup ((L ++ [rw0]).map fun r => V.ref r.t)) := by rw [hS1, List.map_append]; rfl
    refine ⟨_, rfl, fun o1 dx1 hx1 hd1 _ => init_of hx1 hd1 hS1' (w1 _ _ hM) (fun r hr2 => ?_) okM fun H2 u2 R1 => ⟨rfl, ?_⟩⟩
    · rcases List.mem_append.mp hr2 with hr2 | hr2
      · exact (hL r hr2).same w1
      · rw [List.mem_singleton.mp hr2]
        exact hrw.same u1
    have w2 := w1.trans u2
    -- the second: other bad states
    refine ⟨_, rfl, marks_alt (σ := _) rfl (w2 _ _ hM) fun M2 H3 u3 hM2 => ?_⟩
    have w3 := w2.trans u3
    refine fun o2 dx2 hx2 hd2 _ => init_of hx2 hd2 (w3 _ _ hS) hM2 (fun r hr2 => (hL r hr2).same w3) (altM_ok okM) fun H4 u4 R2 => ⟨rfl, ?_⟩
    have w4 := w3.trans u4
    refine ⟨(show 2 ≤ sizeLine by decide), fun F hF => ?_⟩
    have u5 := same_new (o := .lst [V.ref o1, V.ref o2]) hF
    have w5 := w4.trans u5
    have d1 : Diff C H4 L ms (.ref o1) := .inl ⟨o1, S1, M, L ++ [rw0], ms, rfl, R1.same (u3.trans u4), .inl (by rw [List.length_append]; simp)⟩
    have d2 : Diff C H4 L ms (.ref o2) := .inl ⟨o2, S, M2, L, altM ms, rfl, R2, .inr (altM_ne ms)⟩
    -- the list grows: every item differs, what stood stands but the list
    refine ⟨fun σ H6 => ∃ ys : List V, σ = [some (.ref S), some (.ref M), some (.ref F)] ∧ Same H4 H6 ∧ H6 F = some (.lst ys) ∧ ys.length ≤ 5 ∧ ∀ y ∈ ys, Diff C H6 L ms y, ?_, ?_⟩
    · refine ⟨_, rfl, _, ms.length, rfl, .inr ⟨_, .inl (.inl (w5 _ _ hM)), by rw [List.length_map]⟩, rfl, _, rfl, ite2 (fun e => ?_) (fun e => ?_)⟩
      · have e2 : ms.length = 2 := by
          have := V.int.inj (of_decide_eq_true e)
          omega
        obtain ⟨a, b, rfl⟩ : ∃ a b, ms = [a, b] := by
          match ms, e2 with
          | [a, b], _ => exact ⟨a, b, rfl⟩
        have hM5 := w5 _ _ hM
        refine ⟨_, rfl, .inl ⟨rfl, _, .inl (.inl upd_same)⟩, _, rfl, _, rfl, M, _, 1, V.int b, rfl, rfl, .inl (.inl hM5), rfl, _, rfl, M, _, 0, V.int a, rfl, rfl, .inl (.inl hM5), rfl, (show 2 ≤ sizeLine by decide), fun M3 hM3 => ?_⟩
        have u6 := same_new (o := .tup [V.int b, V.int a]) hM3
        have w6 := w5.trans u6
        have okS : MsOk [b, a] := ⟨by have h := okM.nd; simp at h ⊢; exact fun z => h z.symm, fun m hm => okM.in_ m (by simp at hm ⊢; rcases hm with h | h; exact .inr h; exact .inl h)⟩
        refine fun o3 dx3 hx3 hd3 _ => init_of (ms := [b, a]) hx3 hd3 (w6 _ _ hS) upd_same (fun r hr2 => (hL r hr2).same w6) okS fun H7 u7 R3 => ⟨rfl, ?_⟩
        have hF7 := u7 _ _ (u6 _ _ (upd_same (H := H4) (a := F) (o := .lst [V.ref o1, V.ref o2])))
        refine ⟨F, _, _, rfl, rfl, hF7, (show 2 < sizeLine by decide), ?_⟩
        have keepF : Same H4 (upd H7 F (.lst ([V.ref o1, V.ref o2] ++ [V.ref o3]))) := fun z o ez => by
          rw [upd_ne (ne_of_none ez hF)]
          exact (u5.trans (u6.trans u7)) _ _ ez
        refine ⟨_, rfl, keepF, upd_same, (show 3 ≤ 5 by decide), fun y hy => ?_⟩
        simp only [List.cons_append, List.nil_append, List.mem_cons, List.not_mem_nil, or_false] at hy
        rcases hy with rfl | rfl | rfl
        · exact d1.same keepF
        · exact d2.same keepF
        · have noF : ∀ {z : Addr} {o : HO}, H7 z = some o → (∀ xs, o ≠ .lst xs) → (upd H7 F (.lst ([V.ref o1, V.ref o2] ++ [V.ref o3]))) z = some o := fun {z o} ez no => by
            rw [upd_ne (fun e3 => by rw [e3, hF7] at ez; cases ez; exact no _ rfl)]
            exact ez
          obtain ⟨dx3, e3⟩ := R3.ob
          exact .inl ⟨o3, S, M3, L, [b, a], rfl, ⟨⟨dx3, noF e3 (fun _ z => by cases z)⟩, noF R3.st (fun _ z => by cases z), noF R3.bd (fun _ z => by cases z), fun r hr2 => ((hL r hr2).same w4).same keepF⟩, .inr (fun z => by
            have h := okM.nd
            simp at h z
            exact h z.1)⟩
      · refine ⟨_, rfl, u5, upd_same, (show 2 ≤ 5 by decide), fun y hy => ?_⟩
        simp only [List.mem_cons, List.not_mem_nil, or_false] at hy
        rcases hy with rfl | rfl
        · exact d1.same u5
        · exact d2.same u5
    · rintro σ H6 ⟨ys, rfl, k6, hF6, y5, dy⟩
      have w6 := w4.trans k6
      refine ⟨fun σ H8 => ∃ ys : List V, σ = [some (.ref S), some (.ref M), some (.ref F)] ∧ Same H4 H8 ∧ H8 F = some (.lst ys) ∧ ys.length ≤ 6 ∧ ∀ y ∈ ys, Diff C H8 L ms y, ?_, ?_⟩
      · refine ⟨_, rfl, (show 0 ≤ sizeLine by decide), fun t ht => ?_⟩
        have v1 := same_new (o := .tup []) ht
        have w7 := w6.trans v1
        refine ⟨stepsD L, .tuple [], .tup (.inl (.inl (w7 _ _ hS))) (dp_rows fun r hr2 => (hL r hr2).same w7), .tup (.inl (.inl upd_same)) .nil, shaped_steps (rows_fl hL), by decide +kernel, _, rfl, ?_⟩
        have stay : ∃ ys : List V, ([some (.ref S), some (.ref M), some (.ref F)] : L2.St) = [some (.ref S), some (.ref M), some (.ref F)] ∧ Same H4 (upd H6 t (.tup [])) ∧ (upd H6 t (.tup [])) F = some (.lst ys) ∧ ys.length ≤ 6 ∧ ∀ y ∈ ys, Diff C (upd H6 t (.tup [])) L ms y :=
          ⟨ys, rfl, k6.trans v1, v1 _ _ hF6, by omega, fun y hy => (dy y hy).same v1⟩
        by_cases hn : L = []
        · subst hn
          exact iteF stay
        · have ev : PyData.eqv (stepsD L) (.tuple []) = false := steps_len (L2 := []) (by have := List.length_pos_iff.mpr hn; simp; exact hn)
          rw [ev]
          refine iteT ⟨_, rfl, .inl ⟨rfl, _, .inl (.inl (v1 _ _ hF6))⟩, _, rfl, 1, rfl, ?_⟩
          dsimp only [tNoPart]
          refine slA_tr (w7 _ _ hS) fun S4 H7 v2 hS4 => ?_
          have w8 := w7.trans v2
          have hS4' : H7 S4 = some (.tup ((L.drop 1).map fun r => V.ref r.t)) := by rw [hS4, List.map_drop]
          refine ⟨_, rfl, fun o4 dx4 hx4 hd4 _ => init_of hx4 hd4 hS4' (w8 _ _ hM) (fun r hr2 => (hL r (List.mem_of_mem_drop hr2)).same w8) okM fun H8 v3 R4 => ⟨rfl, ?_⟩⟩
          have hF8 := v3 _ _ (v2 _ _ (v1 _ _ hF6))
          have keepF : Same H4 (upd H8 F (.lst (ys ++ [V.ref o4]))) := fun z o ez => by
            rw [upd_ne (ne_of_none ez hF)]
            exact (((k6.trans v1).trans v2).trans v3) _ _ ez
          have noF : ∀ {z : Addr} {o : HO}, H8 z = some o → (∀ xs, o ≠ .lst xs) → (upd H8 F (.lst (ys ++ [V.ref o4]))) z = some o := fun {z o} ez no => by
            rw [upd_ne (fun e3 => by rw [e3, hF8] at ez; cases ez; exact no _ rfl)]
            exact ez
          have moveF : ∀ {o S' M' : Addr} {L' : List Row} {ms' : List Int}, RuleAt C H8 o S' M' L' ms' → RuleAt C (upd H8 F (.lst (ys ++ [V.ref o4]))) o S' M' L' ms' := fun {o S' M' L' ms'} R => by
            obtain ⟨dx3, e3⟩ := R.ob
            exact ⟨⟨dx3, noF e3 (fun _ z => by cases z)⟩, noF R.st (fun _ z => by cases z), noF R.bd (fun _ z => by cases z), fun r hr2 => by
              have Rr := R.rows r hr2
              exact ⟨noF Rr.row (fun _ z => by cases z), noF Rr.ev (fun _ z => by cases z), Rr.ok, Rr.b0, Rr.b1, Rr.l0, Rr.l1⟩⟩
          refine ⟨F, _, _, rfl, rfl, hF8, small1000 (by omega), ⟨_, rfl, keepF, upd_same, by rw [List.length_append]; show ys.length + 1 ≤ 6; omega, fun y hy => ?_⟩⟩
          rcases List.mem_append.mp hy with hy | hy
          · have dd := (dy y hy).same ((v1.trans v2).trans v3)
            rcases dd with ⟨o, S', M', L2, ms2, e, R, h⟩ | ⟨a, xs, e, h⟩ | dd
            · exact .inl ⟨o, S', M', L2, ms2, e, moveF R, h⟩
            · exact .inr (.inl ⟨a, xs, e, noF h (fun _ z => by cases z)⟩)
            · exact .inr (.inr dd)
          · rw [List.mem_singleton.mp hy]
            exact .inl ⟨o4, S4, M, L.drop 1, ms, rfl, moveF R4, .inl (by rw [List.length_drop]; have := List.length_pos_iff.mpr hn; omega)⟩
      · rintro σ H8 ⟨zs, rfl, k8, hF8, z6, dz⟩
        have w8 := w4.trans k8
        refine ⟨_, rfl, _, rfl, _, rfl, _, rfl, (show 2 ≤ sizeLine by decide), fun t5 ht5 => ⟨(show 6 ≤ sizeLine by decide), fun l2 hl2 => ?_⟩⟩
        have v5 := same_new (o := .tup [V.ref S, V.ref M]) ht5
        have v6 := same_new (o := .lst [V.ref S, V.ref t5, V.non, V.bl true, V.int 0, V.str (Str.ofString "")]) hl2
        have v56 := v5.trans v6
        refine ⟨F, l2, _, _, rfl, rfl, v56 _ _ hF8, upd_same, ?_, fun R hR => ?_⟩
        · show zs.length + 6 ≤ sizeLine
          exact Nat.le_of_lt (small1000 (by omega))
        · have v7 := same_new (o := .lst (zs ++ [V.ref S, V.ref t5, V.non, V.bl true, V.int 0, V.str (Str.ofString "")])) hR
          have v57 := v56.trans v7
          refine q R _ _ (w8.trans v57) upd_same fun y hy => ?_
          rcases List.mem_append.mp hy with hy | hy
          · exact (dz y hy).same v57
          · simp only [List.mem_cons, List.not_mem_nil, or_false] at hy
            rcases hy with rfl | rfl | rfl | rfl | rfl | rfl
            · exact .inr (.inl ⟨S, _, rfl, v57 _ _ (w8 _ _ hS)⟩)
            · exact .inr (.inl ⟨t5, _, rfl, v7 _ _ (v6 _ _ upd_same)⟩)
            · exact .inr (.inr (.inl rfl))
            · exact .inr (.inr (.inr (.inl ⟨_, rfl⟩)))
            · exact .inr (.inr (.inr (.inr (.inl ⟨_, rfl⟩))))
            · exact .inr (.inr (.inr (.inr (.inr ⟨_, rfl⟩))))
end
end Jo

set_option Elab.async false
set_option linter.all false
set_option maxRecDepth 100000
set_option maxHeartbeats 400000
namespace Jo
open PySem PySem.Spec PyProof.Rows L2
/-! ### the sizes of what is shown -/
theorem tupleText_le (ts : List Str) : (tupleText ts).length ≤ 3 + piled ts := by
  unfold tupleText
  rw [Str.length_append, Str.length_append]
  have h1 : (("(" : Str)).length = 1 := by decide
  have h2 : (Str.ofString (if (ts.length == 1) = true then ",)" else ")")).length ≤ 2 := by
    by_cases h : (ts.length == 1) = true
    · rw [if_pos h]; decide
    · rw [if_neg h]; decide
  have h3 : (Str.join ", " ts).length ≤ piled ts := by
    by_cases h : ts = []
    · subst h; exact Nat.le_refl _
    · have := join_length_add ts h
      omega
  rw [h1]
  omega
theorem textFrom_le : ∀ (ts : List Str) (k : Nat) (acc : Str), (textFrom k acc ts).length ≤ acc.length + piled ts
  | [], _, acc => by show acc.length ≤ _; omega
  | t :: r, k, acc => by
    unfold textFrom
    refine Nat.le_trans (textFrom_le r _ _) ?_
    rw [piled_cons]
    have h2 : ((if k > 0 then ", " else "" : String) : Str).length ≤ 2 := by
      by_cases h : k > 0
      · rw [if_pos h]; decide
      · rw [if_neg h]; decide
    simp only [Str.length_append]
    omega
theorem listText_le (ts : List Str) : (listText ts).length ≤ 2 + piled ts := by
  unfold listText
  rw [Str.length_append]
  have h1 := textFrom_le ts 0 "["
  have h2 : (("[" : Str)).length = 1 := by decide
  have h3 : (("]" : Str)).length = 1 := by decide
  omega
/-- data that may be shown: how long at most -/
structure Sh (d : PyData) (n : Nat) : Prop where
  ok : d.showable = true
  nd : d.hasDict = false
  len : d.shown.length ≤ n
theorem Sh.int {i : Int} (h : i.natAbs.log2 < 1920) : Sh (.int i) 1921 := ⟨decide_eq_true h, rfl, int_text_len_1921 h⟩
theorem Sh.str {z : Str} {n : Nat} (hz : PyData.strOk z = true) (hl : z.length ≤ n) : Sh (.str z) (10 * n + 2) := by
  refine ⟨rfl, rfl, ?_⟩
  have h1 := StrLaws.reprText_len z (fun c hc => by
    unfold PyData.strOk at hz
    rw [Array.all_eq_true'] at hz
    have := of_decide_eq_true (hz c (by simpa using hc))
    exact Nat.lt_of_lt_of_le this (by decide))
  show (reprText z).length ≤ _
  omega
inductive ShAll : List PyData → Nat → Prop where
  | nil : ShAll [] 0
  | cons {d : PyData} {ds : List PyData} {n m : Nat} : Sh d n → ShAll ds m → ShAll (d :: ds) (n + 2 + m)
theorem ShAll.all {ds : List PyData} {m : Nat} (h : ShAll ds m) : PyData.showableAll ds = true ∧ PyData.hasDictAll ds = false ∧ piled (PyData.shownAll ds) ≤ m := by
  induction h with
  | nil => exact ⟨rfl, rfl, Nat.le_refl _⟩
  | @cons d ds n m h1 h2 ih =>
    refine ⟨?_, ?_, ?_⟩
    · show (PyData.showable d && PyData.showableAll ds) = true
      rw [h1.ok, ih.1]; rfl
    · show (PyData.hasDict d || PyData.hasDictAll ds) = false
      rw [h1.nd, ih.2.1]; rfl
    · show piled (PyData.shown d :: PyData.shownAll ds) ≤ _
      rw [piled_cons]
      have := h1.len
      have := ih.2.2
      omega
theorem Sh.tup {ds : List PyData} {m n : Nat} (h : ShAll ds m) (hn : 3 + m ≤ n) : Sh (.tuple ds) n :=
  ⟨h.all.1, h.all.2.1, Nat.le_trans (tupleText_le _) (by have := h.all.2.2; omega)⟩
theorem Sh.lst {ds : List PyData} {m n : Nat} (h : ShAll ds m) (hn : 2 + m ≤ n) : Sh (.list ds) n :=
  ⟨h.all.1, h.all.2.1, Nat.le_trans (listText_le _) (by have := h.all.2.2; omega)⟩
theorem sh_ev {xs : List V} (h : EvS xs) : Sh (.tuple (xs.map toD)) 3000 := by
  have hw : ∀ w ∈ wordsE, PyData.strOk w = true ∧ w.length ≤ 8 := by decide +kernel
  cases h with
  | hang => exact .tup (.cons (.str (n := 8) (by decide +kernel) (by decide)) .nil) (by decide)
  | two h1 h2 h3 => exact .tup (.cons (.str (hw _ h1).1 (hw _ h1).2) (.cons (.str (PyData.strOk_nm h2) h3) .nil)) (by decide)
  | three h1 h2 h3 h4 => exact .tup (.cons (.str (hw _ h1).1 (hw _ h1).2) (.cons (.str (PyData.strOk_nm h2) h3) (.cons (.int (Nat.lt_of_lt_of_le (PySem.Flt.log2_lt_of (by decide) h4) (by decide))) .nil))) (by decide)
theorem sh_st {n : Int} (h0 : 0 ≤ n) (h1 : n ≤ 99) : Sh (.int n) 1921 := .int (Nat.lt_of_lt_of_le (PySem.Flt.log2_lt_of (k := 7) (by decide) (show n.natAbs < 2 ^ 7 by omega)) (by decide))
theorem sh_row {H : Hp} {r : Row} (R : RowAt H r) : Sh (rowD r) 8000 :=
  .tup (.cons (sh_st R.b0 R.b1) (.cons (sh_ev R.ok) (.cons (sh_st R.l0 R.l1) .nil))) (by decide)
theorem sh_rows {H : Hp} : ∀ {L : List Row}, (∀ r ∈ L, RowAt H r) → ShAll (L.map rowD) (8002 * L.length)
  | [], _ => .nil
  | r :: L, h => by
    have h2 := sh_rows (L := L) fun q hq => h q (List.mem_cons_of_mem _ hq)
    have h3 := ShAll.cons (sh_row (h r List.mem_cons_self)) h2
    have e : 8000 + 2 + 8002 * L.length = 8002 * (r :: L).length := by rw [List.length_cons]; omega
    rw [e] at h3
    exact h3
theorem sh_steps {H : Hp} {L : List Row} (h : ∀ r ∈ L, RowAt H r) (hl : L.length ≤ 20) : Sh (stepsD L) 170000 := .tup (sh_rows h) (by omega)
theorem sh_ints : ∀ {ms : List Int}, (∀ m ∈ ms, 0 ≤ m ∧ m ≤ 99) → ShAll ((ms.map V.int).map toD) (1923 * ms.length)
  | [], _ => .nil
  | m :: ms, h => by
    have h2 := sh_ints (ms := ms) fun q hq => h q (List.mem_cons_of_mem _ hq)
    have hm := h m List.mem_cons_self
    have h3 := ShAll.cons (sh_st hm.1 hm.2) h2
    have e : 1921 + 2 + 1923 * ms.length = 1923 * (m :: ms).length := by rw [List.length_cons]; omega
    rw [e] at h3
    exact h3
theorem sh_marks {ms : List Int} (h : MsOk ms) (hl : ms.length ≤ 20) : Sh (marksD ms) 40000 := .tup (sh_ints h.in_) (by omega)
/-! ### as values -/
theorem shw_flat {K : PySem.W.Frag} {H : Hp} {n : Nat} : ∀ {xs : List V}, xs.all fl = true → Paired (Shw K H (n + 1)) xs (xs.map toD)
  | [], _ => .nil
  | x :: xs, h => by
    rw [List.all_cons, Bool.and_eq_true] at h
    refine .cons ?_ (shw_flat h.2)
    cases x <;> first | (cases h.1; done) | exact .int _ | exact .str _
theorem shw_rows {K : PySem.W.Frag} {H : Hp} {n : Nat} : ∀ {L : List Row}, (∀ r ∈ L, RowAt H r) → Paired (Shw K H (n + 3)) (L.map fun r => .ref r.t) (L.map rowD)
  | [], _ => .nil
  | r :: L, h => by
    have R := h r List.mem_cons_self
    exact .cons (.tup (.inl (.inl R.row)) (.cons (.int _) (.cons (.tup (.inl (.inl R.ev)) (shw_flat R.ok.fl)) (.cons (.int _) .nil)))) (shw_rows fun q hq => h q (List.mem_cons_of_mem _ hq))
/-- [steps, bad] -/
def bothD (L : List Row) (ms : List Int) : PyData := .list [stepsD L, marksD ms]
theorem shw_both {K : PySem.W.Frag} {H : Hp} {a S M : Addr} {L : List Row} {ms : List Int} (ha : H a = some (.lst [.ref S, .ref M])) (hS : H S = some (.tup (L.map fun r => .ref r.t))) (hM : H M = some (.tup (ms.map V.int))) (hL : ∀ r ∈ L, RowAt H r) :
    Shw K H 6 (.ref a) (bothD L ms) :=
  .lst (.of ha) (.cons (.tup (.inl (.inl hS)) (shw_rows hL)) (.cons (.tup (.inl (.inl hM)) (shw_flat (n := 3) (fl_ints ms))) .nil))
theorem both_ok {H : Hp} {L : List Row} {ms : List Int} (hL : ∀ r ∈ L, RowAt H r) (l20 : L.length ≤ 20) (mk : Mk4 ms) :
    (bothD L ms).showable = true ∧ (bothD L ms).hasDict = false ∧ (bothD L ms).depth ≤ 60 ∧ (bothD L ms).shown.length ≤ sizeLine := by
  have h : Sh (bothD L ms) 300000 := .lst (.cons (sh_steps hL l20) (.cons (sh_marks mk.ok (by have := mk.two; omega)) .nil)) (by decide)
  refine ⟨h.ok, h.nd, ?_, Nat.le_trans h.len (by decide)⟩
  have a2 := (rowsD_ok (rows_fl hL)).2
  show max (PyData.depthAll (L.map rowD) + 1) (max (PyData.depthAll ((ms.map V.int).map toD) + 1) 0) + 1 ≤ 60
  rw [depth_toD]
  omega
theorem two_ok {a b : Int} (a0 : 0 ≤ a) (a1 : a ≤ 99) (b0 : 0 ≤ b) (b1 : b ≤ 99) : (PyData.list [.int a, .int b]).showable = true ∧ (PyData.list [.int a, .int b]).hasDict = false ∧ (PyData.list [.int a, .int b]).depth ≤ 60 ∧ (PyData.list [.int a, .int b]).shown.length ≤ sizeLine := by
  have h : Sh (PyData.list [.int a, .int b]) 4000 := .lst (.cons (sh_st a0 a1) (.cons (sh_st b0 b1) .nil)) (by decide)
  exact ⟨h.ok, h.nd, (by show max 0 (max 0 0) + 1 ≤ 60; decide), Nat.le_trans h.len (by decide)⟩
end Jo

set_option Elab.async false
set_option linter.all false
set_option maxRecDepth 100000
set_option maxHeartbeats 1000000
namespace Jo
open PySem PySem.Spec PyProof.Rows L2
abbrev s_right : Stmt := top 33
/-! ### tuples stay -/
def Tk (H H' : Hp) : Prop := ∀ z xs, H z = some (.tup xs) → H' z = some (.tup xs)
theorem Tk.trans {H H1 H2 : Hp} (a : Tk H H1) (b : Tk H1 H2) : Tk H H2 := fun z xs e => b z xs (a z xs e)
theorem BagAt.notup {H : Hp} {p z : Addr} {xs : List V} (b : BagAt H p) (e : H z = some (.tup xs)) : z ≠ p := fun h => by
  obtain ⟨x, y, w, e2⟩ := b
  rw [h, e2] at e
  cases e
theorem tk_kp {p : Addr} {H H' : Hp} (b : BagAt H p) (k : Kp p H H') : Tk H H' := fun z xs e => k _ _ e (b.notup e)
theorem RowAt.tk {H H' : Hp} {r : Row} (h : RowAt H r) (k : Tk H H') : RowAt H' r := ⟨k _ _ h.row, k _ _ h.ev, h.ok, h.b0, h.b1, h.l0, h.l1⟩
theorem BagAt.noins {C dx : Addr} {fs : List (Str × V)} {H : Hp} {p z : Addr} (b : BagAt H p) (e : H z = some (.ins C dx fs)) : z ≠ p := fun h => by
  obtain ⟨x, y, w, e2⟩ := b
  rw [h, e2] at e
  cases e
theorem BagAt.new {H : Hp} {p z : Addr} (b : BagAt H p) (e : H z = none) : z ≠ p := fun h => by
  obtain ⟨x, y, w, e2⟩ := b
  rw [h, e2] at e
  cases e
theorem RuleAt.kp {C : Addr} {H H' : Hp} {p o S M : Addr} {L : List Row} {ms : List Int} (h : RuleAt C H o S M L ms) (b : BagAt H p) (k : Kp p H H') : RuleAt C H' o S M L ms := by
  obtain ⟨dx, e⟩ := h.ob
  have t := tk_kp b k
  exact ⟨⟨dx, k _ _ e (b.noins e)⟩, t _ _ h.st, t _ _ h.bd, fun r hr => (h.rows r hr).tk t⟩
/-! ### equal or not -/
structure NTxt (K : PySem.W.Frag) (C : Addr) : Prop where
  n1 : PySem.W.notFirst K C (.type "tuple") = true
  n2 : PySem.W.notFirst K C (.type "NoneType") = true
  n3 : PySem.W.notFirst K C (.type "bool") = true
  n4 : PySem.W.notFirst K C (.type "int") = true
  n5 : PySem.W.notFirst K C (.type "str") = true
  ne : PySem.W.findIn K (.ref C) "__ne__" = some (some (.builtin "object.__ne__"))
  sub : PySem.W.subIn K (.ref C) (.type "object") = some true
theorem n_self (K : PySem.W.Frag) (C : Addr) : PySem.W.notFirst K C (.ref C) = true := by
  unfold PySem.W.notFirst
  simp
theorem diff_eq {K : PySem.W.Frag} {mg : Str → Option Value} {C : Addr} (RT : RTxt K mg C) (NT : NTxt K C) {H : Hp} {L : List Row} {ms : List Int} {y : V} (d : Diff C H L ms y) :
    ∃ t, EqT K C H L ms y false ∧ TyX K H y t ∧ PySem.W.notFirst K C t = true := by
  rcases d with ⟨o, S, M, L2, ms2, rfl, R, h⟩ | ⟨a, xs, rfl, h⟩ | rfl | ⟨b, rfl⟩ | ⟨i, rfl⟩ | ⟨z, rfl⟩
  · refine ⟨.ref C, .inl ⟨o, S, M, L2, ms2, rfl, R, ?_⟩, RT.ty R, n_self K C⟩
    rcases h with h | h
    · rw [steps_len h]; rfl
    · rw [marks_eqv, decide_eq_false h, Bool.and_false]
  · exact ⟨_, .inr ⟨_, .base (.tup h), RT.k1, rfl⟩, .base (.tup h), NT.n1⟩
  · exact ⟨_, .inr ⟨_, .base .non, RT.k2, rfl⟩, .base .non, NT.n2⟩
  · exact ⟨_, .inr ⟨_, .base (.bl b), RT.k3, rfl⟩, .base (.bl b), NT.n3⟩
  · exact ⟨_, .inr ⟨_, .base (.int i), RT.k4, rfl⟩, .base (.int i), NT.n4⟩
  · exact ⟨_, .inr ⟨_, .base (.str z), RT.k5, rfl⟩, .base (.str z), NT.n5⟩
theorem same_eq {K : PySem.W.Frag} {C : Addr} {H : Hp} {o S M : Addr} {L : List Row} {ms : List Int} (R : RuleAt C H o S M L ms) : EqT K C H L ms (.ref o) true := by
  refine .inl ⟨o, S, M, L, ms, rfl, R, ?_⟩
  rw [PySem.SeqAt.eqv_refl (stepsD L) (rowsD_ok (rows_fl R.rows)).1, marks_eqv, decide_eq_true rfl]
  rfl
theorem next_in {H : Hp} {L : List Row} {ms : List Int} {st : Int} {es : List V} (h : ∀ r ∈ L, RowAt H r) (h0 : 0 ≤ st) (h1 : st ≤ 99) : 0 ≤ nextS L ms st es ∧ nextS L ms st es ≤ 99 := by
  unfold nextS
  split
  · exact ⟨h0, h1⟩
  · cases hf : L.find? (fun q => decide (q.b = st) && fitsB q.vs es) with
    | none => exact ⟨h0, h1⟩
    | some r =>
      have R := h r (List.mem_of_find?_eq_some hf)
      exact ⟨R.l0, R.l1⟩
theorem menu {H : Hp} {t0 t1 t2 t3 : Addr} {one d : Int} (o0 : 0 ≤ one) (o1 : one < 3) (h0 : H t0 = some (.tup [])) (h1 : H t1 = some (.tup [V.int one])) (h2 : H t2 = some (.tup [V.int one, V.int 99])) (h3 : H t3 = some (.tup [V.int 3, V.int one]))
    (d0 : 0 ≤ d) (d1 : d < 4) : ∃ M ms, atI [V.ref t0, V.ref t1, V.ref t2, V.ref t3] d = some (.ref M) ∧ H M = some (.tup (ms.map V.int)) ∧ Mk4 ms := by
  have hd : d = 0 ∨ d = 1 ∨ d = 2 ∨ d = 3 := by omega
  rcases hd with rfl | rfl | rfl | rfl
  · exact ⟨t0, [], rfl, h0, ⟨⟨by simp, by simp⟩, by simp⟩⟩
  · exact ⟨t1, [one], rfl, h1, ⟨⟨by simp, by intro m hm; simp at hm; omega⟩, by simp⟩⟩
  · exact ⟨t2, [one, 99], rfl, h2, ⟨⟨by simp; omega, by intro m hm; simp at hm; omega⟩, by simp⟩⟩
  · exact ⟨t3, [3, one], rfl, h3, ⟨⟨by simp; omega, by intro m hm; simp at hm; omega⟩, by simp⟩⟩
end Jo

set_option Elab.async false
set_option linter.all false
set_option maxRecDepth 100000
set_option maxHeartbeats 1000000
namespace Jo
open PySem PySem.Spec PyProof.Rows L2
section
variable {P : Program} {w : World} {K : PySem.W.Frag} {mg : Str → Option Value} {base : Heap} {C fi : Addr}
def n_right : List Str := ["_law_bag_here", "_law_names", "_law_rows", "_law_turn", "_law_one", "_law_marks", "_law_rule", "_law_thing", "_law_here", "_law_happens", "_law_far", "_law_due", "_law_told", "_law_k"]
theorem sc_right : FnScope n_right ["_law_bag_here"] (defScope s_right) := ⟨rfl, rfl, rfl, by decide +kernel, rfl, by decide +kernel, by decide +kernel⟩
def spRight : Sp := fun vs H Q _ => ∃ p : Addr, vs = [.ref p] ∧ BagAt H p ∧ ∀ H', Kp p H H' → Q (.bl true) H'
theorem ok_right (T : Txt K mg) (RT : RTxt K mg C) (NT : NTxt K C) (M0 : Mk K C fi) (D : Dfn K mg "_law_right" s_right ["_law_bag_here"])
    (m_init : MtF P w K mg base 5 C "__init__" ["self", "steps", "bad"] (spInit C)) (m_after : MtF P w K mg base 4 C "after" ["self", "state", "event"] (spRAfter C)) (m_eq : MtF P w K mg base 1 C "__eq__" ["self", "other"] (spEqR K C))
    (c_pick : CalG P w K mg base 1 "_law_pick" ["_law_bag_here", "_law_many"] spPick) (c_name : CalG P w K mg base 2 "_law_name" ["_law_bag_here", "_law_k"] spName) (c_state : CalG P w K mg base 2 "_law_state" ["_law_bag_here"] spState)
    (c_event : CalG P w K mg base 3 "_law_event" ["_law_bag_here", "_law_names", "_law_whole"] spEvent) (c_after : CalG P w K mg base 1 "_law_after" ["_law_rows", "_law_marks", "_law_here", "_law_happens"] spAfter)
    (c_others : CalG P w K mg base 7 "_law_others" ["_law_rows", "_law_marks"] (spOthers C)) : CalG P w K mg base 8 "_law_right" ["_law_bag_here"] spRight := by
  refine D.ok sc_right (fun vs H Q E h => ?_) (fun f cdv A fr s H vs Q E hr hgd h => ?_)
  · obtain ⟨p, rfl, _⟩ := h
    rfl
  · obtain ⟨p, rfl, hp, q⟩ := h
    refine ⟨_, pss_cons (ps_par (i := 1) (j := 2) rfl sc_right.nd rfl rfl (by decide) rfl rfl (pa_cons (pe_lc (own := [("_law_k", 13)]) (g := gName 13) (tt := tYes) rfl sc_right.nd (pi_range1 rfl T.b_range (pa_cons pe_int pa_nil)) (blkOk_by (N := n_right) (sc := defScope s_right) (by decide +kernel)) (fun _ _ _ _ _ => pg_name (i := 13) sc_right.nd rfl (Or.inl rfl)) (fun _ _ _ _ _ => pts_nil) (fun _ _ _ _ _ => (pe_cG c_name hr (by decide) hgd rfl (pa_cons (pv 0) (pa_cons (pv 13) pa_nil))))) (pa_cons (pe_lst pa_nil) pa_nil)) rfl)
      (pss_cons (ps_for PassesOwn.never rfl (pi_range1 rfl T.b_range (pa_cons (pe_cG c_pick hr (by decide) hgd rfl (pa_cons (pv 0) (pa_cons pe_int pa_nil))) pa_nil)) (pg_name (i := 3) sc_right.nd rfl (.inl rfl))
        (pss_one (ps_expr (pe_bm PySem.F.plainAttrs_list PySem.F.slot_list_append PySem.F.type_list_append mt_append (pv 2) (pa_cons (pe_tup (pa_cons (pe_cG c_state hr (by decide) hgd rfl (pa_cons (pv 0) pa_nil)) (pa_cons (pe_cG c_event hr (by decide) hgd rfl (pa_cons (pv 0) (pa_cons (pv 1) (pa_cons pe_bl pa_nil)))) (pa_cons (pe_cG c_state hr (by decide) hgd rfl (pa_cons (pv 0) pa_nil)) pa_nil)))) pa_nil)))))
      (pss_cons (ps_set (i := 4) sc_right.nd rfl (.inl rfl) (pe_cG c_pick hr (by decide) hgd rfl (pa_cons (pv 0) (pa_cons pe_int pa_nil))))
      (pss_cons (ps_set (i := 5) sc_right.nd rfl (.inl rfl) (pe_ix ix_list (pe_lst (pa_cons (pe_tup pa_nil) (pa_cons (pe_tup (pa_cons (pv 4) pa_nil)) (pa_cons (pe_tup (pa_cons (pv 4) (pa_cons pe_int pa_nil))) (pa_cons (pe_tup (pa_cons pe_int (pa_cons (pv 4) pa_nil))) pa_nil))))) (pe_cG c_pick hr (by decide) hgd rfl (pa_cons (pv 0) (pa_cons pe_int pa_nil))) (fun _ _ => rfl)))
      (pss_cons (ps_set (i := 6) sc_right.nd rfl (.inl rfl) (pe_mkF M0 m_init hr (by decide) rfl RT.mgC (pa_cons (pe_callTy call_tuple_of rfl T.b_tuple (by decide +kernel) (pa_cons (pv 2) pa_nil)) (pa_cons (pv 5) pa_nil))))
      (pss_cons (ps_if (PW.pt (pw_or (pt_cmpR op_ne (pe_callB (call_repr hgd hr.units) rfl T.b_repr (by decide +kernel) (pa_cons (pe_lst (pa_cons (pe_fld (pv 6) rfl) (pa_cons (pe_fld (pv 6) rfl) pa_nil))) pa_nil)) (pe_callB (call_repr hgd hr.units) rfl T.b_repr (by decide +kernel) (pa_cons (pe_lst (pa_cons (pe_callTy call_tuple_of rfl T.b_tuple (by decide +kernel) (pa_cons (pv 2) pa_nil)) (pa_cons (pv 5) pa_nil))) pa_nil)) (nomark _)) (pw_or1 (pt_cmpR (op_neR m_eq NT.ne NT.sub hr (by decide)) (pv 6) (pe_mkK M0 m_init hr (by decide) rfl RT.mgC (hn := rfl) (pk_cons (pv 5) (pk_cons (pe_callTy call_tuple_of rfl T.b_tuple (by decide +kernel) (pa_cons (pv 2) pa_nil)) pk_nil))) (nomark _)))))
        (pss_one (ps_ret pe_bl))
        (pss_nil))
      (pss_cons (ps_for PassesOwn.never rfl (pi_list (pe_cG c_others hr (by decide) hgd rfl (pa_cons (pe_callTy call_tuple_of rfl T.b_tuple (by decide +kernel) (pa_cons (pv 2) pa_nil)) (pa_cons (pv 5) pa_nil)))) (pg_name (i := 7) sc_right.nd rfl (.inl rfl))
        (pss_one (ps_if (PW.pt (pw_or (pt_cmpR (op_eqR m_eq hr (by decide)) (pv 6) (pv 7) (nomark _)) (pw_or1 (pt_not (pt_cmpR (op_neR m_eq NT.ne NT.sub hr (by decide)) (pv 6) (pv 7) (nomark _))))))
            (pss_one (ps_ret pe_bl))
            (pss_nil))))
      (pss_cons (ps_set (i := 8) sc_right.nd rfl (.inl rfl) pe_int)
      (pss_cons (ps_for PassesOwn.never rfl (pi_range1 rfl T.b_range (pa_cons pe_int pa_nil)) (pg_name (i := 3) sc_right.nd rfl (.inl rfl))
        (pss_cons (ps_par (i := 9) (j := 10) rfl sc_right.nd rfl rfl (by decide) rfl rfl (pa_cons (pe_cG c_event hr (by decide) hgd rfl (pa_cons (pv 0) (pa_cons (pe_op op_cat (pv 1) (pe_lst (pa_cons pe_str pa_nil))) (pa_cons pe_bl pa_nil)))) (pa_cons (pe_cG c_state hr (by decide) hgd rfl (pa_cons (pv 0) pa_nil)) pa_nil)) rfl)
          (pss_cons (ps_set (i := 11) sc_right.nd rfl (.inl rfl) (pe_lst (pa_cons (pe_cG c_after hr (by decide) hgd rfl (pa_cons (pv 2) (pa_cons (pv 5) (pa_cons (pv 10) (pa_cons (pv 9) pa_nil))))) (pa_cons (pe_cG c_after hr (by decide) hgd rfl (pa_cons (pv 2) (pa_cons (pv 5) (pa_cons (pv 8) (pa_cons (pv 9) pa_nil))))) pa_nil))))
          (pss_cons (ps_set (i := 12) sc_right.nd rfl (.inl rfl) (pe_lst (pa_cons (pe_mF (pv 6) RT.cl m_after hr (by decide) (pa_cons (pv 10) (pa_cons (pv 9) pa_nil))) (pa_cons (pe_mK (pv 6) RT.cl m_after hr (by decide) (pk_cons (pv 9) (pk_cons (pv 8) pk_nil))) pa_nil))))
          (pss_cons (ps_if (pt_cmpR op_ne (pe_callB (call_repr hgd hr.units) rfl T.b_repr (by decide +kernel) (pa_cons (pv 12) pa_nil)) (pe_callB (call_repr hgd hr.units) rfl T.b_repr (by decide +kernel) (pa_cons (pv 11) pa_nil)) (nomark _))
            (pss_one (ps_ret pe_bl))
            (pss_nil))
          (pss_one (ps_set (i := 8) sc_right.nd rfl (.inl rfl) (pe_ix ix_list (pv 12) pe_int (fun _ _ => rfl)))))))))
      (pss_one (ps_ret (pe_cmpR op_eq (pe_callB (call_repr hgd hr.units) rfl T.b_repr (by decide +kernel) (pa_cons (pe_lst (pa_cons (pe_fld (pv 6) rfl) (pa_cons (pe_fld (pv 6) rfl) pa_nil))) pa_nil)) (pe_callB (call_repr hgd hr.units) rfl T.b_repr (by decide +kernel) (pa_cons (pe_lst (pa_cons (pe_callTy call_tuple_of rfl T.b_tuple (by decide +kernel) (pa_cons (pv 2) pa_nil)) (pa_cons (pv 5) pa_nil))) pa_nil)) (nomark _)))))))))))), ?_⟩
    -- the names
    refine ⟨2, rfl, by decide, by decide, fun N hN0 => ?_⟩
    have nNp : N ≠ p := hp.new hN0
    refine lc_it (walk_range (lo := 0) (n := 2)) (fun i H' => BagAt H' p ∧ Kp p H H' ∧ ∃ nl : List Str, nl.length = i ∧ (∀ n ∈ nl, nmS n = true ∧ n.length ≤ 8) ∧ H' N = some (.lst (nl.map V.str))) ⟨hp.same (same_new hN0), kp_of (same_new hN0), [], rfl, by simp, upd_same⟩ (fun _ _ _ _ => trivial) (fun i x H1 H1' hi hp1 hy => ?_) (fun H1 hp1 => ?_)
    · obtain ⟨b1, k1, nl, hl, nok, hN1⟩ := hp1
      obtain ⟨rfl, hx⟩ := hy
      have hx2 : x = V.int (i : Int) := by
        rw [hx]
        show V.int (0 + (i : Int)) = _
        rw [Int.zero_add]
      subst hx2
      refine ⟨rfl, _, rfl, _, rfl, p, (i : Int), rfl, by omega, b1, fun z H2 hz hz2 b2 k2 => ?_⟩
      have hN2 := k2 _ _ hN1 nNp
      refine ⟨_, hN2, by rw [List.length_map, hl]; exact small1000 (by omega), ?_, ?_, nl ++ [z], by rw [List.length_append, hl]; rfl, fun n hn => ?_, by rw [upd_same, List.map_append]; rfl⟩
      · obtain ⟨a, b, c, e⟩ := b2
        exact ⟨a, b, c, by rw [upd_ne nNp.symm]; exact e⟩
      · intro b o e n
        rw [upd_ne (ne_of_none e hN0)]
        exact (k1.trans k2) _ _ e n
      · rcases List.mem_append.mp hn with hn | hn
        · exact nok n hn
        · rw [List.mem_singleton.mp hn]
          exact ⟨hz, hz2⟩
    obtain ⟨b1, k1, nl, hl, nok, hN1⟩ := hp1
    refine ⟨(show 0 ≤ sizeLine by decide), fun R hR0 => ⟨_, _, rfl, ?_⟩⟩
    have nRp : R ≠ p := b1.new hR0
    have nRN : R ≠ N := fun e => by rw [e, hN1] at hR0; cases hR0
    have s2 := same_new (o := .lst []) hR0
    have hR3 : (upd H1 R (.lst [])) R = some (.lst []) := upd_same
    have hN3 := s2 _ _ hN1
    have b3 := b1.same s2
    have k3 := k1.trans (kp_of s2)
    generalize upd H1 R (.lst []) = H3 at hR3 hN3 b3 k3 ⊢
    clear s2
    -- the rows
    refine ⟨_, rfl, p, 9, rfl, b3, by decide, by decide, fun n1 H4 n0 n9 b4 k4 => ⟨n1, rfl, by omega, by omega, ?_⟩⟩
    have hR4 := k4 _ _ hR3 nRp
    have hN4 := k4 _ _ hN3 nNp
    have k4' := k3.trans k4
    refine for_range (lo := 0) (n := n1.toNat) (fun i σ H' => BagAt H' p ∧ (∀ b o, H b = some o → b ≠ p → b ≠ R → H' b = some o) ∧ H' N = some (.lst (nl.map V.str)) ∧ ∃ (L : List Row) (y : Option V), L.length = i ∧ (∀ r ∈ L, RowAt H' r) ∧ H' R = some (.lst (L.map fun r => V.ref r.t)) ∧
      σ = [some (.ref p), some (.ref N), some (.ref R), y, none, none, none, none, none, none, none, none, none, none])
      ⟨b4, fun b o e n _ => k4' _ _ e n, hN4, [], _, rfl, by simp, hR4, rfl⟩ (fun i σ H5 hi hp5 => ?_) (fun σ H5 hp5 => ?_)
    · obtain ⟨b5, k5, hN5, L, y, hl5, hL5, hR5, rfl⟩ := hp5
      refine ⟨_, rfl, .inl ⟨rfl, _, SqL.of hR5⟩, _, rfl, p, rfl, b5, fun sb H6 sb0 sb1 b6 k6 => ?_⟩
      refine ⟨_, rfl, _, rfl, p, N, nl, false, rfl, b6, nNp, k6 _ _ hN5 nNp, by omega, by omega, nok, fun e es H7 he7 ev7 _ b7 k7 => ?_⟩
      refine ⟨_, rfl, p, rfl, b7, fun sl H8 sl0 sl1 b8 k8 => ⟨(show 3 ≤ sizeLine by decide), fun t9 ht9 => ?_⟩⟩
      have k58 := (k6.trans k7).trans k8
      have s9 := same_new (o := .tup [V.int sb, V.ref e, V.int sl]) ht9
      have hR9 := s9 _ _ (k58 _ _ hR5 nRp)
      refine ⟨R, _, _, rfl, rfl, hR9, by rw [List.length_map, hl5]; exact small1000 (by omega), ?_⟩
      have keepT : ∀ {z : Addr} {xs : List V} {X : List V}, (upd H8 t9 (.tup [V.int sb, V.ref e, V.int sl])) z = some (.tup xs) → (upd (upd H8 t9 (.tup [V.int sb, V.ref e, V.int sl])) R (.lst X)) z = some (.tup xs) := fun {z xs X} ez => by
        rw [upd_ne (fun e3 => by rw [e3, hR9] at ez; cases ez)]
        exact ez
      have t58 : Tk H5 H8 := tk_kp b5 k58
      refine ⟨?_, fun b o eb nb nbR => ?_, ?_, L ++ [⟨t9, sb, e, es, sl⟩], _, by rw [List.length_append, hl5]; rfl, fun r hr2 => ?_, ?_, rfl⟩
      · obtain ⟨a, b, c, e2⟩ := b8
        exact ⟨a, b, c, by rw [upd_ne nRp.symm]; exact s9 _ _ e2⟩
      · rw [upd_ne nbR]
        exact s9 _ _ (k58 _ _ (k5 _ _ eb nb nbR) nb)
      · rw [upd_ne nRN.symm]
        exact s9 _ _ (k58 _ _ hN5 nNp)
      · rcases List.mem_append.mp hr2 with hr2 | hr2
        · have R5 := (hL5 r hr2).tk t58
          exact ⟨keepT (s9 _ _ R5.row), keepT (s9 _ _ R5.ev), R5.ok, R5.b0, R5.b1, R5.l0, R5.l1⟩
        · rw [List.mem_singleton.mp hr2]
          exact ⟨keepT upd_same, keepT (s9 _ _ (k8 _ _ he7 (b7.notup he7))), ev7, sb0, sb1, sl0, sl1⟩
      · rw [upd_same, List.map_append]
        rfl
    obtain ⟨b5, k5, hN5, L, y, hl5, hL5, hR5, rfl⟩ := hp5
    have l20 : L.length ≤ 20 := by omega
    clear b4 k4 k4' hR4 hN4 hR3 hN3 b3 k3 H4 H3
    -- the marks
    refine ⟨_, rfl, p, 3, rfl, b5, by decide, by decide, fun one H6 o0 o1 b6 k6 => ?_⟩
    refine ⟨(show 0 ≤ sizeLine by decide), fun t0 ht0 => ⟨_, rfl, (show 1 ≤ sizeLine by decide), fun t1 ht1 => ⟨_, rfl, (show 2 ≤ sizeLine by decide), fun t2 ht2 => ⟨_, rfl, (show 2 ≤ sizeLine by decide), fun t3 ht3 => ⟨(show 4 ≤ sizeLine by decide), fun ml hml => ?_⟩⟩⟩⟩⟩
    have u0 := same_new (o := .tup []) ht0
    have u1 := same_new (o := .tup [V.int one]) ht1
    have u2 := same_new (o := .tup [V.int one, V.int 99]) ht2
    have u3 := same_new (o := .tup [V.int 3, V.int one]) ht3
    have u4 := same_new (o := .lst [V.ref t0, V.ref t1, V.ref t2, V.ref t3]) hml
    have e0 := u4 _ _ (u3 _ _ (u2 _ _ (u1 _ _ (upd_same (H := H6) (a := t0) (o := .tup [])))))
    have e1 := u4 _ _ (u3 _ _ (u2 _ _ (upd_same (a := t1) (o := .tup [V.int one]))))
    have e2 := u4 _ _ (u3 _ _ (upd_same (a := t2) (o := .tup [V.int one, V.int 99])))
    have e3 := u4 _ _ (upd_same (a := t3) (o := .tup [V.int 3, V.int one]))
    have u04 := (((u0.trans u1).trans u2).trans u3).trans u4
    refine ⟨_, rfl, p, 4, rfl, b6.same u04, by decide, by decide, fun d H7 d0 d1 b7 k7 => ?_⟩
    have b6' := b6.same u04
    obtain ⟨M, ms, hat, hM, mk⟩ := menu o0 o1 (k7 _ _ e0 (b6'.notup e0)) (k7 _ _ e1 (b6'.notup e1)) (k7 _ _ e2 (b6'.notup e2)) (k7 _ _ e3 (b6'.notup e3)) d0 d1
    have nlp : ml ≠ p := (b6.same ((((u0.trans u1).trans u2).trans u3))).new hml
    refine ⟨ml, _, d, _, rfl, rfl, SqL.of (k7 _ _ (upd_same) nlp), hat, ?_⟩
    have k57 : Kp p H5 H7 := (k6.trans (kp_of u04)).trans k7
    have hR7 := k57 _ _ hR5 nRp
    have hN7 := k57 _ _ hN5 nNp
    have hL7 : ∀ r ∈ L, RowAt H7 r := fun r hr2 => (hL5 r hr2).tk (tk_kp b5 k57)
    have k7H : ∀ b o, H b = some o → b ≠ p → b ≠ R → H7 b = some o := fun b o eb nb nbR => k57 _ _ (k5 _ _ eb nb nbR) nb
    have okM := mk.ok
    -- the rule
    refine ⟨_, rfl, R, _, rfl, .inl ⟨SqL.of hR7, fun S hS => ?_⟩⟩
    have v1 := same_new (o := .tup (L.map fun r => V.ref r.t)) hS
    refine ⟨_, rfl, fun o dx ho hd _ => init_of ho hd upd_same (v1 _ _ hM) (fun r hr2 => (hL7 r hr2).same v1) okM fun H9 s9 RA => ⟨rfl, ?_⟩⟩
    have v2 := v1.trans s9
    have hR9 := v2 _ _ hR7
    have hN9 := v2 _ _ hN7
    have hM9 := v2 _ _ hM
    have b9 := b7.same v2
    have hL9 : ∀ r ∈ L, RowAt H9 r := fun r hr2 => (hL7 r hr2).same v2
    have k9H : ∀ b o, H b = some o → b ≠ p → b ≠ R → H9 b = some o := fun b o eb nb nbR => v2 _ _ (k7H b o eb nb nbR)
    obtain ⟨dx9, ho9⟩ := RA.ob
    obtain ⟨r1, r2, r3, r4⟩ := both_ok hL9 l20 mk
    clear ho hd hS v1 v2 s9
    -- as it tells, and equal to another one
    refine ⟨_, rfl, o, C, dx9, _, _, rfl, ho9, RT.cl, RT.nS, fld_steps _ _, _, rfl, o, C, dx9, _, _, rfl, ho9, RT.cl, RT.nB, fld_bad _ _, (show 2 ≤ sizeLine by decide), fun a1 ha1 => ⟨a1, bothD L ms, 6, rfl, ?_, r1, r2, r3, r4, ?_⟩⟩
    · have w1 := same_new (o := .lst [V.ref S, V.ref M]) ha1
      exact shw_both upd_same (w1 _ _ RA.st) (w1 _ _ RA.bd) fun r hr2 => (hL9 r hr2).same w1
    have w1 := same_new (o := .lst [V.ref S, V.ref M]) ha1
    refine ⟨_, rfl, R, _, rfl, .inl ⟨SqL.of (w1 _ _ hR9), fun S2 hS2 => ⟨_, rfl, (show 2 ≤ sizeLine by decide), fun a2 ha2 => ⟨a2, bothD L ms, 6, rfl, ?_, r1, r2, r3, r4, rfl, _, rfl, iteNS rfl ?_⟩⟩⟩⟩
    · have w2 := same_new (o := .tup (L.map fun r => V.ref r.t)) hS2
      have w3 := same_new (o := .lst [V.ref S2, V.ref M]) ha2
      exact shw_both upd_same (w3 _ _ upd_same) (w3 _ _ (w2 _ _ (w1 _ _ hM9))) fun r hr2 => (((hL9 r hr2).same w1).same w2).same w3
    have w2 := same_new (o := .tup (L.map fun r => V.ref r.t)) hS2
    have w3 := same_new (o := .lst [V.ref S2, V.ref M]) ha2
    have w13 := (w1.trans w2).trans w3
    refine ⟨_, rfl, _, rfl, _, rfl, R, _, rfl, .inl ⟨SqL.of (w13 _ _ hR9), fun S3 hS3 => ⟨rfl, rfl, fun o2 dx2 hx2 hd2 _ => ?_⟩⟩⟩
    have w4 := same_new (o := .tup (L.map fun r => V.ref r.t)) hS3
    have w14 := w13.trans w4
    refine init_of hx2 hd2 upd_same (w14 _ _ hM9) (fun r hr2 => (hL9 r hr2).same w14) okM fun H10 s10 R2 => ⟨rfl, ?_⟩
    have x10 := w14.trans s10
    have RA10 := RA.same x10
    refine ⟨o, S, M, L, ms, true, .ref C, rfl, RA10, same_eq R2, RT.ty R2, n_self K C, false, rfl, iteF ?_⟩
    have hR10 := x10 _ _ hR9
    have hN10 := x10 _ _ hN9
    have hM10 := x10 _ _ hM9
    have b10 := b9.same x10
    have hL10 : ∀ r ∈ L, RowAt H10 r := fun r hr2 => (hL9 r hr2).same x10
    have k10H : ∀ b o, H b = some o → b ≠ p → b ≠ R → H10 b = some o := fun b o eb nb nbR => x10 _ _ (k9H b o eb nb nbR)
    clear w1 w2 w3 w4 w13 w14 ha1 hS2 ha2 hS3 hx2 hd2 s10 x10 R2
    -- unequal to all the others
    refine ⟨_, rfl, R, _, rfl, .inl ⟨SqL.of hR10, fun S4 hS4 => ?_⟩⟩
    have z1 := same_new (o := .tup (L.map fun r => V.ref r.t)) hS4
    refine ⟨_, rfl, S4, M, L, ms, rfl, upd_same, z1 _ _ hM10, (fun r hr2 => (hL10 r hr2).same z1), l20, mk, fun F ys H11 s11 hF dy => ⟨F, rfl, ⟨_, SqL.of hF⟩, ?_⟩⟩
    have z2 := z1.trans s11
    have RA11 := RA10.same z2
    refine for_list (xs := ys) (fun i σ H' => H' = H11 ∧ ∃ y7 : Option V, σ = [some (.ref p), some (.ref N), some (.ref R), y, some (.int one), some (.ref M), some (.ref o), y7, none, none, none, none, none, none])
      ⟨rfl, _, rfl⟩ (fun i σ H' hi hp' => by rw [hp'.1]; exact SqL.of hF) (fun i x σ H' hx hp' => ?_) (fun σ H' hp' => ?_)
    · obtain ⟨rfl, y7, rfl⟩ := hp'
      obtain ⟨t, eqt, ty, nf⟩ := diff_eq RT NT (dy x (List.mem_of_getElem? hx))
      refine ⟨_, rfl, _, rfl, o, S, M, L, ms, false, t, rfl, RA11, eqt, ty, nf, false, rfl, iteF ?_⟩
      refine ⟨_, rfl, _, rfl, o, S, M, L, ms, false, t, rfl, RA11, eqt, ty, nf, true, rfl, iteF ?_⟩
      exact ⟨rfl, _, rfl⟩
    obtain ⟨rfl, y7, rfl⟩ := hp'
    have hR11 := z2 _ _ hR10
    have hN11 := z2 _ _ hN10
    have hM11 := z2 _ _ hM10
    have b11 := b10.same z2
    have k11H : ∀ b o, H b = some o → b ≠ p → b ≠ R → H' b = some o := fun b o eb nb nbR => z2 _ _ (k10H b o eb nb nbR)
    clear z1 z2 hS4 s11 hF dy
    -- twenty turns
    refine ⟨20, rfl, by decide, by decide, ?_⟩
    refine for_range (lo := 0) (n := 20) (fun i σ H2 => BagAt H2 p ∧ Kp p H' H2 ∧ ∃ (st : Int) (y3 y9 y10 y11 y12 : Option V), 0 ≤ st ∧ st ≤ 99 ∧ σ = [some (.ref p), some (.ref N), some (.ref R), y3, some (.int one), some (.ref M), some (.ref o), y7, some (.int st), y9, y10, y11, y12, none])
      ⟨b11, Kp.refl _ _, 0, _, _, _, _, _, by decide, by decide, rfl⟩ (fun i σ H2 hi hp2 => ?_) (fun σ H2 hp2 => ?_)
    · obtain ⟨b2, k2, st, y3, y9, y10, y11, y12, st0, st1, rfl⟩ := hp2
      refine ⟨_, rfl, _, rfl, (show 1 ≤ sizeLine by decide), fun l1 hl1 => ⟨N, l1, _, _, rfl, rfl, same_new hl1 _ _ (k2 _ _ hN11 nNp), upd_same, by rw [List.length_map, hl]; decide, fun l2 hl2 => ?_⟩⟩
      have s1 := same_new (o := .lst [V.str (Str.ofString "other")]) hl1
      have s2 := same_new (o := .lst (nl.map V.str ++ [V.str (Str.ofString "other")])) hl2
      have b3 := b2.same (s1.trans s2)
      have nl2p : l2 ≠ p := (b2.same s1).new hl2
      refine ⟨p, l2, nl ++ [Str.ofString "other"], true, rfl, b3, nl2p, by rw [upd_same, List.map_append]; rfl, by rw [List.length_append, hl]; decide, by rw [List.length_append, hl]; decide, fun n hn => ?_, fun e es H4 he ev hne b4 k4 => ?_⟩
      · rcases List.mem_append.mp hn with hn | hn
        · exact nok n hn
        · rw [List.mem_singleton.mp hn]
          decide +kernel
      refine ⟨_, rfl, p, rfl, b4, fun far H5 f0 f1 b5 k5 => ⟨_, _, rfl, ?_⟩⟩
      have k25 : Kp p H' H5 := ((k2.trans (kp_of (s1.trans s2))).trans k4).trans k5
      have he5 := k5 _ _ he (b4.notup he)
      have R5 := RA11.kp b11 k25
      have hR5 := k25 _ _ hR11 nRp
      have hM5 := R5.bd
      have hne2 := hne rfl
      refine ⟨_, rfl, _, rfl, _, rfl, _, rfl, R, M, e, L, ms, far, es, rfl, hR5, hM5, R5.rows, he5, ev, fun H6 s6 => ?_⟩
      refine ⟨_, rfl, _, rfl, _, rfl, _, rfl, R, M, e, L, ms, st, es, rfl, s6 _ _ hR5, s6 _ _ hM5, (fun r hr2 => (R5.rows r hr2).same s6), s6 _ _ he5, ev, fun H7 s7 => ⟨(show 2 ≤ sizeLine by decide), fun l3 hl3 => ?_⟩⟩
      have s8 := same_new (o := .lst [V.int (nextS L ms far es), V.int (nextS L ms st es)]) hl3
      have s68 := (s6.trans s7).trans s8
      have hl3' : (upd H7 l3 (.lst [V.int (nextS L ms far es), V.int (nextS L ms st es)])) l3 = _ := upd_same
      have R8 := R5.same s68
      obtain ⟨dx8, ho8⟩ := R8.ob
      refine ⟨_, rfl, o, dx8, _, rfl, ho8, fld_no _ _ (by decide +kernel) (by decide +kernel), _, rfl, _, rfl, o, S, M, e, L, ms, far, es, rfl, R8, s68 _ _ he5, ev, hne2, f0, f1, fun H9 s9 => ?_⟩
      have R9 := R8.same s9
      obtain ⟨dx9, ho9⟩ := R9.ob
      refine ⟨_, rfl, o, dx9, _, rfl, ho9, fld_no _ _ (by decide +kernel) (by decide +kernel), _, rfl, _, rfl, o, S, M, e, L, ms, st, es, rfl, R9, s9 _ _ (s68 _ _ he5), ev, hne2, st0, st1, fun H10 s10 => ⟨(show 2 ≤ sizeLine by decide), fun l4 hl4 => ?_⟩⟩
      have s11 := same_new (o := .lst [V.int (nextS L ms far es), V.int (nextS L ms st es)]) hl4
      have hl4' : (upd H10 l4 (.lst [V.int (nextS L ms far es), V.int (nextS L ms st es)])) l4 = _ := upd_same
      have hl3'' := s11 _ _ (s10 _ _ (s9 _ _ hl3'))
      obtain ⟨nf0, nf1⟩ := next_in (ms := ms) (es := es) R5.rows f0 f1
      obtain ⟨ns0, ns1⟩ := next_in (ms := ms) (es := es) R5.rows st0 st1
      obtain ⟨g1, g2, g3, g4⟩ := two_ok nf0 nf1 ns0 ns1
      refine ⟨_, rfl, l4, .list [.int (nextS L ms far es), .int (nextS L ms st es)], 3, rfl, .lst (.of hl4') (.cons (.int _) (.cons (.int _) .nil)), g1, g2, g3, g4, ?_⟩
      refine ⟨_, rfl, l3, .list [.int (nextS L ms far es), .int (nextS L ms st es)], 3, rfl, .lst (.of hl3'') (.cons (.int _) (.cons (.int _) .nil)), g1, g2, g3, g4, rfl, _, rfl, iteNS rfl ?_⟩
      refine ⟨_, rfl, l4, _, 1, _, rfl, rfl, SqL.of hl4', atI_nat (j := 1) rfl, ?_⟩
      have sAll := (((s68.trans s9).trans s10).trans s11)
      exact ⟨b5.same sAll, k25.trans (kp_of sAll), _, _, _, _, _, _, ns0, ns1, rfl⟩
    obtain ⟨b2, k2, st, y3, y9, y10, y11, y12, st0, st1, rfl⟩ := hp2
    -- as before
    have R5 := RA11.kp b11 k2
    have hR5 := k2 _ _ hR11 nRp
    have hM5 := R5.bd
    obtain ⟨dx5, ho5⟩ := R5.ob
    refine ⟨_, rfl, o, C, dx5, _, _, rfl, ho5, RT.cl, RT.nS, fld_steps _ _, _, rfl, o, C, dx5, _, _, rfl, ho5, RT.cl, RT.nB, fld_bad _ _, (show 2 ≤ sizeLine by decide), fun a1 ha1 => ⟨a1, bothD L ms, 6, rfl, ?_, r1, r2, r3, r4, ?_⟩⟩
    · have w1 := same_new (o := .lst [V.ref S, V.ref M]) ha1
      exact shw_both upd_same (w1 _ _ R5.st) (w1 _ _ R5.bd) fun r hr2 => (R5.rows r hr2).same w1
    have w1 := same_new (o := .lst [V.ref S, V.ref M]) ha1
    refine ⟨_, rfl, R, _, rfl, .inl ⟨SqL.of (w1 _ _ hR5), fun S2 hS2 => ⟨_, rfl, (show 2 ≤ sizeLine by decide), fun a2 ha2 => ⟨a2, bothD L ms, 6, rfl, ?_, r1, r2, r3, r4, rfl, ?_⟩⟩⟩⟩
    · have w2 := same_new (o := .tup (L.map fun r => V.ref r.t)) hS2
      have w3 := same_new (o := .lst [V.ref S2, V.ref M]) ha2
      exact shw_both upd_same (w3 _ _ upd_same) (w3 _ _ (w2 _ _ (w1 _ _ hM5))) fun r hr2 => (((R5.rows r hr2).same w1).same w2).same w3
    have w2 := same_new (o := .tup (L.map fun r => V.ref r.t)) hS2
    have w3 := same_new (o := .lst [V.ref S2, V.ref M]) ha2
    rw [decide_eq_true rfl]
    refine q _ fun b ob eb nb => ?_
    by_cases hbR : b = R
    · subst hbR
      have h1 := k1 _ _ eb nb
      rw [hR0] at h1
      cases h1
    · exact ((w1.trans w2).trans w3) _ _ (k2 _ _ (k11H b ob eb nb hbR) nb)
end
end Jo

set_option Elab.async false
set_option linter.all false
set_option maxRecDepth 100000
set_option maxHeartbeats 400000
namespace Jo
open PySem PySem.Spec PyProof.Rows L2
abbrev s_law : Stmt := top 34
/-- a comprehension whose items are all True, what stood being kept -/
theorem lc_trues {J : It} {n : Nat} {G : Hp → Prop} {Y : Nat → Hp → V → Hp → Prop} (w : Walk J n G Y) {g : TG} {te : TE} {vs : List Nat} {σ : L2.St}
    {H0 : Hp} {D : Addr} {Qd : Hp → Prop} (hD : H0 D = none) (hn : n < sizeLine) (hG : ∀ H, Same H0 H → G H)
    (hs : ∀ (i : Nat) (x : V) (H H' : Hp) (Q : VK), i < n → Same H0 H → Y i H x H' → (∀ H2, Same H H2 → Q (.bl true) H2) →
      g x (wipe σ vs) H' fun σ2 H2 => wipe σ2 vs = wipe σ vs ∧ te σ2 H2 Q)
    (hd : ∀ H, Same H0 H → H D = some (.lst ((List.replicate n true).map V.bl)) → Qd H) :
    ∃ W : Nat → Nat → Hp → Prop, (∃ m, W 0 m (upd H0 D (.lst []))) ∧ ∀ i m H, W i m H →
      (J.stop i H ∧ Qd H) ∨ (J.go i H ∧ ∃ Nx : Hp → Prop, (∀ H', Nx H' → ∃ m', m' < m ∧ W (i + 1) m' H') ∧
        ∀ x H', J.yld i H x H' → g x (wipe σ vs) H' fun σ2 H2 => wipe σ2 vs = wipe σ vs ∧ tYes σ2 H2 fun b H3 =>
          if b = true then te σ2 H3 fun y H4 => ∃ acc, H4 D = some (.lst acc) ∧ acc.length < sizeLine ∧ Nx (upd H4 D (.lst (acc ++ [y]))) else Nx H3) := by
  refine lc_it w (fun i H => Same H0 H ∧ i ≤ n ∧ H D = some (.lst ((List.replicate i true).map V.bl))) ⟨same_new hD, Nat.zero_le _, upd_same⟩ (fun i H _ hp => hG H hp.1) (fun i x H H' hi hp hy => ?_) (fun H hp => ?_)
  · obtain ⟨s1, _, hDl⟩ := hp
    refine hs i x H H' (fun y H4 => ∃ acc, H4 D = some (.lst acc) ∧ acc.length < sizeLine ∧ (Same H0 (upd H4 D (.lst (acc ++ [y]))) ∧ i + 1 ≤ n ∧ upd H4 D (.lst (acc ++ [y])) D = some (.lst ((List.replicate (i + 1) true).map V.bl)))) hi s1 hy (fun H2 s2 => ?_)
    refine ⟨_, s2 _ _ hDl, ?_, fun b o e => ?_, hi, ?_⟩
    · rw [List.length_map, List.length_replicate]
      exact Nat.lt_trans hi hn
    · rw [upd_ne (ne_of_none e hD)]
      exact s2 _ _ (s1 _ _ e)
    · rw [upd_same, List.replicate_succ', List.map_append]
      rfl
  · exact hd H hp.1 hp.2.2
theorem all_rep : ∀ n : Nat, (List.replicate n true).all id = true
  | 0 => rfl
  | n + 1 => by rw [List.replicate_succ, List.all_cons, all_rep n]; rfl
theorem turns63 {L : Int} (h0 : 0 ≤ L) : -(2 ^ 62) ≤ (if (if (63 : Int) < L then (63 : Int) else L) > 2 then (if (63 : Int) < L then (63 : Int) else L) else 2) ∧
    (if (if (63 : Int) < L then (63 : Int) else L) > 2 then (if (63 : Int) < L then (63 : Int) else L) else 2) < 2 ^ 62 ∧
    (if (if (63 : Int) < L then (63 : Int) else L) > 2 then (if (63 : Int) < L then (63 : Int) else L) else 2).toNat ≤ 63 := by
  by_cases h1 : (63 : Int) < L
  · rw [if_pos h1]; decide
  · rw [if_neg h1]
    by_cases h2 : L > 2
    · rw [if_pos h2]; omega
    · rw [if_neg h2]; decide
theorem next_nil (st : Int) (es : List V) : nextS [] [] st es = st := by
  unfold nextS
  simp
section
variable {P : Program} {w : World} {K : PySem.W.Frag} {mg : Str → Option Value} {base : Heap} {C fi : Addr}
def n_law : List Str := ["_law_script", "_law_plain", "_law_k"]
theorem sc_law : FnScope n_law ["_law_script"] (defScope s_law) := ⟨rfl, rfl, rfl, by decide +kernel, rfl, by decide +kernel, by decide +kernel⟩
def spLaw (K : PySem.W.Frag) : Sp := fun vs H Q _ => ∃ (a : Addr) (ns : List Int), vs = [.ref a] ∧ SqL K H a (ns.map V.int) ∧ ns.length ≤ 63 ∧ ∀ H', Q (.bl true) H'
theorem ok_law {fl : Addr} {fd : FuncData} (F : Fun K "law" "law" s_law fl fd) (T : Txt K mg) (RT : RTxt K mg C) (M0 : Mk K C fi)
    (m_init : MtF P w K mg base 5 C "__init__" ["self", "steps", "bad"] (spInit C)) (m_after : MtF P w K mg base 4 C "after" ["self", "state", "event"] (spRAfter C))
    (c_bag : CalG P w K mg base 1 "_law_bag" ["_law_script", "_law_k"] (spBag K)) (c_right : CalG P w K mg base 8 "_law_right" ["_law_bag_here"] spRight) : FnG P w K mg base 9 fl fd ["_law_script"] (spLaw K) := by
  refine fun_okG F sc_law (fun vs H Q E h => ?_) (fun cdv A fr s H vs Q E hr hgd h => ?_)
  · obtain ⟨a, ns, rfl, _⟩ := h
    rfl
  · obtain ⟨a, ns, rfl, hS, hl, q⟩ := h
    refine ⟨_, pss_cons (ps_set (i := 1) sc_law.nd rfl (.inl rfl) (pe_mkF M0 m_init hr (by decide) rfl RT.mgC (pa_cons (pe_tup pa_nil) (pa_cons (pe_tup pa_nil) pa_nil))))
      (pss_cons (ps_if (PW.pt (pw_or (pt_cmpR op_ne (pe_mF (pv 1) RT.cl m_after hr (by decide) (pa_cons pe_int (pa_cons (pe_tup (pa_cons pe_str (pa_cons pe_str (pa_cons pe_int pa_nil)))) pa_nil))) pe_int (nomark _)) (pw_or (pt_cmpR op_ne (pe_mF (pv 1) RT.cl m_after hr (by decide) (pa_cons pe_int (pa_cons (pe_tup (pa_cons pe_str pa_nil)) pa_nil))) pe_int (nomark _)) (pw_or1 (pt_cmpR (op_neD hr.units) (pe_op op_catA (pe_fld (pv 1) rfl) (pe_fld (pv 1) rfl)) (pe_tup pa_nil) (nomark _))))))
        (pss_one (ps_ret pe_bl))
        (pss_nil))
      (pss_one (ps_ret (pe_callB (cr_all rfl) rfl T.b_all (by decide +kernel) (pa_cons (pe_lc (own := [("_law_k", 2)]) (g := gName 2) (tt := tYes) rfl sc_law.nd (pi_range1 rfl T.b_range (pa_cons (pe_callB (call_max2 rfl) rfl T.b_max (by decide +kernel) (pa_cons pe_int (pa_cons (pe_callB (call_min2 rfl) rfl T.b_min (by decide +kernel) (pa_cons (pe_callB call_len rfl T.b_len (by decide +kernel) (pa_cons (pv 0) pa_nil)) (pa_cons pe_int pa_nil))) pa_nil))) pa_nil)) (blkOk_by (N := n_law) (sc := defScope s_law) (by decide +kernel)) (fun _ _ _ _ _ => pg_name (i := 2) sc_law.nd rfl (Or.inl rfl)) (fun _ _ _ _ _ => pts_nil) (fun _ _ _ _ _ => (pe_cG c_right hr (by decide) hgd rfl (pa_cons (pe_cG c_bag hr (by decide) hgd rfl (pa_cons (pv 0) (pa_cons (pv 2) pa_nil))) pa_nil)))) pa_nil))))), ?_⟩
    -- the empty rule
    refine ⟨(show 0 ≤ sizeLine by decide), fun S hS0 => ⟨(show 0 ≤ sizeLine by decide), fun M hM0 => ?_⟩⟩
    have s1 := same_new (o := .tup []) hS0
    have s2 := same_new (o := .tup []) hM0
    refine fun o dx ho hd _ => init_of (L := []) (ms := []) ho hd (s2 _ _ upd_same) upd_same (by simp) ⟨by simp, by simp⟩ fun H1 s3 RA => ⟨rfl, ?_⟩
    have s13 := (s1.trans s2).trans s3
    have hS1 := s13.seq hS
    clear s1 s2 s3 ho hd
    obtain ⟨dx1, ho1⟩ := RA.ob
    refine ⟨_, rfl, o, dx1, _, rfl, ho1, fld_no _ _ (by decide +kernel) (by decide +kernel), (show 3 ≤ sizeLine by decide), fun e1 he1 => ?_⟩
    have s4 := same_new (o := .tup [V.str (Str.ofString "call"), V.str (Str.ofString "go"), V.int 0]) he1
    refine ⟨o, S, M, e1, [], [], 4, _, rfl, RA.same s4, upd_same, .three (by decide +kernel) (by decide +kernel) (by decide +kernel) (by decide), (show 3 ≠ 2 by decide), by decide, by decide, fun H2 s5 => ⟨rfl, _, rfl, iteNS (congrArg V.int (next_nil _ _)) ?_⟩⟩
    have s45 := s4.trans s5
    have RA2 := RA.same s45
    obtain ⟨dx2, ho2⟩ := RA2.ob
    refine ⟨_, rfl, o, dx2, _, rfl, ho2, fld_no _ _ (by decide +kernel) (by decide +kernel), (show 1 ≤ sizeLine by decide), fun e2 he2 => ?_⟩
    have s6 := same_new (o := .tup [V.str hangE]) he2
    refine ⟨o, S, M, e2, [], [], 99, _, rfl, RA2.same s6, upd_same, .hang, (show 1 ≠ 2 by decide), by decide, by decide, fun H3 s7 => ⟨rfl, _, rfl, iteNS (congrArg V.int (next_nil _ _)) ?_⟩⟩
    have s67 := s6.trans s7
    have RA3 := RA2.same s67
    obtain ⟨dx3, ho3⟩ := RA3.ob
    refine ⟨_, rfl, o, C, dx3, _, _, rfl, ho3, RT.cl, RT.nS, fld_steps _ _, _, rfl, o, C, dx3, _, _, rfl, ho3, RT.cl, RT.nB, fld_bad _ _, catA_tr RA3.st RA3.bd (show 0 ≤ sizeLine by decide) fun c H4 s8 hc => ⟨(show 0 ≤ sizeLine by decide), fun t ht => ?_⟩⟩
    have s9 := same_new (o := .tup []) ht
    refine ⟨.tuple [], .tuple [], .tup (.inl (.inl (s9 _ _ hc))) .nil, .tup (.inl (.inl upd_same)) .nil, by decide +kernel, by decide +kernel, _, rfl, iteF ?_⟩
    have s49 := ((s45.trans s67).trans s8).trans s9
    have hS4 : SqL K (upd H4 t (.tup [])) a (ns.map V.int) := s49.seq hS1
    generalize upd H4 t (.tup []) = H5 at hS4 ⊢
    -- the bags
    obtain ⟨t1, t2, t3⟩ := turns63 (L := ((ns.map V.int).length : Int)) (by omega)
    refine ⟨_, rfl, _, _, rfl, .inl ⟨_, hS4, rfl⟩, _, _, rfl, _, _, rfl, _, rfl, t1, t2, fun D3 hD5 => lc_trues walk_range hD5 (small1000 (by omega)) (fun _ _ => trivial) (fun i x H6 H6' Q6 hi s10 hy hq => ?_) (fun H6 s10 hD6 => ?_)⟩
    · obtain ⟨rfl, hx⟩ := hy
      have hx2 : x = V.int (i : Int) := by
        rw [hx]
        show V.int (0 + (i : Int)) = _
        rw [Int.zero_add]
      subst hx2
      refine ⟨rfl, _, rfl, _, rfl, a, ns, i, rfl, s10.seq hS4, hl, by omega, fun p H7 s11 hp p7 => ?_⟩
      refine ⟨p, rfl, p7, fun H8 k8 => hq H8 fun b ob e => ?_⟩
      exact k8 _ _ (s11 _ _ e) (ne_of_none e hp)
    · refine ⟨D3, _, rfl, SqL.of hD6, ?_⟩
      rw [all_rep]
      exact q _
end
end Jo

set_option Elab.async false
set_option linter.all false
set_option maxRecDepth 100000
set_option maxHeartbeats 2000000
namespace Jo
open PySem PySem.Spec PyProof.Rows L2
theorem kit_own {K : PySem.W.Frag} {C : Addr} {T : String} (h1 : PySem.W.isClsIn K C = true) (h2 : PySem.W.typeIn K (.ref C) = some (.type "type")) (h3 : PySem.W.subIn K (.type T) (.ref C) = some false) : PySem.W.kitOne K (.type T) (.ref C) = some false := by
  unfold PySem.W.kitOne
  rw [if_neg (by intro h; have h4 := eq_of_beq h; cases h4)]
  have h1' : (PySem.W.clsIn K C).isSome = true := h1
  have e : ((PySem.W.clsIn K C).isSome && PySem.W.typeIn K (.ref C) == some (.type "type")) = true := by rw [h1', h2] <;> rfl
  show (if ((PySem.W.clsIn K C).isSome && PySem.W.typeIn K (.ref C) == some (.type "type")) = true then PySem.W.subIn K (.type T) (.ref C) else none) = some false
  rw [if_pos e]
  exact h3
theorem all_mk {P : Program} {w : World} {K : PySem.W.Frag} {h : Heap} {mg : Str → Option Value} {fa C : Addr} (X : K.In h) (G : h.Ns mainGlobals mg) (hfa : mg "law" = some (.ref fa))
    {u0 : Value}
    (g0 : PySem.W.nsIn K mainGlobals "MAX_STATE" = some (some u0))
    (r0 : RelV (.int 99) u0)
    {u1 : Value}
    (g1 : PySem.W.nsIn K mainGlobals "LETTERS" = some (some u1))
    (r1 : RelV (.str letters) u1)
    {u2 : Value}
    (g2 : PySem.W.nsIn K mainGlobals "SIGNS" = some (some u2))
    (r2 : RelV (.str signs) u2)
    {u3 : Value}
    (g3 : PySem.W.nsIn K mainGlobals "LONGEST_NAME" = some (some u3))
    (r3 : RelV (.int 8) u3)
    {Aw : Addr}
    {ow : Obj}
    {iw : Array Value}
    {nw : Nat}
    (aw : PySem.W.nsIn K mainGlobals "WORDS" = some (some (.ref Aw)))
    (lw : K.lookup Aw = some ow)
    (cw : ow.cls = .type "tuple")
    (dw : ow.data = .seq iw nw)
    (sw : iw.size ≤ sizeLine)
    (vw : L2.Vals (wordsE.map V.str) iw.toList)
    {Ah : Addr}
    {oh : Obj}
    {ih : Array Value}
    {nh : Nat}
    (ah : PySem.W.nsIn K mainGlobals "HANG_EVENT" = some (some (.ref Ah)))
    (lh : K.lookup Ah = some oh)
    (ch : oh.cls = .type "tuple")
    (dh : oh.data = .seq ih nh)
    (sh : ih.size ≤ sizeLine)
    (vh : L2.Vals ([V.str hangE]) ih.toList)
    (z0 : PySem.W.nsIn K mainGlobals "isinstance" = some none)
    (z1 : PySem.W.nsIn K mainGlobals "str" = some none)
    (z2 : PySem.W.nsIn K mainGlobals "int" = some none)
    (z3 : PySem.W.nsIn K mainGlobals "bool" = some none)
    (z4 : PySem.W.nsIn K mainGlobals "tuple" = some none)
    (z5 : PySem.W.nsIn K mainGlobals "len" = some none)
    (z6 : PySem.W.nsIn K mainGlobals "all" = some none)
    (z7 : PySem.W.nsIn K mainGlobals "range" = some none)
    (z8 : PySem.W.nsIn K mainGlobals "repr" = some none)
    (z9 : PySem.W.nsIn K mainGlobals "enumerate" = some none)
    (z10 : PySem.W.nsIn K mainGlobals "divmod" = some none)
    (z11 : PySem.W.nsIn K mainGlobals "max" = some none)
    (z12 : PySem.W.nsIn K mainGlobals "min" = some none)
    {f0 : Addr}
    {od0 an0 : Option Addr}
    {sl0 : Array (Option Value)}
    {oc0 kV0 dc0 pm0 cd0 ct0 : Value}
    (a0 : PySem.W.nsIn K mainGlobals "is_name" = some (some (.ref f0)))
    (l0 : K.lookup f0 = some ⟨oc0, od0, .func (PySem.W.fnOf "is_name" "is_name" (defArgs s_is_name) (defBody s_is_name) (defScope s_is_name) .none kV0 dc0 pm0 an0 cd0 ct0), sl0⟩)
    (c0 : PySem.W.codeIn K cd0 "is_name" = true)
    (k0 : PySem.W.keepIn K (.ref f0) = true)
    {f1 : Addr}
    {od1 an1 : Option Addr}
    {sl1 : Array (Option Value)}
    {oc1 kV1 dc1 pm1 cd1 ct1 : Value}
    (a1 : PySem.W.nsIn K mainGlobals "is_integer" = some (some (.ref f1)))
    (l1 : K.lookup f1 = some ⟨oc1, od1, .func (PySem.W.fnOf "is_integer" "is_integer" (defArgs s_is_integer) (defBody s_is_integer) (defScope s_is_integer) .none kV1 dc1 pm1 an1 cd1 ct1), sl1⟩)
    (c1 : PySem.W.codeIn K cd1 "is_integer" = true)
    (k1 : PySem.W.keepIn K (.ref f1) = true)
    {f2 : Addr}
    {od2 an2 : Option Addr}
    {sl2 : Array (Option Value)}
    {oc2 kV2 dc2 pm2 cd2 ct2 : Value}
    (a2 : PySem.W.nsIn K mainGlobals "check_steps" = some (some (.ref f2)))
    (l2 : K.lookup f2 = some ⟨oc2, od2, .func (PySem.W.fnOf "check_steps" "check_steps" (defArgs s_check_steps) (defBody s_check_steps) (defScope s_check_steps) .none kV2 dc2 pm2 an2 cd2 ct2), sl2⟩)
    (c2 : PySem.W.codeIn K cd2 "check_steps" = true)
    (k2 : PySem.W.keepIn K (.ref f2) = true)
    {f3 : Addr}
    {od3 an3 : Option Addr}
    {sl3 : Array (Option Value)}
    {oc3 kV3 dc3 pm3 cd3 ct3 : Value}
    (a3 : PySem.W.nsIn K mainGlobals "check_bad" = some (some (.ref f3)))
    (l3 : K.lookup f3 = some ⟨oc3, od3, .func (PySem.W.fnOf "check_bad" "check_bad" (defArgs s_check_bad) (defBody s_check_bad) (defScope s_check_bad) .none kV3 dc3 pm3 an3 cd3 ct3), sl3⟩)
    (c3 : PySem.W.codeIn K cd3 "check_bad" = true)
    (k3 : PySem.W.keepIn K (.ref f3) = true)
    {f4 : Addr}
    {od4 an4 : Option Addr}
    {sl4 : Array (Option Value)}
    {oc4 kV4 dc4 pm4 cd4 ct4 : Value}
    (a4 : PySem.W.nsIn K mainGlobals "is_step" = some (some (.ref f4)))
    (l4 : K.lookup f4 = some ⟨oc4, od4, .func (PySem.W.fnOf "is_step" "is_step" (defArgs s_is_step) (defBody s_is_step) (defScope s_is_step) .none kV4 dc4 pm4 an4 cd4 ct4), sl4⟩)
    (c4 : PySem.W.codeIn K cd4 "is_step" = true)
    (k4 : PySem.W.keepIn K (.ref f4) = true)
    {f5 : Addr}
    {od5 an5 : Option Addr}
    {sl5 : Array (Option Value)}
    {oc5 kV5 dc5 pm5 cd5 ct5 : Value}
    (a5 : PySem.W.nsIn K mainGlobals "is_state" = some (some (.ref f5)))
    (l5 : K.lookup f5 = some ⟨oc5, od5, .func (PySem.W.fnOf "is_state" "is_state" (defArgs s_is_state) (defBody s_is_state) (defScope s_is_state) .none kV5 dc5 pm5 an5 cd5 ct5), sl5⟩)
    (c5 : PySem.W.codeIn K cd5 "is_state" = true)
    (k5 : PySem.W.keepIn K (.ref f5) = true)
    {f6 : Addr}
    {od6 an6 : Option Addr}
    {sl6 : Array (Option Value)}
    {oc6 kV6 dc6 pm6 cd6 ct6 : Value}
    (a6 : PySem.W.nsIn K mainGlobals "is_event" = some (some (.ref f6)))
    (l6 : K.lookup f6 = some ⟨oc6, od6, .func (PySem.W.fnOf "is_event" "is_event" (defArgs s_is_event) (defBody s_is_event) (defScope s_is_event) .none kV6 dc6 pm6 an6 cd6 ct6), sl6⟩)
    (c6 : PySem.W.codeIn K cd6 "is_event" = true)
    (k6 : PySem.W.keepIn K (.ref f6) = true)
    {f7 : Addr}
    {od7 an7 : Option Addr}
    {sl7 : Array (Option Value)}
    {oc7 kV7 dc7 pm7 cd7 ct7 : Value}
    (a7 : PySem.W.nsIn K mainGlobals "is_full_event" = some (some (.ref f7)))
    (l7 : K.lookup f7 = some ⟨oc7, od7, .func (PySem.W.fnOf "is_full_event" "is_full_event" (defArgs s_is_full_event) (defBody s_is_full_event) (defScope s_is_full_event) .none kV7 dc7 pm7 an7 cd7 ct7), sl7⟩)
    (c7 : PySem.W.codeIn K cd7 "is_full_event" = true)
    (k7 : PySem.W.keepIn K (.ref f7) = true)
    {f8 : Addr}
    {od8 an8 : Option Addr}
    {sl8 : Array (Option Value)}
    {oc8 kV8 dc8 pm8 cd8 ct8 : Value}
    (a8 : PySem.W.nsIn K mainGlobals "fits" = some (some (.ref f8)))
    (l8 : K.lookup f8 = some ⟨oc8, od8, .func (PySem.W.fnOf "fits" "fits" (defArgs s_fits) (defBody s_fits) (defScope s_fits) .none kV8 dc8 pm8 an8 cd8 ct8), sl8⟩)
    (c8 : PySem.W.codeIn K cd8 "fits" = true)
    (k8 : PySem.W.keepIn K (.ref f8) = true)
    {f9 : Addr}
    {od9 an9 : Option Addr}
    {sl9 : Array (Option Value)}
    {oc9 kV9 dc9 pm9 cd9 ct9 : Value}
    (a9 : PySem.W.nsIn K mainGlobals "_law_bag" = some (some (.ref f9)))
    (l9 : K.lookup f9 = some ⟨oc9, od9, .func (PySem.W.fnOf "_law_bag" "_law_bag" (defArgs s_bag) (defBody s_bag) (defScope s_bag) .none kV9 dc9 pm9 an9 cd9 ct9), sl9⟩)
    (c9 : PySem.W.codeIn K cd9 "_law_bag" = true)
    (k9 : PySem.W.keepIn K (.ref f9) = true)
    {f10 : Addr}
    {od10 an10 : Option Addr}
    {sl10 : Array (Option Value)}
    {oc10 kV10 dc10 pm10 cd10 ct10 : Value}
    (a10 : PySem.W.nsIn K mainGlobals "_law_pick" = some (some (.ref f10)))
    (l10 : K.lookup f10 = some ⟨oc10, od10, .func (PySem.W.fnOf "_law_pick" "_law_pick" (defArgs s_pick) (defBody s_pick) (defScope s_pick) .none kV10 dc10 pm10 an10 cd10 ct10), sl10⟩)
    (c10 : PySem.W.codeIn K cd10 "_law_pick" = true)
    (k10 : PySem.W.keepIn K (.ref f10) = true)
    {f11 : Addr}
    {od11 an11 : Option Addr}
    {sl11 : Array (Option Value)}
    {oc11 kV11 dc11 pm11 cd11 ct11 : Value}
    (a11 : PySem.W.nsIn K mainGlobals "_law_name" = some (some (.ref f11)))
    (l11 : K.lookup f11 = some ⟨oc11, od11, .func (PySem.W.fnOf "_law_name" "_law_name" (defArgs s_name) (defBody s_name) (defScope s_name) .none kV11 dc11 pm11 an11 cd11 ct11), sl11⟩)
    (c11 : PySem.W.codeIn K cd11 "_law_name" = true)
    (k11 : PySem.W.keepIn K (.ref f11) = true)
    {f12 : Addr}
    {od12 an12 : Option Addr}
    {sl12 : Array (Option Value)}
    {oc12 kV12 dc12 pm12 cd12 ct12 : Value}
    (a12 : PySem.W.nsIn K mainGlobals "_law_state" = some (some (.ref f12)))
    (l12 : K.lookup f12 = some ⟨oc12, od12, .func (PySem.W.fnOf "_law_state" "_law_state" (defArgs s_state) (defBody s_state) (defScope s_state) .none kV12 dc12 pm12 an12 cd12 ct12), sl12⟩)
    (c12 : PySem.W.codeIn K cd12 "_law_state" = true)
    (k12 : PySem.W.keepIn K (.ref f12) = true)
    {f13 : Addr}
    {od13 an13 : Option Addr}
    {sl13 : Array (Option Value)}
    {oc13 kV13 dc13 pm13 cd13 ct13 : Value}
    (a13 : PySem.W.nsIn K mainGlobals "_law_number" = some (some (.ref f13)))
    (l13 : K.lookup f13 = some ⟨oc13, od13, .func (PySem.W.fnOf "_law_number" "_law_number" (defArgs s_number) (defBody s_number) (defScope s_number) .none kV13 dc13 pm13 an13 cd13 ct13), sl13⟩)
    (c13 : PySem.W.codeIn K cd13 "_law_number" = true)
    (k13 : PySem.W.keepIn K (.ref f13) = true)
    {f14 : Addr}
    {od14 an14 : Option Addr}
    {sl14 : Array (Option Value)}
    {oc14 kV14 dc14 pm14 cd14 ct14 : Value}
    (a14 : PySem.W.nsIn K mainGlobals "_law_event" = some (some (.ref f14)))
    (l14 : K.lookup f14 = some ⟨oc14, od14, .func (PySem.W.fnOf "_law_event" "_law_event" (defArgs s_event) (defBody s_event) (defScope s_event) .none kV14 dc14 pm14 an14 cd14 ct14), sl14⟩)
    (c14 : PySem.W.codeIn K cd14 "_law_event" = true)
    (k14 : PySem.W.keepIn K (.ref f14) = true)
    {f15 : Addr}
    {od15 an15 : Option Addr}
    {sl15 : Array (Option Value)}
    {oc15 kV15 dc15 pm15 cd15 ct15 : Value}
    (a15 : PySem.W.nsIn K mainGlobals "_law_after" = some (some (.ref f15)))
    (l15 : K.lookup f15 = some ⟨oc15, od15, .func (PySem.W.fnOf "_law_after" "_law_after" (defArgs s_after) (defBody s_after) (defScope s_after) .none kV15 dc15 pm15 an15 cd15 ct15), sl15⟩)
    (c15 : PySem.W.codeIn K cd15 "_law_after" = true)
    (k15 : PySem.W.keepIn K (.ref f15) = true)
    {f16 : Addr}
    {od16 an16 : Option Addr}
    {sl16 : Array (Option Value)}
    {oc16 kV16 dc16 pm16 cd16 ct16 : Value}
    (a16 : PySem.W.nsIn K mainGlobals "_law_others" = some (some (.ref f16)))
    (l16 : K.lookup f16 = some ⟨oc16, od16, .func (PySem.W.fnOf "_law_others" "_law_others" (defArgs s_others) (defBody s_others) (defScope s_others) .none kV16 dc16 pm16 an16 cd16 ct16), sl16⟩)
    (c16 : PySem.W.codeIn K cd16 "_law_others" = true)
    (k16 : PySem.W.keepIn K (.ref f16) = true)
    {f17 : Addr}
    {od17 an17 : Option Addr}
    {sl17 : Array (Option Value)}
    {oc17 kV17 dc17 pm17 cd17 ct17 : Value}
    (a17 : PySem.W.nsIn K mainGlobals "_law_right" = some (some (.ref f17)))
    (l17 : K.lookup f17 = some ⟨oc17, od17, .func (PySem.W.fnOf "_law_right" "_law_right" (defArgs s_right) (defBody s_right) (defScope s_right) .none kV17 dc17 pm17 an17 cd17 ct17), sl17⟩)
    (c17 : PySem.W.codeIn K cd17 "_law_right" = true)
    (k17 : PySem.W.keepIn K (.ref f17) = true)
    {f18 : Addr}
    {od18 an18 : Option Addr}
    {sl18 : Array (Option Value)}
    {oc18 kV18 dc18 pm18 cd18 ct18 : Value}
    (a18 : PySem.W.nsIn K mainGlobals "law" = some (some (.ref f18)))
    (l18 : K.lookup f18 = some ⟨oc18, od18, .func (PySem.W.fnOf "law" "law" (defArgs s_law) (defBody s_law) (defScope s_law) .none kV18 dc18 pm18 an18 cd18 ct18), sl18⟩)
    (c18 : PySem.W.codeIn K cd18 "law" = true)
    (k18 : PySem.W.keepIn K (.ref f18) = true)
    (aC : PySem.W.nsIn K mainGlobals "Rule" = some (some (.ref C)))
    {f30 : Addr}
    {od30 an30 : Option Addr}
    {sl30 : Array (Option Value)}
    {oc30 kV30 dc30 pm30 cd30 ct30 : Value}
    (a30 : PySem.W.findIn K (.ref C) "__init__" = some (some (.ref f30)))
    (l30 : K.lookup f30 = some ⟨oc30, od30, .func (PySem.W.fnOf "__init__" "Rule.__init__" (defArgs s_init) (defBody s_init) (defScope s_init) .none kV30 dc30 pm30 an30 cd30 ct30), sl30⟩)
    (c30 : PySem.W.codeIn K cd30 "Rule.__init__" = true)
    (k30 : PySem.W.keepIn K (.ref f30) = true)
    (i30 : PySem.W.isFn K (.ref f30) = true)
    {f31 : Addr}
    {od31 an31 : Option Addr}
    {sl31 : Array (Option Value)}
    {oc31 kV31 dc31 pm31 cd31 ct31 : Value}
    (a31 : PySem.W.findIn K (.ref C) "after" = some (some (.ref f31)))
    (l31 : K.lookup f31 = some ⟨oc31, od31, .func (PySem.W.fnOf "after" "Rule.after" (defArgs s_rafter) (defBody s_rafter) (defScope s_rafter) .none kV31 dc31 pm31 an31 cd31 ct31), sl31⟩)
    (c31 : PySem.W.codeIn K cd31 "Rule.after" = true)
    (k31 : PySem.W.keepIn K (.ref f31) = true)
    (i31 : PySem.W.isFn K (.ref f31) = true)
    {f32 : Addr}
    {od32 an32 : Option Addr}
    {sl32 : Array (Option Value)}
    {oc32 kV32 dc32 pm32 cd32 ct32 : Value}
    (a32 : PySem.W.findIn K (.ref C) "next_state" = some (some (.ref f32)))
    (l32 : K.lookup f32 = some ⟨oc32, od32, .func (PySem.W.fnOf "next_state" "Rule.next_state" (defArgs s_next_state) (defBody s_next_state) (defScope s_next_state) .none kV32 dc32 pm32 an32 cd32 ct32), sl32⟩)
    (c32 : PySem.W.codeIn K cd32 "Rule.next_state" = true)
    (k32 : PySem.W.keepIn K (.ref f32) = true)
    (i32 : PySem.W.isFn K (.ref f32) = true)
    {f33 : Addr}
    {od33 an33 : Option Addr}
    {sl33 : Array (Option Value)}
    {oc33 kV33 dc33 pm33 cd33 ct33 : Value}
    (a33 : PySem.W.findIn K (.ref C) "__eq__" = some (some (.ref f33)))
    (l33 : K.lookup f33 = some ⟨oc33, od33, .func (PySem.W.fnOf "__eq__" "Rule.__eq__" (defArgs s_eq) (defBody s_eq) (defScope s_eq) .none kV33 dc33 pm33 an33 cd33 ct33), sl33⟩)
    (c33 : PySem.W.codeIn K cd33 "Rule.__eq__" = true)
    (k33 : PySem.W.keepIn K (.ref f33) = true)
    (i33 : PySem.W.isFn K (.ref f33) = true)
    (pg : PySem.W.plainGet K C Str.empty = true)
    (hd : PySem.W.hasDictIn K C = true)
    (po : PySem.W.plainOver K C = true)
    (sa : PySem.W.findIn K (.ref C) "__setattr__" = some (some (.builtin "object.__setattr__")))
    (mk : PySem.W.makesIn K C = true)
    (kc : PySem.W.keepIn K (.ref C) = true)
    (nS : PySem.W.findIn K (.ref C) "steps" = some none)
    (nB : PySem.W.findIn K (.ref C) "bad" = some none)
    (x1 : PySem.W.findIn K (.ref C) "__class__" = some (some (.builtin "object.__class__")))
    (x2 : PySem.W.specialIn K (.builtin "object.__class__") "__get__" = some (some (.builtin "getset_descriptor.__get__")))
    (x3 : PySem.W.takesIn K (.builtin "object.__class__") = some true)
    (x4 : PySem.W.mroIn K C (.type "object") = some true)
    (y0 : PySem.W.isClsIn K C = true)
    (y1 : PySem.W.typeIn K (.ref C) = some (.type "type"))
    (y2 : PySem.W.subIn K (.type "tuple") (.ref C) = some false)
    (n1 : PySem.W.notFirst K C (.type "tuple") = true)
    (y3 : PySem.W.subIn K (.type "NoneType") (.ref C) = some false)
    (n2 : PySem.W.notFirst K C (.type "NoneType") = true)
    (y4 : PySem.W.subIn K (.type "bool") (.ref C) = some false)
    (n3 : PySem.W.notFirst K C (.type "bool") = true)
    (y5 : PySem.W.subIn K (.type "int") (.ref C) = some false)
    (n4 : PySem.W.notFirst K C (.type "int") = true)
    (y6 : PySem.W.subIn K (.type "str") (.ref C) = some false)
    (n5 : PySem.W.notFirst K C (.type "str") = true)
    (ne : PySem.W.findIn K (.ref C) "__ne__" = some (some (.builtin "object.__ne__")))
    (sb : PySem.W.subIn K (.ref C) (.type "object") = some true) :
    ∃ fd : FuncData, (∀ (s : Shared) (v : Value), BindsTo s fd ⟨[v], []⟩ [("_law_script", v)]) ∧ ∀ base : Heap, K.In base → base.Ns mainGlobals mg → FnG P w K mg base 9 fa fd ["_law_script"] (spLaw K) := by
  have e := hfa.symm.trans (PySem.W.mg_of X G a18)
  cases e
  have T : Txt K mg := ⟨⟨_, PySem.W.mg_of X G g0, r0⟩, ⟨_, PySem.W.mg_of X G g1, r1⟩, ⟨_, PySem.W.mg_of X G g2, r2⟩, ⟨_, PySem.W.mg_of X G g3, r3⟩, ⟨Aw, ⟨_, PySem.W.mg_of X G aw, rfl⟩, fun H => .inr ⟨ow, iw, nw, lw, cw, dw, sw, vw⟩⟩, ⟨Ah, ⟨_, PySem.W.mg_of X G ah, rfl⟩, fun H => .inr ⟨oh, ih, nh, lh, ch, dh, sh, vh⟩⟩, PySem.W.mg_none_of X G z0, PySem.W.mg_none_of X G z1, PySem.W.mg_none_of X G z2, PySem.W.mg_none_of X G z3, PySem.W.mg_none_of X G z4, PySem.W.mg_none_of X G z5, PySem.W.mg_none_of X G z6, PySem.W.mg_none_of X G z7, PySem.W.mg_none_of X G z8, PySem.W.mg_none_of X G z9, PySem.W.mg_none_of X G z10, PySem.W.mg_none_of X G z11, PySem.W.mg_none_of X G z12⟩
  have RT : RTxt K mg C := ⟨⟨pg, hd, po, sa⟩, nS, nB, PySem.W.mg_of X G aC, x1, x2, x3, x4, kit_own y0 y1 y2, kit_own y0 y1 y3, kit_own y0 y1 y4, kit_own y0 y1 y5, kit_own y0 y1 y6⟩
  have NT : NTxt K C := ⟨n1, n2, n3, n4, n5, ne, sb⟩
  have M0 : Mk K C f30 := ⟨mk, a30, i30, kc⟩
  have D_is_name : Dfn K mg "is_name" s_is_name ["value"] := dfn_mk X G a0 l0 c0 k0 (fun us hl => match us, hl with | [_], _ => rfl) (fun us hl => match us, hl with | [_], _ => rfl)
  have D_is_integer : Dfn K mg "is_integer" s_is_integer ["value"] := dfn_mk X G a1 l1 c1 k1 (fun us hl => match us, hl with | [_], _ => rfl) (fun us hl => match us, hl with | [_], _ => rfl)
  have D_check_steps : Dfn K mg "check_steps" s_check_steps ["steps"] := dfn_mk X G a2 l2 c2 k2 (fun us hl => match us, hl with | [_], _ => rfl) (fun us hl => match us, hl with | [_], _ => rfl)
  have D_check_bad : Dfn K mg "check_bad" s_check_bad ["bad"] := dfn_mk X G a3 l3 c3 k3 (fun us hl => match us, hl with | [_], _ => rfl) (fun us hl => match us, hl with | [_], _ => rfl)
  have D_is_step : Dfn K mg "is_step" s_is_step ["value"] := dfn_mk X G a4 l4 c4 k4 (fun us hl => match us, hl with | [_], _ => rfl) (fun us hl => match us, hl with | [_], _ => rfl)
  have D_is_state : Dfn K mg "is_state" s_is_state ["value"] := dfn_mk X G a5 l5 c5 k5 (fun us hl => match us, hl with | [_], _ => rfl) (fun us hl => match us, hl with | [_], _ => rfl)
  have D_is_event : Dfn K mg "is_event" s_is_event ["value"] := dfn_mk X G a6 l6 c6 k6 (fun us hl => match us, hl with | [_], _ => rfl) (fun us hl => match us, hl with | [_], _ => rfl)
  have D_is_full_event : Dfn K mg "is_full_event" s_is_full_event ["value"] := dfn_mk X G a7 l7 c7 k7 (fun us hl => match us, hl with | [_], _ => rfl) (fun us hl => match us, hl with | [_], _ => rfl)
  have D_fits : Dfn K mg "fits" s_fits ["pattern", "event"] := dfn_mk X G a8 l8 c8 k8 (fun us hl => match us, hl with | [_, _], _ => rfl) (fun us hl => match us, hl with | [_, _], _ => rfl)
  have D_bag : Dfn K mg "_law_bag" s_bag ["_law_script", "_law_k"] := dfn_mk X G a9 l9 c9 k9 (fun us hl => match us, hl with | [_, _], _ => rfl) (fun us hl => match us, hl with | [_, _], _ => rfl)
  have D_pick : Dfn K mg "_law_pick" s_pick ["_law_bag_here", "_law_many"] := dfn_mk X G a10 l10 c10 k10 (fun us hl => match us, hl with | [_, _], _ => rfl) (fun us hl => match us, hl with | [_, _], _ => rfl)
  have D_name : Dfn K mg "_law_name" s_name ["_law_bag_here", "_law_k"] := dfn_mk X G a11 l11 c11 k11 (fun us hl => match us, hl with | [_, _], _ => rfl) (fun us hl => match us, hl with | [_, _], _ => rfl)
  have D_state : Dfn K mg "_law_state" s_state ["_law_bag_here"] := dfn_mk X G a12 l12 c12 k12 (fun us hl => match us, hl with | [_], _ => rfl) (fun us hl => match us, hl with | [_], _ => rfl)
  have D_number : Dfn K mg "_law_number" s_number ["_law_bag_here"] := dfn_mk X G a13 l13 c13 k13 (fun us hl => match us, hl with | [_], _ => rfl) (fun us hl => match us, hl with | [_], _ => rfl)
  have D_event : Dfn K mg "_law_event" s_event ["_law_bag_here", "_law_names", "_law_whole"] := dfn_mk X G a14 l14 c14 k14 (fun us hl => match us, hl with | [_, _, _], _ => rfl) (fun us hl => match us, hl with | [_, _, _], _ => rfl)
  have D_after : Dfn K mg "_law_after" s_after ["_law_rows", "_law_marks", "_law_here", "_law_happens"] := dfn_mk X G a15 l15 c15 k15 (fun us hl => match us, hl with | [_, _, _, _], _ => rfl) (fun us hl => match us, hl with | [_, _, _, _], _ => rfl)
  have D_others : Dfn K mg "_law_others" s_others ["_law_rows", "_law_marks"] := dfn_mk X G a16 l16 c16 k16 (fun us hl => match us, hl with | [_, _], _ => rfl) (fun us hl => match us, hl with | [_, _], _ => rfl)
  have D_right : Dfn K mg "_law_right" s_right ["_law_bag_here"] := dfn_mk X G a17 l17 c17 k17 (fun us hl => match us, hl with | [_], _ => rfl) (fun us hl => match us, hl with | [_], _ => rfl)
  have E_init : Mth K C "__init__" "Rule.__init__" s_init ["self", "steps", "bad"] := mth_mk (h := h) a30 i30 l30 c30 k30 (fun us hl => match us, hl with | [_, _, _], _ => rfl) (fun u us hl => match us, hl with | [_, _], _ => rfl)
  have E_rafter : Mth K C "after" "Rule.after" s_rafter ["self", "state", "event"] := mth_mk (h := h) a31 i31 l31 c31 k31 (fun us hl => match us, hl with | [_, _, _], _ => rfl) (fun u us hl => match us, hl with | [_, _], _ => rfl)
  have E_next_state : Mth K C "next_state" "Rule.next_state" s_next_state ["self", "state", "event"] := mth_mk (h := h) a32 i32 l32 c32 k32 (fun us hl => match us, hl with | [_, _, _], _ => rfl) (fun u us hl => match us, hl with | [_, _], _ => rfl)
  have E_eq : Mth K C "__eq__" "Rule.__eq__" s_eq ["self", "other"] := mth_mk (h := h) a33 i33 l33 c33 k33 (fun us hl => match us, hl with | [_, _], _ => rfl) (fun u us hl => match us, hl with | [_], _ => rfl)
  refine ⟨PySem.W.fnOf "law" "law" (defArgs s_law) (defBody s_law) (defScope s_law) .none kV18 dc18 pm18 an18 cd18 ct18, fun s v => .of_eq rfl, fun base _ _ => ?_⟩
  have p1 := ok_is_integer (P := P) (w := w) (base := base) T D_is_integer
  have p2 := ok_is_name (P := P) (w := w) (base := base) T D_is_name
  have p3 := ok_is_state T D_is_state p1
  have p4 := ok_is_event T D_is_event p1 p2
  have p5 := ok_is_full_event T D_is_full_event p4
  have p6 := ok_is_step T D_is_step p4 p3
  have p7 := ok_check_steps T D_check_steps p6
  have p8 := ok_check_bad T D_check_bad p3
  have p9 := ok_fits (P := P) (w := w) (base := base) T D_fits
  have m1 := ok_init T RT E_init p7 p8
  have m2 := ok_next_state T RT E_next_state p9
  have m3 := ok_rafter T RT E_rafter p3 p5 m2
  have m4 := ok_eq (P := P) (w := w) (base := base) T RT E_eq
  have j1 := ok_bag (P := P) (w := w) (base := base) T D_bag
  have j2 := ok_pick (P := P) (w := w) (base := base) T D_pick
  have j3 := ok_name T D_name j2
  have j4 := ok_state T D_state j2
  have j5 := ok_number T D_number j2
  have j6 := ok_event T D_event j2 j5
  have j7 := ok_after (P := P) (w := w) (base := base) T D_after
  have j8 := ok_others T RT M0 D_others m1
  have j9 := ok_right T RT NT M0 D_right m1 m3 m4 j2 j3 j4 j6 j7 j8
  exact ok_law (fun_mk (st := s_law) l18 c18 k18) T RT M0 m1 m3 j1 j9
end Jo

set_option Elab.async false
set_option linter.all false
set_option maxRecDepth 100000
set_option maxHeartbeats 2000000
open PySem PySem.W PyProof.Rows
set_option maxHeartbeats 0 in
theorem PySem.Challenge.cw_reentry_k25_rules_led_holds : PySem.Challenge.rw_reentry_k25_rules_led.Holds := by
  w_on; o_law; k_head; (case hw => w_witness2)
  k_fill
  refine Jo.walk_ofG (l := PySem.Challenge.rw_reentry_k25_rules_led) (n := 63) (k := 9) (x := "_law_script") (sp := fun K => Jo.spLaw K) rfl (by decide) rfl ⟨rfl, by decide, by decide⟩ (fun w h Y => PySem.W.kIn_of Y) ?F (fun K H a ns hl _ _ hS => ⟨a, ns, rfl, hS, hl, fun _ => rfl⟩)
  case F =>
    intro w mg fa h KX G hmg
    refine' Jo.all_mk KX G hmg ?jg0 ?jr0 ?jg1 ?jr1 ?jg2 ?jr2 ?jg3 ?jr3 ?jaw ?jlw ?jcw ?jdw ?jsw ?jvw ?jah ?jlh ?jch ?jdh ?jsh ?jvh ?jz0 ?jz1 ?jz2 ?jz3 ?jz4 ?jz5 ?jz6 ?jz7 ?jz8 ?jz9 ?jz10 ?jz11 ?jz12 ?ja0 ?jl0 ?jc0 ?jk0 ?ja1 ?jl1 ?jc1 ?jk1 ?ja2 ?jl2 ?jc2 ?jk2 ?ja3 ?jl3 ?jc3 ?jk3 ?ja4 ?jl4 ?jc4 ?jk4 ?ja5 ?jl5 ?jc5 ?jk5 ?ja6 ?jl6 ?jc6 ?jk6 ?ja7 ?jl7 ?jc7 ?jk7 ?ja8 ?jl8 ?jc8 ?jk8 ?ja9 ?jl9 ?jc9 ?jk9 ?ja10 ?jl10 ?jc10 ?jk10 ?ja11 ?jl11 ?jc11 ?jk11 ?ja12 ?jl12 ?jc12 ?jk12 ?ja13 ?jl13 ?jc13 ?jk13 ?ja14 ?jl14 ?jc14 ?jk14 ?ja15 ?jl15 ?jc15 ?jk15 ?ja16 ?jl16 ?jc16 ?jk16 ?ja17 ?jl17 ?jc17 ?jk17 ?ja18 ?jl18 ?jc18 ?jk18 ?jaC ?ja30 ?jl30 ?jc30 ?jk30 ?ji30 ?ja31 ?jl31 ?jc31 ?jk31 ?ji31 ?ja32 ?jl32 ?jc32 ?jk32 ?ji32 ?ja33 ?jl33 ?jc33 ?jk33 ?ji33 ?jpg ?jhd ?jpo ?jsa ?jmk ?jkc ?jnS ?jnB ?jx1 ?jx2 ?jx3 ?jx4 ?jy0 ?jy1 ?jy2 ?jn1 ?jy3 ?jn2 ?jy4 ?jn3 ?jy5 ?jn4 ?jy6 ?jn5 ?jne ?jsb
    (case jaC => k_is)
    (case jg0 => k_is)
    (case jr0 => exact ⟨_, rfl⟩)
    (case jg1 => k_is)
    (case jr1 => exact ⟨_, rfl⟩)
    (case jg2 => k_is)
    (case jr2 => exact ⟨_, rfl⟩)
    (case jg3 => k_is)
    (case jr3 => exact ⟨_, rfl⟩)
    (case jaw => k_is)
    (case jlw => k_is)
    (case jcw => rfl)
    (case jdw => exact rfl)
    (case jsw => decide)
    (case jvw => exact .cons ⟨_, rfl⟩ (.cons ⟨_, rfl⟩ (.cons ⟨_, rfl⟩ (.cons ⟨_, rfl⟩ .nil))))
    (case jah => k_is)
    (case jlh => k_is)
    (case jch => rfl)
    (case jdh => exact rfl)
    (case jsh => decide)
    (case jvh => exact .cons ⟨_, rfl⟩ .nil)
    (case jz0 => k_is)
    (case jz1 => k_is)
    (case jz2 => k_is)
    (case jz3 => k_is)
    (case jz4 => k_is)
    (case jz5 => k_is)
    (case jz6 => k_is)
    (case jz7 => k_is)
    (case jz8 => k_is)
    (case jz9 => k_is)
    (case jz10 => k_is)
    (case jz11 => k_is)
    (case jz12 => k_is)
    (case ja0 => k_is)
    (case jl0 => k_is)
    (case jc0 => k_is)
    (case jk0 => k_is)
    (case ja1 => k_is)
    (case jl1 => k_is)
    (case jc1 => k_is)
    (case jk1 => k_is)
    (case ja2 => k_is)
    (case jl2 => k_is)
    (case jc2 => k_is)
    (case jk2 => k_is)
    (case ja3 => k_is)
    (case jl3 => k_is)
    (case jc3 => k_is)
    (case jk3 => k_is)
    (case ja4 => k_is)
    (case jl4 => k_is)
    (case jc4 => k_is)
    (case jk4 => k_is)
    (case ja5 => k_is)
    (case jl5 => k_is)
    (case jc5 => k_is)
    (case jk5 => k_is)
    (case ja6 => k_is)
    (case jl6 => k_is)
    (case jc6 => k_is)
    (case jk6 => k_is)
    (case ja7 => k_is)
    (case jl7 => k_is)
    (case jc7 => k_is)
    (case jk7 => k_is)
    (case ja8 => k_is)
    (case jl8 => k_is)
    (case jc8 => k_is)
    (case jk8 => k_is)
    (case ja9 => k_is)
    (case jl9 => k_is)
    (case jc9 => k_is)
    (case jk9 => k_is)
    (case ja10 => k_is)
    (case jl10 => k_is)
    (case jc10 => k_is)
    (case jk10 => k_is)
    (case ja11 => k_is)
    (case jl11 => k_is)
    (case jc11 => k_is)
    (case jk11 => k_is)
    (case ja12 => k_is)
    (case jl12 => k_is)
    (case jc12 => k_is)
    (case jk12 => k_is)
    (case ja13 => k_is)
    (case jl13 => k_is)
    (case jc13 => k_is)
    (case jk13 => k_is)
    (case ja14 => k_is)
    (case jl14 => k_is)
    (case jc14 => k_is)
    (case jk14 => k_is)
    (case ja15 => k_is)
    (case jl15 => k_is)
    (case jc15 => k_is)
    (case jk15 => k_is)
    (case ja16 => k_is)
    (case jl16 => k_is)
    (case jc16 => k_is)
    (case jk16 => k_is)
    (case ja17 => k_is)
    (case jl17 => k_is)
    (case jc17 => k_is)
    (case jk17 => k_is)
    (case ja18 => k_is)
    (case jl18 => k_is)
    (case jc18 => k_is)
    (case jk18 => k_is)
    (case ja30 => k_is)
    (case jl30 => k_is)
    (case jc30 => k_is)
    (case jk30 => k_is)
    (case ji30 => k_is)
    (case ja31 => k_is)
    (case jl31 => k_is)
    (case jc31 => k_is)
    (case jk31 => k_is)
    (case ji31 => k_is)
    (case ja32 => k_is)
    (case jl32 => k_is)
    (case jc32 => k_is)
    (case jk32 => k_is)
    (case ji32 => k_is)
    (case ja33 => k_is)
    (case jl33 => k_is)
    (case jc33 => k_is)
    (case jk33 => k_is)
    (case ji33 => k_is)
    (case jpg => k_is)
    (case jhd => k_is)
    (case jpo => k_is)
    (case jsa => k_is)
    (case jmk => k_is)
    (case jkc => k_is)
    (case jnS => k_is)
    (case jnB => k_is)
    (case jx1 => k_is)
    (case jx2 => k_is)
    (case jx3 => k_is)
    (case jx4 => k_is)
    (case jy0 => k_is)
    (case jy1 => k_is)
    (case jy2 => k_is)
    (case jn1 => k_is)
    (case jy3 => k_is)
    (case jn2 => k_is)
    (case jy4 => k_is)
    (case jn3 => k_is)
    (case jy5 => k_is)
    (case jn4 => k_is)
    (case jy6 => k_is)
    (case jn5 => k_is)
    (case jne => k_is)
    (case jsb => k_is)

